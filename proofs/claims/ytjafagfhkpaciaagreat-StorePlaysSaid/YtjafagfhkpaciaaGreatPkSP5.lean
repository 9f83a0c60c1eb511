/- Texts put together by packtpl2.py: StoPg0, StoIt, StoKeys, OwnNe, StoPgL, Apnd, StoPgO, StoPgU, StoLst, StoDoN, StoAny, SdTie, Chain, SdIt, SdTi2. -/
import Derived.Test.YtjafagfhkpaciaaGreatPkSP1
import Derived.Test.YtjafagfhkpaciaaGreatPkSP2
import Derived.Test.YtjafagfhkpaciaaGreatPkSP3
import Derived.Test.YtjafagfhkpaciaaGreatPkSP4
import Derived.Deep.CutBlock
import Derived.BigRegion
import Derived.Shelf.Sort.Plain
import Derived.Shelf.Slices.In.SortNone
import Derived.Shelf.SlIter.Nil
import Derived.Shelf.SlIterI.Nil
import Derived.Shelf.SlMaps.Clone
import Derived.HandedShaped
import Derived.Sort.OwnSorted
import Derived.Maps.AppendAt
import Derived.Deep.RegionLaw
section PkSP5_0
/- The closures of the store's list and opened, walked. -/
namespace Go.Proofs.YtjafagfhkpaciaaGreat
open Go.RowKit
set_option linter.unusedVariables false

structure ItemV where
  key : ByteArray
  ver : Int
  size : Int
  born : Int
def ItemS : Sty ItemV := ⟨fun x => [.string x.key, .int .i64 x.ver, .int .i64 x.size, .int .i64 x.born], 4, ⟨ByteArray.empty, 0, 0, 0⟩, fun _ _ => True, by decide, fun _ => rfl, (fun x u hu => by
  simp only [List.mem_cons, List.not_mem_nil, or_false] at hu
  rcases hu with rfl | rfl | rfl | rfl <;> rfl), fun _ h => h⟩
def itemV (x : ItemV) : Value := .agg #[.string x.key, .int .i64 x.ver, .int .i64 x.size, .int .i64 x.born]
def gtB (k beh : ByteArray) : Bool := !Op.bytesLess k.toList beh.toList && !k.toList == beh.toList
def wantK (pre beh k : ByteArray) : Bool := Lib.hasPrefix k.data.toList pre.data.toList && gtB k beh
def itemO (k : ByteArray) (o : ObjS) : ItemV := ⟨k, o.ver, (o.data.size : Int), o.born⟩
set_option maxRecDepth 100000 in
set_option maxHeartbeats 1000000 in
theorem listWant_any {w : World} {cb bb : Nat} {pre beh : ByteArray} (h1 : w.cell? ⟨cb, 1, none⟩ = some (.string pre)) (h2 : w.cell? ⟨bb, 0, none⟩ = some (.string beh)) (k : ByteArray) :
    Calls Tryz.prog 44 #[.string k, .pointer (some ⟨cb, 0, none⟩), .pointer (some ⟨bb, 0, none⟩)] w fun e w' => e = .returned (.bool (wantK pre beh k)) ∧ w' = w := by
  have HP := Lib.hid (sh_strings_HasPrefix k pre w)
  go_enter Tryz.func44, Tryz.ntmps44
  go_wp2_with fail
  refine HP.out.mono ?_
  rintro e w1 ⟨rfl, rfl⟩
  cases hp : Lib.hasPrefix k.data.toList pre.data.toList with
  | true =>
    go_wp2_with fail
    first | go_ret2 | go_ret
    exact ⟨by unfold wantK gtB; rw [hp]; rfl, rfl⟩
  | false =>
    go_wp2_with fail
    first | go_ret2 | go_ret
    exact ⟨by unfold wantK; rw [hp]; rfl, rfl⟩
set_option maxRecDepth 100000 in
set_option maxHeartbeats 1000000 in
theorem listItem_any (w : World) (k d : ByteArray) (v b : Int) :
    Calls Tryz.prog 47 #[.string k, .agg #[.string d, .int .i64 v, .int .i64 b]] w fun e w' => e = .returned (.agg #[.string k, .int .i64 v, .int .i64 (d.size : Int), .int .i64 b]) ∧ Below w.heap.size w w' := by
  go_enter Tryz.func47, Tryz.ntmps47
  go_wp2_with fail
  have h1 : ((w.alloc (.cells #[.string d, .int .i64 v, .int .i64 b] 74)).alloc (.cells #[.string k, .int .i64 v, .int .i64 (d.size : Int), .int .i64 b] 54)).heap[w.heap.size + 1]? = some (.cells #[.string k, .int .i64 v, .int .i64 (d.size : Int), .int .i64 b] 54 (0, 0)) := by
    have := heap_new (w.alloc (.cells #[.string d, .int .i64 v, .int .i64 b] 74)) (.cells #[.string k, .int .i64 v, .int .i64 (d.size : Int), .int .i64 b] 54)
    rwa [show (w.alloc (.cells #[.string d, .int .i64 v, .int .i64 b] 74)).heap.size = w.heap.size + 1 from by simp] at this
  exact bodyPost_ret (ret_cell rfl _ _ (w.heap.size + 1) 54 _ _ _ rfl h1 Tryz.underlying54 rfl (by kernel_rfl)) rfl ⟨rfl, ((Below.refl _ _).alloc (Nat.le_refl _) _).alloc (by simp) _⟩
set_option maxRecDepth 100000 in
set_option maxHeartbeats 1000000 in
theorem openWant_any {w : World} {cb : Nat} {id : Int} (h1 : w.cell? ⟨cb, 6, none⟩ = some (.int .i64 id)) (k : Int) :
    Calls Tryz.prog 52 #[.int .i64 k, .pointer (some ⟨cb, 0, none⟩)] w fun e w' => e = .returned (.bool (decide (id < k))) ∧ w' = w := by
  go_enter Tryz.func52, Tryz.ntmps52
  go_wp2_with fail
  first | go_ret2 | go_ret
  exact ⟨rfl, rfl⟩
theorem setI_end {w w9 : World} {R : Nat} {y0 y1 y2 y3 : Value} {t : TypeId} (g : w9.heap[R]? = some (.cells #[y0, y1, y2, y3] t (0, 0))) (hb : Below w.heap.size w w9) (hR : w.heap.size ≤ R) (x0 x1 x2 x3 : Value) :
    ((((w9.setCell ⟨R, 0, none⟩ x0).setCell ⟨R, 1, none⟩ x1).setCell ⟨R, 2, none⟩ x2).setCell ⟨R, 3, none⟩ x3).heap[R]? = some (.cells #[x0, x1, x2, x3] t (0, 0)) ∧
    Below w.heap.size w ((((w9.setCell ⟨R, 0, none⟩ x0).setCell ⟨R, 1, none⟩ x1).setCell ⟨R, 2, none⟩ x2).setCell ⟨R, 3, none⟩ x3) := by
  have h0 := heap_setCell_same w9 R 0 _ _ x0 g
  have h1 := heap_setCell_same _ R 1 _ _ x1 h0
  have h2 := heap_setCell_same _ R 2 _ _ x2 h1
  have h3 := heap_setCell_same _ R 3 _ _ x3 h2
  refine ⟨h3.trans rfl, ?_⟩
  have f := ((((Frm.refl (fun b => b = R) w9).set (p := R) (.inl rfl) 0 x0).set (p := R) (.inl rfl) 1 x1).set (p := R) (.inl rfl) 2 x2).set (p := R) (.inl rfl) 3 x3
  exact hb.trans (f.toBelow hb.size (fun i e => by rw [e]; exact hR))
set_option maxRecDepth 100000 in
set_option maxHeartbeats 4000000 in
theorem openItem_any {w : World} {p : Nat} {l : List (Int × ByteArray)} (h : GM TP ilit prtC w p l) (hw : ∀ x ∈ l, (Lit.int .i64 x.1).wf = true) (hs : psz l ≤ 1000000000) (k : Int) (us : ByteArray) (ub : Int) :
    Calls Tryz.prog 54 #[.int .i64 k, .agg #[.string us, .int .i64 ub, .map (some p)]] w fun e w' => e = .returned (.agg #[.string us, .int .i64 k, .int .i64 ((psz l : Nat) : Int), .int .i64 ub]) ∧ Below w.heap.size w w' := by
  obtain ⟨w1, hw1⟩ : ∃ w1, w1 = (w.alloc (.cells #[.string us, .int .i64 ub, .map (some p)] 82)).alloc (.cells #[.string { data := #[] }, .int .i64 0, .int .i64 0, .int .i64 0] 54) := ⟨_, rfl⟩
  have hb1 : Below w.heap.size w w1 := by rw [hw1]; exact ((Below.refl _ _).alloc (Nat.le_refl _) _).alloc (by simp) _
  have hu : w1.heap[w.heap.size]? = some (.cells #[.string us, .int .i64 ub, .map (some p)] 82 (0, 0)) := by
    rw [hw1]; exact (Below.heap_alloc _ _ _ (by simp)).trans (heap_new w _)
  have hi : w1.heap[w.heap.size + 1]? = some (.cells #[.string { data := #[] }, .int .i64 0, .int .i64 0, .int .i64 0] 54 (0, 0)) := by
    have := heap_new (w.alloc (.cells #[.string us, .int .i64 ub, .map (some p)] 82)) (.cells #[.string { data := #[] }, .int .i64 0, .int .i64 0, .int .i64 0] 54)
    rw [← hw1] at this
    rwa [show (w.alloc (.cells #[.string us, .int .i64 ub, .map (some p)] 82)).heap.size = w.heap.size + 1 from by simp] at this
  have HC := Lib.hid (size_any (h.below (hb1.trans (Below.refl _ w1).drew)) hw hs us ub)
  have HK := Lib.hid (show ∀ w9, Below w1.drew.heap.size w1.drew w9 → (w9.cell? ⟨w.heap.size, 0, none⟩ = some (.string us) ∧ w9.cell? ⟨w.heap.size, 1, none⟩ = some (.int .i64 ub)) ∧ w9.heap[w.heap.size + 1]? = some (.cells #[.string { data := #[] }, .int .i64 0, .int .i64 0, .int .i64 0] 54 (0, 0)) ∧ Below w.heap.size w w9 from fun w9 h9 => by
    have h2 : Below w1.heap.size w1 w9 := ((Below.refl _ _).drew).trans h9
    have g1 := (h2.block _ (Array.getElem?_eq_some_iff.1 hu).1).trans hu
    exact ⟨⟨cell_blk2 g1 rfl, cell_blk2 g1 rfl⟩, (h2.block _ (Array.getElem?_eq_some_iff.1 hi).1).trans hi, hb1.trans (h2.mono hb1.size)⟩)
  have u0 := cell_blk2 hu (i := 0) (u := .string us) rfl
  have u1 := cell_blk2 hu (i := 1) (u := .int .i64 ub) rfl
  have u2 := cell_blk2 hu (i := 2) (u := .map (some p)) rfl
  have HW1 := Lib.hid hw1
  clear h hw hs hb1 hu hi hw1
  go_enter Tryz.func54, Tryz.ntmps54
  go_upto_region 1 with fail
  rw [← HW1.out]
  go_region_with (go_at_call 55; refine HC.out.mono ?_; rintro e w9 ⟨rfl, hb9⟩; obtain ⟨⟨g0, g1⟩, g2, g3⟩ := HK.out w9 hb9; have HG2 := Lib.hid g2; have HG3 := Lib.hid g3; have i0 := cell_blk2 g2 (i := 0) rfl; have i1 := cell_blk2 g2 (i := 1) rfl; have i2 := cell_blk2 g2 (i := 2) rfl; have i3 := cell_blk2 g2 (i := 3) rfl; have f0 := fro_blk2 g2 0; have f1 := fro_blk2 g2 1; have f2 := fro_blk2 g2 2; have f3 := fro_blk2 g2 3; rw [show totK (fun d : ByteArray => d.size) l = psz l from rfl]; clear g2 g3 hb9)
  all_goals
    go_wp2_with fail
    obtain ⟨e1, e2⟩ := setI_end HG2.out HG3.out (Nat.le_succ _) (.string us) (.int .i64 k) (.int .i64 ((psz l : Nat) : Int)) (.int .i64 ub)
    exact bodyPost_ret (ret_cell rfl _ _ (w.heap.size + 1) 54 _ _ _ rfl e1 Tryz.underlying54 rfl (by kernel_rfl)) rfl ⟨rfl, e2⟩
end Go.Proofs.YtjafagfhkpaciaaGreat
end PkSP5_0
section PkSP5_1
/- Contracts of the library's functions at this program, laid in plain words. -/
namespace Go.Proofs.YtjafagfhkpaciaaGreat
open Go.Shelf
set_option linter.unusedVariables false
def sh_lays189_ren : Go.Shelf.Ren := ⟨fun | 189 => 66 | 125 => 71 | 257 => 73 | 128 => 83 | 129 => 84 | 294 => 85 | 295 => 86 | 296 => 87 | 297 => 88 | 298 => 89 | 299 => 90 | 216 => 91 | 300 => 92 | 301 => 93 | 328 => 100 | 329 => 95 | 330 => 96 | 331 => 101 | 332 => 102 | 215 => 103 | 343 => 105 | n => n, fun | 28 => 71 | 3 => 3 | 46 => 115 | 0 => 0 | 51 => 127 | 53 => 129 | 4 => 4 | 183 => 120 | 182 => 119 | 131 => 124 | 5 => 5 | 9 => 9 | 218 => 136 | 222 => 140 | 228 => 144 | 229 => 145 | n => n, fun | n => n⟩
theorem sh_lays189 : Go.Proofs.Lays.n189 Tryz.prog sh_lays189_ren := {
  mixed := by kernel_rfl
  f125 := Tryz.func71.trans (congrArg some (by kernel_rfl))
  f128 := Tryz.func83.trans (congrArg some (by kernel_rfl))
  f129 := Tryz.func84.trans (congrArg some (by kernel_rfl))
  f189 := Tryz.func66.trans (congrArg some (by kernel_rfl))
  f215 := Tryz.func103.trans (congrArg some (by kernel_rfl))
  f216 := Tryz.func91.trans (congrArg some (by kernel_rfl))
  f257 := Tryz.func73.trans (congrArg some (by kernel_rfl))
  f294 := Tryz.func85.trans (congrArg some (by kernel_rfl))
  f295 := Tryz.func86.trans (congrArg some (by kernel_rfl))
  f296 := Tryz.func87.trans (congrArg some (by kernel_rfl))
  f297 := Tryz.func88.trans (congrArg some (by kernel_rfl))
  f298 := Tryz.func89.trans (congrArg some (by kernel_rfl))
  f299 := Tryz.func90.trans (congrArg some (by kernel_rfl))
  f300 := Tryz.func92.trans (congrArg some (by kernel_rfl))
  f301 := Tryz.func93.trans (congrArg some (by kernel_rfl))
  f328 := Tryz.func100.trans (congrArg some (by kernel_rfl))
  f329 := Tryz.func95.trans (congrArg some (by kernel_rfl))
  f330 := Tryz.func96.trans (congrArg some (by kernel_rfl))
  f331 := Tryz.func101.trans (congrArg some (by kernel_rfl))
  f332 := Tryz.func102.trans (congrArg some (by kernel_rfl))
  f343 := Tryz.func105.trans (congrArg some (by kernel_rfl))
  t0 := Tryz.underlying0
  a0 := Tryz.isAgg0
  z0 := Tryz.sizeOf0
  v0 := Tryz.zeroValue0
  t3 := Tryz.underlying3
  a3 := Tryz.isAgg3
  z3 := Tryz.sizeOf3
  v3 := Tryz.zeroValue3
  t4 := Tryz.underlying4
  a4 := Tryz.isAgg4
  z4 := Tryz.sizeOf4
  v4 := Tryz.zeroValue4
  t5 := Tryz.underlying5
  a5 := Tryz.isAgg5
  z5 := Tryz.sizeOf5
  v5 := Tryz.zeroValue5
  t9 := Tryz.underlying9
  a9 := Tryz.isAgg9
  z9 := Tryz.sizeOf9
  v9 := Tryz.zeroValue9
  t28 := Tryz.underlying71
  a28 := Tryz.isAgg71
  z28 := Tryz.sizeOf71
  v28 := Tryz.zeroValue71
  t46 := Tryz.underlying115
  a46 := Tryz.isAgg115
  z46 := Tryz.sizeOf115
  v46 := Tryz.zeroValue115
  t51 := Tryz.underlying127
  a51 := Tryz.isAgg127
  z51 := Tryz.sizeOf127
  v51 := Tryz.zeroValue127
  t53 := Tryz.underlying129
  a53 := Tryz.isAgg129
  z53 := Tryz.sizeOf129
  v53 := Tryz.zeroValue129
  t131 := Tryz.underlying124
  a131 := Tryz.isAgg124
  z131 := Tryz.sizeOf124
  v131 := Tryz.zeroValue124
  t182 := Tryz.underlying119
  a182 := Tryz.isAgg119
  z182 := Tryz.sizeOf119
  v182 := Tryz.zeroValue119
  t183 := Tryz.underlying120
  a183 := Tryz.isAgg120
  z183 := Tryz.sizeOf120
  v183 := Tryz.zeroValue120
  t218 := Tryz.underlying136
  a218 := Tryz.isAgg136
  z218 := Tryz.sizeOf136
  v218 := Tryz.zeroValue136
  t222 := Tryz.underlying140
  a222 := Tryz.isAgg140
  z222 := Tryz.sizeOf140
  v222 := Tryz.zeroValue140
  t228 := Tryz.underlying144
  a228 := Tryz.isAgg144
  z228 := Tryz.sizeOf144
  v228 := Tryz.zeroValue144
  t229 := Tryz.underlying145
  a229 := Tryz.isAgg145
  z229 := Tryz.sizeOf145
  v229 := Tryz.zeroValue145 }
open Go.Sort Go.RowKit in
theorem sh_slices_Sort_int (blk off cap : Nat) (zs : List Int) (w : World) (hH : Holds (Value.int .i64) w blk off zs.toArray) (hblk : blk < w.heap.size) (hsz : zs.length < 4611686018427387904) :
    Calls Tryz.prog 66 #[.slice (some ⟨blk, off, none⟩) zs.length cap] w fun e w' =>
      e = .returned (.tuple #[]) ∧ ∃ n os, w' = grow (putRow (Value.int .i64) (Sort.ahead w n) blk off (zs.mergeSort fun x y => decide (x ≤ y)).toArray) os := Any.slices_Sort_int sh_lays189 blk off cap zs w hH hblk hsz
open Go.RowKit Go.Sort in
theorem sh_slices_Sort_int_none (p : Option Addr) (cap : Nat) (w : World) :
    Calls Tryz.prog 66 #[.slice p 0 cap] w fun e w' => e = .returned (.tuple #[]) ∧ w' = w := Any.slices_Sort_int_none sh_lays189 p cap w
def sh_lays190_ren : Go.Shelf.Ren := ⟨fun | 190 => 63 | 125 => 71 | 258 => 70 | 128 => 83 | 129 => 84 | 302 => 74 | 303 => 75 | 304 => 76 | 305 => 77 | 306 => 78 | 307 => 79 | 308 => 80 | 309 => 81 | 310 => 82 | 333 => 94 | 329 => 95 | 330 => 96 | 334 => 97 | 335 => 98 | 336 => 99 | 344 => 104 | n => n, fun | 31 => 69 | 9 => 9 | 3 => 3 | 46 => 115 | 0 => 0 | 51 => 127 | 53 => 129 | 4 => 4 | 183 => 120 | 182 => 119 | 131 => 124 | 5 => 5 | 218 => 136 | 222 => 140 | 228 => 144 | 229 => 145 | n => n, fun | n => n⟩
theorem sh_lays190 : Go.Proofs.Lays.n190 Tryz.prog sh_lays190_ren := {
  mixed := by kernel_rfl
  f125 := Tryz.func71.trans (congrArg some (by kernel_rfl))
  f128 := Tryz.func83.trans (congrArg some (by kernel_rfl))
  f129 := Tryz.func84.trans (congrArg some (by kernel_rfl))
  f190 := Tryz.func63.trans (congrArg some (by kernel_rfl))
  f258 := Tryz.func70.trans (congrArg some (by kernel_rfl))
  f302 := Tryz.func74.trans (congrArg some (by kernel_rfl))
  f303 := Tryz.func75.trans (congrArg some (by kernel_rfl))
  f304 := Tryz.func76.trans (congrArg some (by kernel_rfl))
  f305 := Tryz.func77.trans (congrArg some (by kernel_rfl))
  f306 := Tryz.func78.trans (congrArg some (by kernel_rfl))
  f307 := Tryz.func79.trans (congrArg some (by kernel_rfl))
  f308 := Tryz.func80.trans (congrArg some (by kernel_rfl))
  f309 := Tryz.func81.trans (congrArg some (by kernel_rfl))
  f310 := Tryz.func82.trans (congrArg some (by kernel_rfl))
  f329 := Tryz.func95.trans (congrArg some (by kernel_rfl))
  f330 := Tryz.func96.trans (congrArg some (by kernel_rfl))
  f333 := Tryz.func94.trans (congrArg some (by kernel_rfl))
  f334 := Tryz.func97.trans (congrArg some (by kernel_rfl))
  f335 := Tryz.func98.trans (congrArg some (by kernel_rfl))
  f336 := Tryz.func99.trans (congrArg some (by kernel_rfl))
  f344 := Tryz.func104.trans (congrArg some (by kernel_rfl))
  t0 := Tryz.underlying0
  a0 := Tryz.isAgg0
  z0 := Tryz.sizeOf0
  v0 := Tryz.zeroValue0
  t3 := Tryz.underlying3
  a3 := Tryz.isAgg3
  z3 := Tryz.sizeOf3
  v3 := Tryz.zeroValue3
  t4 := Tryz.underlying4
  a4 := Tryz.isAgg4
  z4 := Tryz.sizeOf4
  v4 := Tryz.zeroValue4
  t5 := Tryz.underlying5
  a5 := Tryz.isAgg5
  z5 := Tryz.sizeOf5
  v5 := Tryz.zeroValue5
  t9 := Tryz.underlying9
  a9 := Tryz.isAgg9
  z9 := Tryz.sizeOf9
  v9 := Tryz.zeroValue9
  t31 := Tryz.underlying69
  a31 := Tryz.isAgg69
  z31 := Tryz.sizeOf69
  v31 := Tryz.zeroValue69
  t46 := Tryz.underlying115
  a46 := Tryz.isAgg115
  z46 := Tryz.sizeOf115
  v46 := Tryz.zeroValue115
  t51 := Tryz.underlying127
  a51 := Tryz.isAgg127
  z51 := Tryz.sizeOf127
  v51 := Tryz.zeroValue127
  t53 := Tryz.underlying129
  a53 := Tryz.isAgg129
  z53 := Tryz.sizeOf129
  v53 := Tryz.zeroValue129
  t131 := Tryz.underlying124
  a131 := Tryz.isAgg124
  z131 := Tryz.sizeOf124
  v131 := Tryz.zeroValue124
  t182 := Tryz.underlying119
  a182 := Tryz.isAgg119
  z182 := Tryz.sizeOf119
  v182 := Tryz.zeroValue119
  t183 := Tryz.underlying120
  a183 := Tryz.isAgg120
  z183 := Tryz.sizeOf120
  v183 := Tryz.zeroValue120
  t218 := Tryz.underlying136
  a218 := Tryz.isAgg136
  z218 := Tryz.sizeOf136
  v218 := Tryz.zeroValue136
  t222 := Tryz.underlying140
  a222 := Tryz.isAgg140
  z222 := Tryz.sizeOf140
  v222 := Tryz.zeroValue140
  t228 := Tryz.underlying144
  a228 := Tryz.isAgg144
  z228 := Tryz.sizeOf144
  v228 := Tryz.zeroValue144
  t229 := Tryz.underlying145
  a229 := Tryz.isAgg145
  z229 := Tryz.sizeOf145
  v229 := Tryz.zeroValue145 }
open Go.Sort Go.RowKit in
theorem sh_slices_Sort_string (blk off cap : Nat) (ss : List (List UInt8)) (w : World) (hH : Holds encStr w blk off ss.toArray) (hblk : blk < w.heap.size) (hsz : ss.length < 4611686018427387904) :
    Calls Tryz.prog 63 #[.slice (some ⟨blk, off, none⟩) ss.length cap] w fun e w' =>
      e = .returned (.tuple #[]) ∧ ∃ n os, w' = grow (putRow encStr (Sort.ahead w n) blk off (ss.mergeSort fun x y => decide (x ≤ y)).toArray) os := Any.slices_Sort_string sh_lays190 blk off cap ss w hH hblk hsz
open Go.RowKit Go.Sort in
theorem sh_slices_Sort_string_none (p : Option Addr) (cap : Nat) (w : World) :
    Calls Tryz.prog 63 #[.slice p 0 cap] w fun e w' => e = .returned (.tuple #[]) ∧ w' = w := Any.slices_Sort_string_none sh_lays190 p cap w
def sh_keys37_ren : Go.Shelf.Ren := ⟨fun | 7 => 57 | 10 => 64 | n => n, fun | 23 => 48 | 26 => 9 | 3 => 74 | 28 => 101 | 0 => 0 | 27 => 100 | 33 => 57 | 4 => 4 | n => n, fun | n => n⟩
theorem sh_keys37 : Go.Proofs.SlLaysZ.n7 Tryz.prog sh_keys37_ren := {
  mixed := by kernel_rfl
  f7 := ⟨Tryz.f57.name, by decide, Tryz.func57.trans (congrArg some (by kernel_rfl))⟩
  f10 := ⟨Tryz.f64.name, by decide, Tryz.func64.trans (congrArg some (by kernel_rfl))⟩
  t0 := Tryz.underlying0
  a0 := Tryz.isAgg0
  z0 := Tryz.sizeOf0
  v0 := Tryz.zeroValue0
  t4 := Tryz.underlying4
  a4 := Tryz.isAgg4
  z4 := Tryz.sizeOf4
  v4 := Tryz.zeroValue4
  t23 := Tryz.underlying48
  a23 := Tryz.isAgg48
  z23 := Tryz.sizeOf48
  v23 := Tryz.zeroValue48
  t26 := Tryz.underlying9
  a26 := Tryz.isAgg9
  z26 := Tryz.sizeOf9
  v26 := Tryz.zeroValue9
  t27 := Tryz.underlying100
  a27 := Tryz.isAgg100
  z27 := Tryz.sizeOf100
  v27 := Tryz.zeroValue100
  t28 := Tryz.underlying101
  a28 := Tryz.isAgg101
  z28 := Tryz.sizeOf101
  v28 := Tryz.zeroValue101
  t33 := Tryz.underlying57
  a33 := Tryz.isAgg57
  z33 := Tryz.sizeOf57
  v33 := Tryz.zeroValue57 }
def sh_sorted36_ren : Go.Shelf.Ren := ⟨fun | 6 => 56 | 8 => 62 | 9 => 63 | 11 => 69 | 13 => 71 | 12 => 70 | 23 => 83 | 24 => 84 | 14 => 74 | 15 => 75 | 16 => 76 | 17 => 77 | 18 => 78 | 19 => 79 | 20 => 80 | 21 => 81 | 22 => 82 | 25 => 94 | 26 => 95 | 27 => 96 | 28 => 97 | 29 => 98 | 30 => 99 | 31 => 104 | n => n, fun | 26 => 9 | 28 => 101 | 24 => 69 | 0 => 0 | 3 => 3 | 37 => 115 | 48 => 127 | 50 => 129 | 4 => 4 | 40 => 120 | 39 => 119 | 45 => 124 | 5 => 5 | 9 => 9 | 51 => 136 | 55 => 140 | 57 => 144 | 58 => 145 | 33 => 57 | n => n, fun | n => n⟩
theorem sh_sorted36 : Go.Proofs.SlLaysZ.n6 Tryz.prog sh_sorted36_ren := {
  mixed := by kernel_rfl
  f6 := ⟨Tryz.f56.name, by decide, Tryz.func56.trans (congrArg some (by kernel_rfl))⟩
  f8 := ⟨Tryz.f62.name, by decide, Tryz.func62.trans (congrArg some (by kernel_rfl))⟩
  f11 := ⟨Tryz.f69.name, by decide, Tryz.func69.trans (congrArg some (by kernel_rfl))⟩
  t0 := Tryz.underlying0
  a0 := Tryz.isAgg0
  z0 := Tryz.sizeOf0
  v0 := Tryz.zeroValue0
  t24 := Tryz.underlying69
  a24 := Tryz.isAgg69
  z24 := Tryz.sizeOf69
  v24 := Tryz.zeroValue69
  t26 := Tryz.underlying9
  a26 := Tryz.isAgg9
  z26 := Tryz.sizeOf9
  v26 := Tryz.zeroValue9
  t28 := Tryz.underlying101
  a28 := Tryz.isAgg101
  z28 := Tryz.sizeOf101
  v28 := Tryz.zeroValue101
  i26 := by kernel_rfl }
def sh_keys39_ren : Go.Shelf.Ren := ⟨fun | 7 => 59 | 10 => 67 | n => n, fun | 23 => 49 | 26 => 3 | 3 => 82 | 28 => 105 | 0 => 0 | 27 => 104 | 33 => 76 | 4 => 4 | n => n, fun | n => n⟩
theorem sh_keys39 : Go.Proofs.SlLaysZI.n7 Tryz.prog sh_keys39_ren := {
  mixed := by kernel_rfl
  f7 := ⟨Tryz.f59.name, by decide, Tryz.func59.trans (congrArg some (by kernel_rfl))⟩
  f10 := ⟨Tryz.f67.name, by decide, Tryz.func67.trans (congrArg some (by kernel_rfl))⟩
  t0 := Tryz.underlying0
  a0 := Tryz.isAgg0
  z0 := Tryz.sizeOf0
  v0 := Tryz.zeroValue0
  t4 := Tryz.underlying4
  a4 := Tryz.isAgg4
  z4 := Tryz.sizeOf4
  v4 := Tryz.zeroValue4
  t23 := Tryz.underlying49
  a23 := Tryz.isAgg49
  z23 := Tryz.sizeOf49
  v23 := Tryz.zeroValue49
  t26 := Tryz.underlying3
  a26 := Tryz.isAgg3
  z26 := Tryz.sizeOf3
  v26 := Tryz.zeroValue3
  t27 := Tryz.underlying104
  a27 := Tryz.isAgg104
  z27 := Tryz.sizeOf104
  v27 := Tryz.zeroValue104
  t28 := Tryz.underlying105
  a28 := Tryz.isAgg105
  z28 := Tryz.sizeOf105
  v28 := Tryz.zeroValue105
  t33 := Tryz.underlying76
  a33 := Tryz.isAgg76
  z33 := Tryz.sizeOf76
  v33 := Tryz.zeroValue76 }
def sh_sorted38_ren : Go.Shelf.Ren := ⟨fun | 6 => 58 | 8 => 65 | 9 => 66 | 11 => 72 | 13 => 71 | 12 => 73 | 23 => 83 | 24 => 84 | 14 => 85 | 15 => 86 | 16 => 87 | 17 => 88 | 18 => 89 | 19 => 90 | 20 => 91 | 21 => 92 | 22 => 93 | 25 => 100 | 26 => 95 | 27 => 96 | 28 => 101 | 29 => 102 | 30 => 103 | 31 => 105 | n => n, fun | 26 => 3 | 28 => 105 | 24 => 71 | 0 => 0 | 3 => 3 | 37 => 115 | 48 => 127 | 50 => 129 | 4 => 4 | 40 => 120 | 39 => 119 | 45 => 124 | 5 => 5 | 9 => 9 | 51 => 136 | 55 => 140 | 57 => 144 | 58 => 145 | 33 => 76 | n => n, fun | n => n⟩
theorem sh_sorted38 : Go.Proofs.SlLaysZI.n6 Tryz.prog sh_sorted38_ren := {
  mixed := by kernel_rfl
  f6 := ⟨Tryz.f58.name, by decide, Tryz.func58.trans (congrArg some (by kernel_rfl))⟩
  f8 := ⟨Tryz.f65.name, by decide, Tryz.func65.trans (congrArg some (by kernel_rfl))⟩
  f11 := ⟨Tryz.f72.name, by decide, Tryz.func72.trans (congrArg some (by kernel_rfl))⟩
  t0 := Tryz.underlying0
  a0 := Tryz.isAgg0
  z0 := Tryz.sizeOf0
  v0 := Tryz.zeroValue0
  t24 := Tryz.underlying71
  a24 := Tryz.isAgg71
  z24 := Tryz.sizeOf71
  v24 := Tryz.zeroValue71
  t26 := Tryz.underlying3
  a26 := Tryz.isAgg3
  z26 := Tryz.sizeOf3
  v26 := Tryz.zeroValue3
  t28 := Tryz.underlying105
  a28 := Tryz.isAgg105
  z28 := Tryz.sizeOf105
  v28 := Tryz.zeroValue105
  i26 := by kernel_rfl }
end Go.Proofs.YtjafagfhkpaciaaGreat
end PkSP5_1
section PkSP5_2
/- The store's keys and its uploads' IDs: slices.Sorted of maps.Keys, by the shelf's contracts. -/
namespace Go.Proofs.YtjafagfhkpaciaaGreat
open Go.RowKit Go.Shelf Go.Maps Go.Sort
set_option linter.unusedVariables false

theorem GM.rise {κ α : Type} {T : MTy} {lit : κ → Lit} {f : α → Value} {w : World} {M : Nat} {l : List (κ × α)} (h : GM T lit f w M l) : l.Pairwise fun p q => (lit p.1).before (lit q.1) = true := by
  obtain ⟨es, he, hp, _⟩ := World.ownsMap.canon h T.K
  have e1 : es = encK lit f l := by cases he; rfl
  rw [e1] at hp
  unfold encK at hp
  exact (List.pairwise_map (f := fun p : κ × α => (lit p.1, (DataW.held (f p.2) : DataW Value))) (R := fun p q => p.1.before q.1 = true)).1 hp
def idsOf (l : List (Int × UplS)) : List Int := l.map (·.1)
def kysOf (l : List (ByteArray × ObjS)) : List (List UInt8) := l.map (·.1.data.toList)
theorem ids_keys {α : Type} {f : α → Value} (l : List (Int × α)) : intKeys (DataW.map (encK ilit f l)) = l.map (·.1) := by
  unfold intKeys encK
  simp only [List.map_map]
  rfl
theorem kys_keys {α : Type} {f : α → Value} (l : List (ByteArray × α)) : strKeys (DataW.map (encK slit f l)) = l.map (·.1.data.toList) := by
  unfold strKeys encK
  simp only [List.map_map]
  rfl
theorem ids_rise {l : List (Int × UplS)} (h : l.Pairwise fun p q => (ilit p.1).before (ilit q.1) = true) : (idsOf l).Pairwise (· < ·) := by
  unfold idsOf
  refine List.pairwise_map.2 (h.imp fun {p q} hb => ?_)
  simpa [ilit, Lit.before] using hb
theorem bb_lt : ∀ a b : List UInt8, bytesBefore a b = true → a < b
  | [], [], h => by cases h
  | [], b :: s, _ => List.nil_lt_cons _ _
  | a :: r, [], h => by cases h
  | a :: r, b :: s, h => by
    unfold bytesBefore at h
    rw [List.cons_lt_cons_iff]
    rcases Bool.or_eq_true_iff.1 h with g | g
    · exact .inl (by simpa using g)
    · obtain ⟨g1, g2⟩ := Bool.and_eq_true_iff.1 g
      exact .inr ⟨by simpa using g1, bb_lt r s g2⟩
theorem kys_rise {l : List (ByteArray × ObjS)} (h : l.Pairwise fun p q => (slit p.1).before (slit q.1) = true) : (kysOf l).Pairwise (· < ·) := by
  unfold kysOf
  refine List.pairwise_map.2 (h.imp fun {p q} hb => ?_)
  exact bb_lt _ _ (by simpa [slit, Lit.before] using hb)
theorem ids_sorted {l : List (Int × UplS)} (h : l.Pairwise fun p q => (ilit p.1).before (ilit q.1) = true) {ss : List Int} (hp : ss.Perm (idsOf l)) : (ss.mergeSort fun x y => decide (x ≤ y)) = idsOf l := by
  have tr : ∀ a b c : Int, decide (a ≤ b) = true → decide (b ≤ c) = true → decide (a ≤ c) = true := fun a b c h1 h2 => by simp only [decide_eq_true_eq] at *; omega
  have tt : ∀ a b : Int, (decide (a ≤ b) || decide (b ≤ a)) = true := fun a b => by simp only [Bool.or_eq_true, decide_eq_true_eq]; omega
  exact List.Perm.eq_of_pairwise (le := fun a b => decide (a ≤ b) = true) (fun a b _ _ h1 h2 => by simp only [decide_eq_true_eq] at h1 h2; omega) (List.pairwise_mergeSort tr tt ss) ((ids_rise h).imp fun {a b} h => by simp only [decide_eq_true_eq]; omega) ((List.mergeSort_perm ss _).trans hp)
theorem kys_sorted {l : List (ByteArray × ObjS)} (h : l.Pairwise fun p q => (slit p.1).before (slit q.1) = true) {ss : List (List UInt8)} (hp : ss.Perm (kysOf l)) : (ss.mergeSort fun x y => decide (x ≤ y)) = kysOf l := by
  have tr : ∀ a b c : List UInt8, decide (a ≤ b) = true → decide (b ≤ c) = true → decide (a ≤ c) = true := fun a b c h1 h2 => by simp only [decide_eq_true_eq] at *; exact List.le_trans h1 h2
  have tt : ∀ a b : List UInt8, (decide (a ≤ b) || decide (b ≤ a)) = true := fun a b => by simp only [Bool.or_eq_true, decide_eq_true_eq]; exact List.le_total a b
  exact List.Perm.eq_of_pairwise (le := fun a b => decide (a ≤ b) = true) (fun a b _ _ h1 h2 => List.le_antisymm (by simpa using h1) (by simpa using h2)) (List.pairwise_mergeSort tr tt ss) ((kys_rise h).imp fun {a b} h => by simpa using List.le_of_lt h) ((List.mergeSort_perm ss _).trans hp)

theorem keysU_any (mb : Option Nat) (w : World) :
    Calls Tryz.prog 59 #[.map mb] w fun e w' => e = .returned (.func (.func 67) #[] #[.pointer (some ⟨w.heap.size, 0, none⟩)]) ∧ w' = w.alloc (.cells #[.map mb] 49) :=
  callsIn_wide.1 (AnyZI.keys_in sh_keys39 Fence.wide 5 trivial rfl mb w)
theorem keysO_any (mb : Option Nat) (w : World) :
    Calls Tryz.prog 57 #[.map mb] w fun e w' => e = .returned (.func (.func 64) #[] #[.pointer (some ⟨w.heap.size, 0, none⟩)]) ∧ w' = w.alloc (.cells #[.map mb] 48) :=
  callsIn_wide.1 (AnyZ.keys_in sh_keys37 Fence.wide 5 trivial rfl mb w)
theorem sortsI (m : Nat) : AnyZI.SortsIn Tryz.prog sh_sorted38_ren Fence.wide m :=
  ⟨fun blk off cap ss W hH hblk hsz => callsIn_wide.2 (sh_slices_Sort_int blk off cap ss W hH hblk hsz), fun p cap W => callsIn_wide.2 (sh_slices_Sort_int_none p cap W)⟩
theorem sortsS (m : Nat) : AnyZ.SortsIn Tryz.prog sh_sorted36_ren Fence.wide m :=
  ⟨fun blk off cap ss W hH hblk hsz => callsIn_wide.2 (sh_slices_Sort_string blk off cap ss W hH hblk hsz), fun p cap W => callsIn_wide.2 (sh_slices_Sort_string_none p cap W)⟩

set_option maxHeartbeats 1000000 in
theorem sortedU_any {w : World} {b : Nat} {l : List (Int × UplS)} (h : GM TU ilit uplC w b l) (hl : l.length ≤ 100000) :
    Calls Tryz.prog 58 #[.func (.func 67) #[] #[.pointer (some ⟨w.heap.size, 0, none⟩)]] (w.alloc (.cells #[.map (some b)] 49)) fun e w' => ∃ v, e = .returned v ∧
      w'.ownsRow (w.heap.size + 1) 3 1 v l.length ((idsOf l).map encZ) ∧ Below (w.heap.size + 1) (w.alloc (.cells #[.map (some b)] 49)) w' := by
  have hsz : Maps.size (DataW.map (encK ilit uplC l)) = l.length := enc_size
  have hmx : maxLen = 9223372036854775807 := rfl
  have hown : (w.alloc (.cells #[.map (some b)] 49)).ownsMap Tryz.prog (sh_keys39_ren.t 26) heldR b l.length (DataW.map (encK ilit uplC l)) := h.below ((Below.refl w.heap.size w).alloc (Nat.le_refl _) _)
  have hseq : SeqGives Fence.wide 2 Tryz.prog 67 #[.pointer (some ⟨w.heap.size, 0, none⟩)] encZ (fun ss => ss.Perm (intKeys (DataW.map (encK ilit uplC l)))) (Maps.size (DataW.map (encK ilit uplC l))) (w.alloc (.cells #[.map (some b)] 49)) :=
    AnyZI.keys_gives (ρ := sh_keys39_ren) (H := Value) { sh_keys39 with } Fence.wide 2 trivial rfl (Nat.le_succ 1) w.heap.size b l.length (DataW.map (encK ilit uplC l)) (w.alloc (.cells #[.map (some b)] 49)) (by simp) (by simp) hown
  refine (callsIn_wide.1 (AnyZI.sorted_in sh_sorted38 Fence.wide 5 trivial trivial trivial trivial rfl (by omega) (sortsI _) (enters_of Tryz.func66 (by kernel_rfl) rfl) 67 #[.pointer (some ⟨w.heap.size, 0, none⟩)] trivial (enters_of Tryz.func67 (by kernel_rfl) rfl) _ _ (by rw [hsz, hmx]; omega) (by rw [hsz]; omega) _ hseq)).mono ?_
  rintro e w' ⟨v, ss, rfl, hS, hrow, hnil, hb⟩
  rw [ids_keys] at hS
  have hlen : ss.length = l.length := by rw [hS.length_eq]; simp
  have hh : (w.alloc (.cells #[.map (some b)] 49)).heap.size = w.heap.size + 1 := by simp
  rw [ids_sorted h.rise hS, hlen, hh] at hrow
  rw [hh] at hb
  exact ⟨v, rfl, hrow, hb⟩
set_option maxHeartbeats 1000000 in
theorem sortedO_any {w : World} {b : Nat} {l : List (ByteArray × ObjS)} (h : GM TO slit objC w b l) (hl : l.length ≤ 100000) :
    Calls Tryz.prog 56 #[.func (.func 64) #[] #[.pointer (some ⟨w.heap.size, 0, none⟩)]] (w.alloc (.cells #[.map (some b)] 48)) fun e w' => ∃ v, e = .returned v ∧
      w'.ownsRow (w.heap.size + 1) 9 1 v l.length ((kysOf l).map encStr) ∧ Below (w.heap.size + 1) (w.alloc (.cells #[.map (some b)] 48)) w' := by
  have hsz : Maps.size (DataW.map (encK slit objC l)) = l.length := enc_size
  have hmx : maxLen = 9223372036854775807 := rfl
  have hown : (w.alloc (.cells #[.map (some b)] 48)).ownsMap Tryz.prog (sh_keys37_ren.t 26) heldR b l.length (DataW.map (encK slit objC l)) := h.below ((Below.refl w.heap.size w).alloc (Nat.le_refl _) _)
  have hseq : SeqGives Fence.wide 2 Tryz.prog 64 #[.pointer (some ⟨w.heap.size, 0, none⟩)] encStr (fun ss => ss.Perm (strKeys (DataW.map (encK slit objC l)))) (Maps.size (DataW.map (encK slit objC l))) (w.alloc (.cells #[.map (some b)] 48)) :=
    AnyZ.keys_gives (ρ := sh_keys37_ren) (H := Value) { sh_keys37 with } Fence.wide 2 trivial rfl (Nat.le_succ 1) w.heap.size b l.length (DataW.map (encK slit objC l)) (w.alloc (.cells #[.map (some b)] 48)) (by simp) (by simp) hown
  refine (callsIn_wide.1 (AnyZ.sorted_in sh_sorted36 Fence.wide 5 trivial trivial trivial trivial rfl (by omega) (sortsS _) (enters_of Tryz.func63 (by kernel_rfl) rfl) 64 #[.pointer (some ⟨w.heap.size, 0, none⟩)] trivial (enters_of Tryz.func64 (by kernel_rfl) rfl) _ _ (by rw [hsz, hmx]; omega) (by rw [hsz]; omega) _ hseq)).mono ?_
  rintro e w' ⟨v, ss, rfl, hS, hrow, hnil, hb⟩
  rw [kys_keys] at hS
  have hlen : ss.length = l.length := by rw [hS.length_eq]; simp
  have hh : (w.alloc (.cells #[.map (some b)] 48)).heap.size = w.heap.size + 1 := by simp
  rw [kys_sorted h.rise hS, hlen, hh] at hrow
  rw [hh] at hb
  exact ⟨v, rfl, hrow, hb⟩
theorem below_two {w w' : World} {o : Obj} (h : Below (w.heap.size + 1) (w.alloc o) w') : Below w.heap.size w w' :=
  ((Below.refl _ _).alloc (Nat.le_refl _) _).trans (h.mono (Nat.le_succ _))
set_option maxRecDepth 100000 in
set_option maxHeartbeats 2000000 in
theorem uploads_any {w : World} {s Mo Mu : Nat} {σ : Sto} (h : StAt w s Mo Mu σ) (hl : σ.ups.length ≤ 100000) :
    Calls Tryz.prog 38 #[.pointer (some ⟨s, 0, none⟩)] w fun e w' => ∃ v, e = .returned v ∧ w'.ownsRow (w.heap.size + 1) 3 1 v σ.ups.length ((idsOf σ.ups).map encZ) ∧ Below w.heap.size w w' := by
  have c1 := cell_blk2 (i := 1) h.blk rfl
  have H1 := Lib.hid (keysU_any (some Mu) w)
  have H2 := Lib.hid (sortedU_any h.upl hl)
  clear h
  go_enter Tryz.func38, Tryz.ntmps38
  go_wp2_with fail
  refine H1.out.mono ?_
  rintro e w1 ⟨rfl, rfl⟩
  go_wp2_with fail
  refine H2.out.mono ?_
  rintro e w2 ⟨v, rfl, hrow, hb⟩
  go_wp2_with fail
  first | go_ret2 | go_ret
  exact ⟨v, rfl, hrow, below_two hb⟩
set_option maxRecDepth 100000 in
set_option maxHeartbeats 2000000 in
theorem skeys_any {w : World} {s Mo Mu : Nat} {σ : Sto} (h : StAt w s Mo Mu σ) (hl : σ.objs.length ≤ 100000) :
    Calls Tryz.prog 37 #[.pointer (some ⟨s, 0, none⟩)] w fun e w' => ∃ v, e = .returned v ∧ w'.ownsRow (w.heap.size + 1) 9 1 v σ.objs.length ((kysOf σ.objs).map encStr) ∧ Below w.heap.size w w' := by
  have c1 := cell_blk2 (i := 0) h.blk rfl
  have H1 := Lib.hid (keysO_any (some Mo) w)
  have H2 := Lib.hid (sortedO_any h.obj hl)
  clear h
  go_enter Tryz.func37, Tryz.ntmps37
  go_wp2_with fail
  refine H1.out.mono ?_
  rintro e w1 ⟨rfl, rfl⟩
  go_wp2_with fail
  refine H2.out.mono ?_
  rintro e w2 ⟨v, rfl, hrow, hb⟩
  go_wp2_with fail
  first | go_ret2 | go_ret
  exact ⟨v, rfl, hrow, below_two hb⟩
set_option maxRecDepth 100000 in
theorem size_of {w : World} {s : Nat} {z : Int} (h : w.cell? ⟨s, 4, none⟩ = some (.int .i64 z)) :
    Calls Tryz.prog 39 #[.pointer (some ⟨s, 0, none⟩)] w fun e w' => e = .returned (.int .i64 z) ∧ w' = w := by
  go_enter Tryz.func39, Tryz.ntmps39
  go_wp2_with fail
  first | go_ret2 | go_ret
  exact ⟨rfl, rfl⟩
end Go.Proofs.YtjafagfhkpaciaaGreat
end PkSP5_2
section PkSP5_3
/- What a call owns of one type lies in no block of another. -/
namespace Go.Proofs.YtjafagfhkpaciaaGreat
open Go.RowKit
set_option linter.unusedVariables false

/-- what a call owns, and another block of another type -/
theorem own_ne {w : World} {base : Nat} {e t : TypeId} {size : Nat} {v : Value} {n D : Nat} {xs : List Value} {cs : Array Value} {fr : Nat × Nat} (h : w.ownsRow base e size v n xs) (hD : w.heap[D]? = some (.cells cs t fr)) (hne : t ≠ e) : v.ownBlock ≠ some D := by
  rcases h.2 with ⟨rfl, _⟩ | ⟨g, cap, cur, rfl, _, hg, _⟩
  · simp [Value.ownBlock]
  · intro e1
    simp [Value.ownBlock] at e1
    subst e1
    rw [hg] at hD
    simp at hD
    exact hne hD.2.1.symm
end Go.Proofs.YtjafagfhkpaciaaGreat
end PkSP5_3
section PkSP5_4
/- A page, plainly; rows read. -/
namespace Go.Proofs.YtjafagfhkpaciaaGreat
open Go.RowKit Go.Shelf Go.Maps Go.Sort
set_option linter.unusedVariables false

def pageL {κ α : Type} (P : κ → Bool) (f : κ × α → ItemV) (l : List (κ × α)) : List ItemV := (l.filter fun p => P p.1).map f
section
variable {κ α : Type} {P : κ → Bool} {f : κ × α → ItemV} {l : List (κ × α)}
theorem pageL_split (i : Nat) : pageL P f l = pageL P f (l.take i) ++ pageL P f (l.drop i) := by
  unfold pageL
  rw [← List.map_append, ← List.filter_append, List.take_append_drop]
theorem pageL_succ {i : Nat} {p : κ × α} (h : l[i]? = some p) : pageL P f (l.take (i + 1)) = pageL P f (l.take i) ++ (if P p.1 = true then [f p] else []) := by
  obtain ⟨hi, he⟩ := List.getElem?_eq_some_iff.1 h
  rw [List.take_add_one, h]
  unfold pageL
  simp only [Option.toList_some, List.filter_append, List.map_append]
  congr 1
  rw [List.filter_cons]
  split <;> simp_all
theorem pageL_drop {i : Nat} {p : κ × α} (h : l[i]? = some p) (hp : P p.1 = true) : 1 ≤ (pageL P f (l.drop i)).length := by
  obtain ⟨hi, he⟩ := List.getElem?_eq_some_iff.1 h
  rw [List.drop_eq_getElem_cons hi, he]
  unfold pageL
  rw [List.filter_cons, if_pos hp, List.map_cons, List.length_cons]
  omega
end
def KeyS : Sty ByteArray := ⟨fun z => [.string z], 1, ByteArray.empty, fun _ _ => True, by decide, fun _ => rfl, (fun x u hu => by rw [List.mem_singleton.1 hu]; rfl), fun _ h => h⟩
theorem kys_flat (l : List (ByteArray × ObjS)) : (kysOf l).map encStr = KeyS.flat (l.map (·.1)) := by
  unfold kysOf Sty.flat
  induction l with
  | nil => rfl
  | cons p l ih =>
    rw [List.map_cons, List.map_cons, List.map_cons, List.flatMap_cons, ih]
    rfl
theorem ids_flat (l : List (Int × UplS)) : (idsOf l).map encZ = IntS.flat (l.map (·.1)) := by
  unfold idsOf Sty.flat
  induction l with
  | nil => rfl
  | cons p l ih =>
    rw [List.map_cons, List.map_cons, List.flatMap_cons, ih]
    rfl
theorem row_get {α : Type} {S : Sty α} {w : World} {base n : Nat} {e : TypeId} {v : Value} {l : List α} (h : w.ownsRow base e S.K v n (S.flat l)) (hl : l.length = n) (hok : ∀ x ∈ l, S.ok w x) :
    ∃ a c, v = .slice a n c ∧ ∀ i, i < n → ∃ g, a = some ⟨g, 0, none⟩ ∧ base ≤ g ∧ g < w.heap.size ∧ ∀ j u, (S.f (l.getD i S.z))[j]? = some u → w.cell? ⟨g, i * S.K + j, none⟩ = some u := by
  rcases h.2 with ⟨rfl, hz⟩ | ⟨g, cap, cu, rfl, hbg, hh, _⟩
  · exact ⟨none, 0, by rw [hz], fun i hi => by omega⟩
  · refine ⟨_, _, rfl, fun i hi => ?_⟩
    obtain ⟨b, off, ha, hb, _, hc⟩ := (VecAt.ofOwn h hl hok).get hi
    cases ha
    refine ⟨g, rfl, hbg, hb, fun j u hu => ?_⟩
    have := hc j u hu
    rwa [Nat.zero_add] at this
theorem get_of_mem {κ α : Type} {lit : κ → Lit} (h : LitOk lit) : ∀ {l : List (κ × α)}, l.Pairwise (fun p q => lit p.1 ≠ lit q.1) → ∀ {p : κ × α}, p ∈ l → getK lit p.1 l = some p.2
  | [], _, p, hp => by cases hp
  | y :: r, hw, p, hp => by
    obtain ⟨h1, h2⟩ := List.pairwise_cons.1 hw
    unfold getK
    rw [List.find?_cons]
    rcases List.mem_cons.1 hp with rfl | g
    · rw [h.same]; rfl
    · have h3 : (lit y.1).sameKey (lit p.1) = false := by
        rw [Bool.eq_false_iff]; intro e
        exact h1 p g (WideAt.sameKey_eq e)
      rw [h3]
      exact get_of_mem h h2 g
theorem map_getD {κ α : Type} {l : List (κ × α)} {i : Nat} {p : κ × α} (h : l[i]? = some p) (d : κ) : (l.map (·.1)).getD i d = p.1 := by
  rw [List.getD_eq_getElem?_getD, List.getElem?_map, h]
  rfl
theorem info_item : (Tryz.prog.info? 54).map (fun i => (i.zero, i.size, i.bytes)) = some (some (itemV ⟨ByteArray.empty, 0, 0, 0⟩), 4, 40) := by kernel_rfl
/-- while a page is filled -/
structure PgAt (w2 W : World) (base R : Nat) (v : Value) (m : Nat) (xs : List ItemV) (mo : Bool) : Prop where
  frm : Frm (fun b => b = R) w2 W
  rb : W.heap[R]? = some (.cells #[.int .i64 0, .slice none 0 0, .int .i64 0, .int .i64 0, .int .i64 0, v, .bool mo] 43 (0, 0))
  own : W.ownsRow base 54 4 v m (ItemS.flat xs)
  len : xs.length = m
theorem PgAt.below {w2 W W' : World} {base R : Nat} {v : Value} {m : Nat} {xs : List ItemV} {mo : Bool} (h : PgAt w2 W base R v m xs mo) (hb : Below W.heap.size W W') : PgAt w2 W' base R v m xs mo :=
  ⟨h.frm.below hb, (hb.block _ (Array.getElem?_eq_some_iff.1 h.rb).1).trans h.rb, own_below h.own hb, h.len⟩
theorem PgAt.grow {w2 W W' : World} {base R : Nat} {v v' : Value} {m m' : Nat} {xs xs' : List ItemV} {mo : Bool} (h : PgAt w2 W base R v m xs mo) (hb : w2.heap.size ≤ base) (hg : W.grownBy W' v.ownBlock) : Frm (fun b => b = R) w2 W' ∧ W'.heap[R]? = some (.cells #[.int .i64 0, .slice none 0 0, .int .i64 0, .int .i64 0, .int .i64 0, v, .bool mo] 43 (0, 0)) := by
  have hF : Frm (fun b => some b = v.ownBlock) W W' := ⟨hg.os, hg.tape, hg.output, hg.size, fun k hk hf => hg.block k hk hf⟩
  refine ⟨h.frm.trans hF (fun i e => .inr ?_), hF.at h.rb fun e => own_ne h.own h.rb (by decide) e.symm⟩
  exact Nat.le_trans hb (h.own.lt i e.symm).1
theorem PgAt.set {w2 W : World} {base R : Nat} {v v' : Value} {m : Nat} {xs : List ItemV} {mo : Bool} (hf : Frm (fun b => b = R) w2 W) (hr : W.heap[R]? = some (.cells #[.int .i64 0, .slice none 0 0, .int .i64 0, .int .i64 0, .int .i64 0, v, .bool mo] 43 (0, 0))) (ho : W.ownsRow base 54 4 v' m (ItemS.flat xs)) (hl : xs.length = m) (hne : v'.ownBlock ≠ some R) :
    PgAt w2 (W.setCell ⟨R, 5, none⟩ v') base R v' m xs mo := by
  have h1 := heap_setCell_same W R 5 _ _ v' hr
  have hF : Frm (fun b => b = R) W (W.setCell ⟨R, 5, none⟩ v') := (Frm.refl (fun b => b = R) W).set (p := R) (.inl rfl) 5 v'
  refine ⟨hf.set (.inl rfl) 5 v', h1.trans rfl, ?_, hl⟩
  exact ho.kept (row := some R) ⟨hF.os, hF.tape, hF.output, hF.size, fun k hk hf => hF.block k hk (fun e => hf (by rw [e]))⟩ (.inr hne)
theorem PgAt.more {w2 W : World} {base R : Nat} {v : Value} {m : Nat} {xs : List ItemV} {mo : Bool} (h : PgAt w2 W base R v m xs mo) : PgAt w2 (W.setCell ⟨R, 6, none⟩ (.bool true)) base R v m xs true := by
  have h1 := heap_setCell_same W R 6 _ _ (.bool true) h.rb
  have hF : Frm (fun b => b = R) W (W.setCell ⟨R, 6, none⟩ (.bool true)) := (Frm.refl (fun b => b = R) W).set (p := R) (.inl rfl) 6 _
  refine ⟨h.frm.set (.inl rfl) 6 _, h1.trans rfl, ?_, h.len⟩
  exact h.own.kept (row := some R) ⟨hF.os, hF.tape, hF.output, hF.size, fun k hk hf => hF.block k hk (fun e => hf (by rw [e]))⟩ (.inr (own_ne h.own h.rb (by decide)))
theorem own_base {w : World} {base base' n : Nat} {e : TypeId} {k : Nat} {v : Value} {xs : List Value} (h : w.ownsRow base e k v n xs) (hb : base' ≤ base) : w.ownsRow base' e k v n xs := by
  refine ⟨h.1, ?_⟩
  rcases h.2 with g | ⟨g, cap, cu, h1, h2, h3⟩
  · exact .inl g
  · exact .inr ⟨g, cap, cu, h1, Nat.le_trans hb h2, h3⟩
theorem page_fin {w w2 wX : World} {R m cc : Nat} {aa : Option Addr} {xs : List ItemV} {mo : Bool} (h : PgAt w2 wX w2.heap.size R (.slice aa m cc) m xs mo) (hb : Below w.heap.size w w2) (hR : R = w.heap.size + 1) (h6 : w2.heap[w.heap.size]? = some (.cells zrep 43 (0, 0))) :
    wX.heap[w.heap.size]? = some (.cells zrep 43 (0, 0)) ∧
    (setR wX w.heap.size (.int .i64 0) (.slice none 0 0) (.int .i64 0) (.int .i64 0) (.int .i64 0) (.slice aa m cc) (.bool mo)).heap[w.heap.size]? = some (.cells #[.int .i64 0, .slice none 0 0, .int .i64 0, .int .i64 0, .int .i64 0, .slice aa m cc, .bool mo] 43 (0, 0)) ∧
    (setR wX w.heap.size (.int .i64 0) (.slice none 0 0) (.int .i64 0) (.int .i64 0) (.int .i64 0) (.slice aa m cc) (.bool mo)).ownsRow w.heap.size 54 4 (.slice aa m cc) m (ItemS.flat xs) ∧
    RowKit.Below w.heap.size w (setR wX w.heap.size (.int .i64 0) (.slice none 0 0) (.int .i64 0) (.int .i64 0) (.int .i64 0) (.slice aa m cc) (.bool mo)) := by
  have hx := h.frm.at h6 (by rw [hR]; omega)
  have hF := (Frm.refl (fun b => b = w.heap.size) wX).setR (R := w.heap.size) (.inl rfl) (.int .i64 0) (.slice none 0 0) (.int .i64 0) (.int .i64 0) (.int .i64 0) (.slice aa m cc) (.bool mo)
  refine ⟨hx, setR_at0 hx _ _ _ _ _ _ _, own_base (h.own.kept (row := some w.heap.size) ⟨hF.os, hF.tape, hF.output, hF.size, fun k hk hf => hF.block k hk (fun e => hf (by rw [e]))⟩ (.inr (own_ne h.own hx (by decide)))) hb.size, ?_⟩
  have h1 := hb.trans (h.frm.toBelow hb.size (fun i e => by rw [e, hR]; omega))
  exact h1.trans (hF.toBelow h1.size (fun i e => by rw [e]; exact Nat.le_refl _))
end Go.Proofs.YtjafagfhkpaciaaGreat
end PkSP5_4
section PkSP5_5
/- append of bytes to bytes that the call owns, and where the new row lies; two rows kept apart. -/
namespace Go.Proofs.YtjafagfhkpaciaaGreat
open Go.RowKit
set_option linter.unusedVariables false

theorem own_some2 {w : World} {base n : Nat} {e : TypeId} {size : Nat} {v : Value} {xs : List Value} (h : w.ownsRow base e size v n xs) (hn : 0 < n) : ∃ g c, v = .slice (some ⟨g, 0, none⟩) n c := by
  rcases h.2 with ⟨_, h0⟩ | ⟨g, cap, cur, he, _⟩
  · omega
  · exact ⟨g, cap, he⟩
theorem wpList_append_bytes_at {w : World} {ops : Array Oper} {rest : List Oper} {o : Oper} {a : Act} {Q : Exit → Act → World → Prop} (hgd : o.guard = none) (s x : Operand)
    (ho : o.op = .call { callee := .builtin .append, args := #[s, x], argTypes := #[32, 32] })
    (base : Nat) (v : Value) (n : Nat) (xs : List Nat) (hs : a.eval s = v) (hown : w.ownsRow base 5 1 v n (bv xs))
    (src : Option Addr) (m c : Nat) (ys : List Nat) (hx : a.eval x = .slice src m c) (hb : BytesAt w src m c ys)
    (h63 : n + m ≤ 140737488355328) (hbase : base ≤ w.heap.size)
    (h : ∀ v' w', w'.ownsRow base 5 1 v' (n + m) (bv (xs ++ ys)) → w.grownBy w' v.ownBlock → (v'.ownBlock = v.ownBlock ∨ v'.ownBlock = some w.heap.size) → wpList Tryz.prog ops Q rest (a.put o.dst v') w') : wpList Tryz.prog ops Q (o :: rest) a w := by
  obtain ⟨i0, hi, hz0, hz1, hz2⟩ := info_parts info_u8
  rcases src with _ | ad
  · have hc := hb.nl rfl
    have hm : m = 0 := by have := hb.cap; omega
    subst hm
    subst hc
    have hy : ys = [] := List.eq_nil_of_length_eq_zero hb.len
    subst hy
    refine wpList_append_own_none hgd s x 32 ho base 5 i0 1 Tryz.underlying32 hi v n (bv xs) hs hown hx ?_
    exact h v w (by simpa using hown) (World.grownBy.refl _ _) (.inl rfl)
  · refine wpList_append_own_at w hgd s x 32 ho base 5 i0 (.int .u8 0) 1 1 Tryz.underlying32 hi hz0 hz1 hz2 rfl (by decide) v n (bv xs) hs hown ad m c (bv ys) hx (by rw [bv_length, hb.len]; omega) hb.src (bv_oneCell _) (by unfold maxLen; omega) (by omega) hbase ?_
    intro v' w' h1 h2 _ h4
    exact h v' w' (by rw [bv_append]; exact h1) h2 h4

theorem step_append_own_at2 {P : Program} {ops : Array Oper} {o : Oper} {a : Act} {w : World} {K : Act → World → Prop} {Q : Exit → Act → World → Prop} {E : Prop}
    (hgd : o.guard = none) (s x : Operand) (t : TypeId) (ho : o.op = .call { callee := .builtin .append, args := #[s, x], argTypes := #[t, t] })
    (base : Nat) (e : TypeId) (i : TypeInfo) (z : Value) (size bytes : Nat) (ht : P.underlying t = some (.slice e)) (hi : P.info? e = some i) (hz : i.zero = some z)
    (hsize : i.size = size) (hby : i.bytes = bytes) (hzs : z.cells.size = size) (hsz : 0 < size)
    (v : Value) (n : Nat) (xs : List Value) (hs : a.eval s = v) (hown : w.ownsRow base e size v n xs)
    (ad : Addr) (m c : Nat) (news : List Value) (hx : a.eval x = .slice (some ad) m c) (hl : news.length = m * size) (hnews : ∀ j u, news[j]? = some u → w.cell? (ad.add j) = some u) (h1 : ∀ u ∈ news, u.oneCell' = true)
    (h63 : n + m ≤ maxLen) (hbytes : (n + m) * bytes ≤ 140737488355328) (hbase : base ≤ w.heap.size)
    (h : ∀ v' w', w'.ownsRow base e size v' (n + m) (xs ++ news) → w.grownBy w' v.ownBlock → (v'.ownBlock = v.ownBlock ∨ v'.ownBlock = some w.heap.size) → K (a.put o.dst v') w') :
    if Region.wanted o (yielded ops a.tmps) = true then Oper.wp P o a w K Q else E := by
  have hw : Region.wanted o (yielded ops a.tmps) = true := by simp [Region.wanted, hgd]
  rw [if_pos hw]
  obtain ⟨v', w', hr, h2, h3, h4, h5⟩ := run_append_own_at (P := P) w base t o.type e i z size bytes ht hi hz hsize hby hzs hsz v n xs hown ad m c news hl hnews h1 h63 hbytes hbase
  unfold Oper.wp execOp
  simp only [ho, resolve, invoke, builtin, Sem.run_bind, Sem.run_pure, Result.andThen_ok, List.map_toArray, List.map_cons, List.map_nil, hs, hx, hr]
  exact h v' w' h2 h3 h5

/-- what one row's block is, another one's isn't -/
def Apart (v u : Value) : Prop := v.ownBlock = none ∨ v.ownBlock ≠ u.ownBlock
theorem Apart.none (u : Value) : Apart (.slice none 0 0) u := .inl rfl
theorem Apart.symm {v u : Value} (h : Apart v u) : Apart u v := by
  unfold Apart at h ⊢
  cases hu : u.ownBlock with
  | none => exact .inl rfl
  | some k =>
    rcases h with h | h
    · rw [h]; exact .inr (by simp)
    · rw [hu] at h; exact .inr (fun e => h e.symm)
/-- v moved or not, u stays: still apart -/
theorem Apart.moved {s : Nat} {v v' u : Value} (h : Apart v u) (hat : v'.ownBlock = v.ownBlock ∨ v'.ownBlock = some s) (hu : ∀ k, u.ownBlock = some k → k < s) : Apart v' u := by
  rcases hat with e | e
  · unfold Apart; rw [e]; exact h
  · refine .inr (fun e2 => ?_)
    rw [e] at e2
    have := hu _ e2.symm
    omega
theorem Apart.keeps {w w' : World} {base n : Nat} {e : TypeId} {size : Nat} {v u : Value} {xs : List Value} (h : Apart u v) (hown : w.ownsRow base e size u n xs) (hg : w.grownBy w' v.ownBlock) : w'.ownsRow base e size u n xs := hown.kept hg h
end Go.Proofs.YtjafagfhkpaciaaGreat
end PkSP5_5
section PkSP5_6
/- A page of the store's, walked. Written by genstopg.py. -/
namespace Go.Proofs.YtjafagfhkpaciaaGreat
open Go.RowKit Go.Shelf Go.Maps Go.Sort
set_option linter.unusedVariables false

set_option maxRecDepth 100000 in
set_option maxHeartbeats 8000000 in
theorem pageO_any {w : World} {M cb bb : Nat} {l : List (ByteArray × ObjS)} (h : GM TO slit objC w M l) (hl : l.length ≤ 1000) {pre beh : ByteArray} (h1 : w.cell? ⟨cb, 1, none⟩ = some (.string pre)) (h2 : w.cell? ⟨bb, 0, none⟩ = some (.string beh)) (hcb : cb < w.heap.size) (hbb : bb < w.heap.size) (hks : ∀ p ∈ l, p.1.size ≤ 1000000000000000) :
    Calls Tryz.prog 46 #[.map (some M), .func (.func 44) #[] #[.pointer (some ⟨cb, 0, none⟩), .pointer (some ⟨bb, 0, none⟩)], .func (.func 47) #[] #[]] w fun e w' => ∃ a n c, e = .returned (rep 0 (.slice none 0 0) 0 0 0 (.slice a n c) (decide (16 < (pageL (wantK pre beh) (fun p => itemO p.1 p.2) l).length))) ∧ w'.ownsRow w.heap.size 54 4 (.slice a n c) n (ItemS.flat ((pageL (wantK pre beh) (fun p => itemO p.1 p.2) l).take 16)) ∧ n ≤ 16 ∧ Below w.heap.size w w' := by
  obtain ⟨w1, hw1⟩ : ∃ w1, w1 = (w.alloc (.cells zrep 43)).alloc (.cells zrep 43) := ⟨_, rfl⟩
  have hb1 : Below w.heap.size w w1 := by rw [hw1]; exact ((Below.refl _ _).alloc (Nat.le_refl _) _).alloc (by simp) _
  have z1 : w1.heap.size = w.heap.size + 2 := by rw [hw1]; simp
  have r6 : w1.heap[w.heap.size]? = some (.cells zrep 43 (0, 0)) := by
    rw [hw1]; exact (Below.heap_alloc _ _ _ (by simp)).trans (heap_new w _)
  have r7 : w1.heap[w.heap.size + 1]? = some (.cells zrep 43 (0, 0)) := by
    have := heap_new (w.alloc (.cells zrep 43)) (.cells zrep 43)
    rw [← hw1] at this
    rwa [show (w.alloc (.cells zrep 43)).heap.size = w.heap.size + 1 from by simp] at this
  have HK1 := Lib.hid (keysO_any (some M) w1)
  have HK2 := Lib.hid (sortedO_any (h.below hb1) (by omega))
  have HG := Lib.hid h
  have HAP := Lib.hid h.apart
  have HB1 := Lib.hid hb1
  have HR6 := Lib.hid r6
  have HR7 := Lib.hid r7
  have HW1 := Lib.hid hw1
  have Z1 := Lib.hid z1
  clear h hb1 r6 r7 hw1 z1
  go_enter Tryz.func46, Tryz.ntmps46
  go_upto_region 2 with fail
  have hw1 := HW1.out
  unfold zrep at hw1
  rw [← hw1]
  clear hw1
  go_wp2_with fail
  refine HK1.out.mono ?_
  rintro e w1' ⟨rfl, rfl⟩
  go_wp2_with fail
  refine HK2.out.mono ?_
  rintro e w2 ⟨v, rfl, hrow, hb2⟩
  rw [kys_flat] at hrow
  obtain ⟨a, c, rfl, hget⟩ := row_get (S := KeyS) (l := l.map (·.1)) hrow (by simp) (fun x hx => trivial)
  have hb12 : Below w1.heap.size w1 w2 := below_two hb2
  have HB2 := Lib.hid hb12
  have HGET := Lib.hid hget
  have r6 := (hb12.block _ (Array.getElem?_eq_some_iff.1 HR6.out).1).trans HR6.out
  have r7 := (hb12.block _ (Array.getElem?_eq_some_iff.1 HR7.out).1).trans HR7.out
  have HPG : Hid (PgAt w2 w2 w2.heap.size (w.heap.size + 1) (.slice none 0 0) 0 [] false) := Lib.hid ⟨Frm.refl _ _, r7, World.ownsRow_nil w2 _ _ _, rfl⟩
  have HR62 := Lib.hid r6
  have hz2 : w.heap.size + 2 ≤ w2.heap.size := by have := hb12.size; have := Z1.out; omega
  clear hrow hget hb2 hb12 r6 r7 HK1 HK2
  obtain ⟨R, hRe⟩ : ∃ R, R = w.heap.size + 1 := ⟨_, rfl⟩
  rw [← hRe] at HPG
  rw [← hRe]
  have HRE := Lib.hid hRe
  clear hRe
  obtain ⟨i0, hi, hz0, hz1, hz2'⟩ := info_parts info_item
  go_wp2_with fail
  go_loopw [14] (fun s14 wr => ∃ (i m cc : Nat) (aa : Option Addr), i ≤ l.length ∧ m ≤ 16 ∧ s14 = .int .i64 i ∧ Hid (PgAt w2 wr w2.heap.size R (.slice aa m cc) m (pageL (wantK pre beh) (fun p => itemO p.1 p.2) (l.take i)) false)) (fun s14 _ => l.length - (intOf s14).toNat)
  case atStart => exact ⟨0, 0, 0, none, by omega, by omega, rfl, HPG⟩
  case round =>
    obtain ⟨i, m, cc, aa, hil, hm, rfl, HP⟩ := hrel
    rename World => wr
    clear HPG
    by_cases hk : i < l.length
    · obtain ⟨p, hpi⟩ : ∃ p, l[i]? = some p := ⟨_, List.getElem?_eq_getElem hk⟩
      have hpm : p ∈ l := List.mem_of_getElem? hpi
      obtain ⟨g, ha, hgb, hgl, hcell⟩ := HGET.out i hk
      have hc1 := hcell 0 (.string p.1) (by rw [map_getD hpi]; rfl)
      have hbw : Below w.heap.size w wr := by
        have h1 := HB1.out.trans (HB2.out.mono HB1.out.size)
        exact h1.trans (HP.out.frm.toBelow h1.size (fun x e => by rw [e, HRE.out]; omega))
      have hck : wr.cell? ⟨g, i, none⟩ = some (.string p.1) := by
        rw [show i * (KeyS).K + 0 = i from Nat.mul_one i] at hc1
        rw [← hc1]
        exact cell_of_heap (HP.out.frm.block g hgl (fun e => by have := Z1.out; have := HRE.out; omega))
      have zi : (i : Int) < (l.length : Int) := by omega
      have zi0 : (0 : Int) ≤ (i : Int) := by omega
      have wi : IntKind.i64.wrap ((i : Int) + 1) = (i : Int) + 1 := IntWalk.i64_in _ (by omega)
      have HPI := Lib.hid hpi
      have HPM := Lib.hid hpm
      have HBW := Lib.hid hbw
      have HWT := Lib.hid (listWant_any ((hbw.cell (p := ⟨cb, 1, none⟩) hcb).trans h1) ((hbw.cell (p := ⟨bb, 0, none⟩) hbb).trans h2) p.1)
      have x5 := cell_blk2 HP.out.rb (i := 5) (u := .slice aa m cc) rfl
      have x6 := cell_blk2 HP.out.rb (i := 6) (u := .bool false) rfl
      have f5 := fro_blk2 HP.out.rb 5
      have f6 := fro_blk2 HP.out.rb 6
      clear hcell hc1 hgb hgl hpi hpm hbw
      subst ha
      go_wp2_with fail
      refine HWT.out.mono ?_
      rintro e w3 ⟨rfl, hw3⟩
      obtain rfl : wr = w3 := hw3.symm
      have hsucc : pageL (wantK pre beh) (fun p => itemO p.1 p.2) (l.take (i + 1)) = pageL (wantK pre beh) (fun p => itemO p.1 p.2) (l.take i) ++ (if wantK pre beh p.1 = true then [(fun p => itemO p.1 p.2) p] else []) := pageL_succ HPI.out
      cases hP : wantK pre beh p.1 with
      | false =>
        rw [hP, if_neg (by decide), List.append_nil] at hsucc
        have HSU := Lib.hid hsucc
        clear hsucc hP x5 x6 f5 f6 hck HWT
        go_wp2_with fail
        go_roundw
        case rel => exact ⟨i + 1, m, cc, aa, by omega, hm, by push_cast; rfl, Lib.hid (by rw [HSU.out]; exact HP.out)⟩
        case measure => simp only [intOf]; omega
      | true =>
        rw [hP, if_pos rfl] at hsucc
        by_cases hm16 : m = 16
        · subst hm16
          have HLN := Lib.hid (show 16 < (pageL (wantK pre beh) (fun p => itemO p.1 p.2) l).length from by
            rw [pageL_split (P := (wantK pre beh)) (f := (fun p => itemO p.1 p.2)) (l := l) i, List.length_append, HP.out.len]
            have := pageL_drop (P := (wantK pre beh)) (f := (fun p => itemO p.1 p.2)) HPI.out hP
            omega)
          have HTK := Lib.hid (show (pageL (wantK pre beh) (fun p => itemO p.1 p.2) l).take 16 = pageL (wantK pre beh) (fun p => itemO p.1 p.2) (l.take i) from by
            rw [pageL_split (P := (wantK pre beh)) (f := (fun p => itemO p.1 p.2)) (l := l) i, List.take_append_of_le_length (by rw [HP.out.len]; omega), List.take_of_length_le (by rw [HP.out.len]; omega)])
          clear hsucc hP hck HWT
          go_upto_region 10 with fail
          have HPM2 := Lib.hid HP.out.more
          clear x5 x6 f5 f6
          obtain ⟨wm, hwm⟩ : ∃ wm, wm = wr.setCell ⟨R, 6, none⟩ (.bool true) := ⟨_, rfl⟩
          rw [← hwm] at HPM2
          rw [← hwm]
          clear hwm
          have rbx := HPM2.out.rb
          have x0 := cell_blk2 rbx (i := 0) (u := .int .i64 0) rfl
          have x1 := cell_blk2 rbx (i := 1) (u := .slice none 0 0) rfl
          have x2 := cell_blk2 rbx (i := 2) (u := .int .i64 0) rfl
          have x3 := cell_blk2 rbx (i := 3) (u := .int .i64 0) rfl
          have x4 := cell_blk2 rbx (i := 4) (u := .int .i64 0) rfl
          have x5 := cell_blk2 rbx (i := 5) (u := .slice aa 16 cc) rfl
          have x6 := cell_blk2 rbx (i := 6) (u := .bool true) rfl
          obtain ⟨e6, e1, e2, e3⟩ := page_fin HPM2.out (HB1.out.trans (HB2.out.mono HB1.out.size)) HRE.out HR62.out
          obtain ⟨⟨q0, q1, q2, q3, q4, q5, q6⟩, r0, r1, r2, r3, r4, r5, r6⟩ := rb_cells e6
          have E1 := Lib.hid e1
          have E2 := Lib.hid e2
          have E3 := Lib.hid e3
          clear rbx e6 e1 e2 e3
          go_wp2_with fail
          clear q0 q1 q2 q3 q4 q5 q6 r0 r1 r2 r3 r4 r5 r6 x0 x1 x2 x3 x4 x5 x6
          obtain ⟨W5, hW5⟩ : ∃ W5, W5 = setR wm w.heap.size (.int .i64 0) (.slice none 0 0) (.int .i64 0) (.int .i64 0) (.int .i64 0) (.slice aa 16 cc) (.bool true) := ⟨_, rfl⟩
          rw [← hW5] at E1 E2 E3
          unfold setR at hW5
          rw [← hW5]
          refine bodyPost_ret (ret_rep rfl _ _ w.heap.size rfl E1.out) rfl ⟨aa, 16, cc, ?_, ?_, hm, E3.out⟩
          · rw [decide_eq_true HLN.out]
          · rw [HTK.out]; exact E2.out
        · have hm15 : m < 16 := by omega
          have hne16 : ¬ (m : Int) = 16 := by omega
          have HSU := Lib.hid hsucc
          have hgm := HG.out.below HBW.out
          have hlk := lookO hgm.drew p.1 (hks p HPM.out)
          rw [get_of_mem litS HAP.out HPM.out] at hlk
          have hlk2 : (Instr.lookup 48 (.map (some M)) (.string p.1) false).run Tryz.prog wr.drew = .ok (.agg #[.string p.2.data, .int .i64 p.2.ver, .int .i64 p.2.born]) wr.drew := hlk
          have HIT := Lib.hid (listItem_any wr.drew p.1 p.2.data p.2.ver p.2.born)
          have HAF := Lib.hid (show ∀ w9, Below wr.drew.heap.size wr.drew w9 → PgAt w2 w9 w2.heap.size R (.slice aa m cc) m (pageL (wantK pre beh) (fun p => itemO p.1 p.2) (l.take i)) false from fun w9 h9 => HP.out.below (((Below.refl _ _).drew).trans h9))
          clear hsucc hP hm hm16 hck HWT hgm hlk x6 f5 f6
          go_wp2_with fail
          go_region_law (first
            | (go_simp; go_at_call 47; refine HIT.out.mono ?_; rintro e w9 ⟨rfl, hb9⟩; have hp9 := HAF.out w9 hb9; have HP9 := Lib.hid hp9; have y5 := cell_blk2 hp9.rb (i := 5) (u := .slice aa m cc) rfl; have hpa := hp9.below ((Below.refl _ w9).alloc (Nat.le_refl _) (.cells #[.string p.1, .int .i64 p.2.ver, .int .i64 (p.2.data.size : Int), .int .i64 p.2.born] 54)); have HPA := Lib.hid hpa; have z5 := cell_blk2 hpa.rb (i := 5) (u := .slice aa m cc) rfl; have HB9 := Lib.hid hb9; clear hb9 hp9 hpa)
            | (refine step_append_own_at2 rfl (.tmp 28) (.tmp 35) 41 rfl w2.heap.size 54 i0 _ 4 40 Tryz.underlying41 hi hz0 hz1 hz2' rfl (by decide) _ _ _ rfl HPA.out.own ⟨w9.heap.size, 0, none⟩ 1 1 (ItemS.f ((fun p => itemO p.1 p.2) p)) rfl rfl (ItemS.src w9 ((fun p => itemO p.1 p.2) p) 54 rfl) (ItemS.one ((fun p => itemO p.1 p.2) p)) (by unfold maxLen; omega) (by omega) (by rw [World.size_alloc]; have h1 := HP9.out.frm.size; omega) ?_; intro v10 w10 ho10 hg10 hat10; obtain ⟨g10, c10, rfl⟩ := own_some2 ho10 (by omega); obtain ⟨f10, r10⟩ := PgAt.grow (v' := .slice (some ⟨g10, 0, none⟩) (m + 1) c10) (m' := m + 1) (xs' := []) HPA.out (Nat.le_refl _) hg10; have s5 := cell_blk2 r10 (i := 5) (u := .slice aa m cc) rfl; have s5f := fro_blk2 r10 5; have HO10 := Lib.hid ho10; have HF10 := Lib.hid f10; have HR10 := Lib.hid r10; clear ho10 hg10 hat10 f10 r10))
          all_goals
            clear x5 y5 z5 s5 s5f hlk2
            have HPN := Lib.hid (PgAt.set (xs := pageL (wantK pre beh) (fun p => itemO p.1 p.2) (l.take (i + 1))) HF10.out HR10.out (by rw [HSU.out]; have h1 := HO10.out; rw [← Sty.flat_snoc] at h1; exact h1) (by rw [HSU.out, List.length_append, HP.out.len]; rfl) (own_ne HO10.out HR10.out (by decide)))
            go_wp2_with fail
            go_roundw
            case rel => exact ⟨i + 1, m + 1, c10, _, by omega, by omega, by push_cast; rfl, HPN⟩
            case measure => simp only [intOf]; omega
    · have e : l.length = i := by omega
      have hx : pageL (wantK pre beh) (fun p => itemO p.1 p.2) (l.take i) = pageL (wantK pre beh) (fun p => itemO p.1 p.2) l := by rw [← e, List.take_length]
      rw [hx] at HP
      have HLN := Lib.hid (show ¬ 16 < (pageL (wantK pre beh) (fun p => itemO p.1 p.2) l).length from by rw [HP.out.len]; omega)
      have HTK := Lib.hid (show (pageL (wantK pre beh) (fun p => itemO p.1 p.2) l).take 16 = pageL (wantK pre beh) (fun p => itemO p.1 p.2) l from List.take_of_length_le (by rw [HP.out.len]; omega))
      clear hx hk
      go_upto_region 10 with fail
      have rbx := HP.out.rb
      have x0 := cell_blk2 rbx (i := 0) (u := .int .i64 0) rfl
      have x1 := cell_blk2 rbx (i := 1) (u := .slice none 0 0) rfl
      have x2 := cell_blk2 rbx (i := 2) (u := .int .i64 0) rfl
      have x3 := cell_blk2 rbx (i := 3) (u := .int .i64 0) rfl
      have x4 := cell_blk2 rbx (i := 4) (u := .int .i64 0) rfl
      have x5 := cell_blk2 rbx (i := 5) (u := .slice aa m cc) rfl
      have x6 := cell_blk2 rbx (i := 6) (u := .bool false) rfl
      obtain ⟨e6, e1, e2, e3⟩ := page_fin HP.out (HB1.out.trans (HB2.out.mono HB1.out.size)) HRE.out HR62.out
      obtain ⟨⟨q0, q1, q2, q3, q4, q5, q6⟩, r0, r1, r2, r3, r4, r5, r6⟩ := rb_cells e6
      have E1 := Lib.hid e1
      have E2 := Lib.hid e2
      have E3 := Lib.hid e3
      clear rbx e6 e1 e2 e3
      go_wp2_with fail
      clear q0 q1 q2 q3 q4 q5 q6 r0 r1 r2 r3 r4 r5 r6 x0 x1 x2 x3 x4 x5 x6
      obtain ⟨W5, hW5⟩ : ∃ W5, W5 = setR wr w.heap.size (.int .i64 0) (.slice none 0 0) (.int .i64 0) (.int .i64 0) (.int .i64 0) (.slice aa m cc) (.bool false) := ⟨_, rfl⟩
      rw [← hW5] at E1 E2 E3
      unfold setR at hW5
      rw [← hW5]
      refine bodyPost_ret (ret_rep rfl _ _ w.heap.size rfl E1.out) rfl ⟨aa, m, cc, ?_, ?_, hm, E3.out⟩
      · rw [decide_eq_false HLN.out]
      · rw [HTK.out]; exact E2.out
end Go.Proofs.YtjafagfhkpaciaaGreat
end PkSP5_6
section PkSP5_7
/- A page of the store's, walked. Written by genstopg.py. -/
namespace Go.Proofs.YtjafagfhkpaciaaGreat
open Go.RowKit Go.Shelf Go.Maps Go.Sort
set_option linter.unusedVariables false

set_option maxRecDepth 100000 in
set_option maxHeartbeats 8000000 in
theorem pageU_any {w : World} {M cb : Nat} {l : List (Int × UplS)} (h : GM TU ilit uplC w M l) (hl : l.length ≤ 1000) {id : Int} (h1 : w.cell? ⟨cb, 6, none⟩ = some (.int .i64 id)) (hcb : cb < w.heap.size) (hks : ∀ p ∈ l, (Lit.int .i64 p.1).wf = true) (hpp : ∀ p ∈ l, GM TP ilit prtC w p.2.pb p.2.parts) (hpw : ∀ p ∈ l, ∀ x ∈ p.2.parts, (Lit.int .i64 x.1).wf = true) (hpz : ∀ p ∈ l, psz p.2.parts ≤ 1000000000) :
    Calls Tryz.prog 53 #[.map (some M), .func (.func 52) #[] #[.pointer (some ⟨cb, 0, none⟩)], .func (.func 54) #[] #[]] w fun e w' => ∃ a n c, e = .returned (rep 0 (.slice none 0 0) 0 0 0 (.slice a n c) (decide (16 < (pageL (fun k => decide (id < k)) (fun p => (⟨p.2.key, p.1, ((psz p.2.parts : Nat) : Int), p.2.born⟩ : ItemV)) l).length))) ∧ w'.ownsRow w.heap.size 54 4 (.slice a n c) n (ItemS.flat ((pageL (fun k => decide (id < k)) (fun p => (⟨p.2.key, p.1, ((psz p.2.parts : Nat) : Int), p.2.born⟩ : ItemV)) l).take 16)) ∧ n ≤ 16 ∧ Below w.heap.size w w' := by
  obtain ⟨w1, hw1⟩ : ∃ w1, w1 = (w.alloc (.cells zrep 43)).alloc (.cells zrep 43) := ⟨_, rfl⟩
  have hb1 : Below w.heap.size w w1 := by rw [hw1]; exact ((Below.refl _ _).alloc (Nat.le_refl _) _).alloc (by simp) _
  have z1 : w1.heap.size = w.heap.size + 2 := by rw [hw1]; simp
  have r6 : w1.heap[w.heap.size]? = some (.cells zrep 43 (0, 0)) := by
    rw [hw1]; exact (Below.heap_alloc _ _ _ (by simp)).trans (heap_new w _)
  have r7 : w1.heap[w.heap.size + 1]? = some (.cells zrep 43 (0, 0)) := by
    have := heap_new (w.alloc (.cells zrep 43)) (.cells zrep 43)
    rw [← hw1] at this
    rwa [show (w.alloc (.cells zrep 43)).heap.size = w.heap.size + 1 from by simp] at this
  have HK1 := Lib.hid (keysU_any (some M) w1)
  have HK2 := Lib.hid (sortedU_any (h.below hb1) (by omega))
  have HG := Lib.hid h
  have HAP := Lib.hid h.apart
  have HB1 := Lib.hid hb1
  have HR6 := Lib.hid r6
  have HR7 := Lib.hid r7
  have HW1 := Lib.hid hw1
  have Z1 := Lib.hid z1
  clear h hb1 r6 r7 hw1 z1
  go_enter Tryz.func53, Tryz.ntmps53
  go_upto_region 2 with fail
  have hw1 := HW1.out
  unfold zrep at hw1
  rw [← hw1]
  clear hw1
  go_wp2_with fail
  refine HK1.out.mono ?_
  rintro e w1' ⟨rfl, rfl⟩
  go_wp2_with fail
  refine HK2.out.mono ?_
  rintro e w2 ⟨v, rfl, hrow, hb2⟩
  rw [ids_flat] at hrow
  obtain ⟨a, c, rfl, hget⟩ := row_get (S := IntS) (l := l.map (·.1)) hrow (by simp) (fun x hx => (by obtain ⟨p, hp, rfl⟩ := List.mem_map.1 hx; exact hks p hp))
  have hb12 : Below w1.heap.size w1 w2 := below_two hb2
  have HB2 := Lib.hid hb12
  have HGET := Lib.hid hget
  have r6 := (hb12.block _ (Array.getElem?_eq_some_iff.1 HR6.out).1).trans HR6.out
  have r7 := (hb12.block _ (Array.getElem?_eq_some_iff.1 HR7.out).1).trans HR7.out
  have HPG : Hid (PgAt w2 w2 w2.heap.size (w.heap.size + 1) (.slice none 0 0) 0 [] false) := Lib.hid ⟨Frm.refl _ _, r7, World.ownsRow_nil w2 _ _ _, rfl⟩
  have HR62 := Lib.hid r6
  have hz2 : w.heap.size + 2 ≤ w2.heap.size := by have := hb12.size; have := Z1.out; omega
  clear hrow hget hb2 hb12 r6 r7 HK1 HK2
  obtain ⟨R, hRe⟩ : ∃ R, R = w.heap.size + 1 := ⟨_, rfl⟩
  rw [← hRe] at HPG
  rw [← hRe]
  have HRE := Lib.hid hRe
  clear hRe
  obtain ⟨i0, hi, hz0, hz1, hz2'⟩ := info_parts info_item
  go_wp2_with fail
  go_loopw [14] (fun s14 wr => ∃ (i m cc : Nat) (aa : Option Addr), i ≤ l.length ∧ m ≤ 16 ∧ s14 = .int .i64 i ∧ Hid (PgAt w2 wr w2.heap.size R (.slice aa m cc) m (pageL (fun k => decide (id < k)) (fun p => (⟨p.2.key, p.1, ((psz p.2.parts : Nat) : Int), p.2.born⟩ : ItemV)) (l.take i)) false)) (fun s14 _ => l.length - (intOf s14).toNat)
  case atStart => exact ⟨0, 0, 0, none, by omega, by omega, rfl, HPG⟩
  case round =>
    obtain ⟨i, m, cc, aa, hil, hm, rfl, HP⟩ := hrel
    rename World => wr
    clear HPG
    by_cases hk : i < l.length
    · obtain ⟨p, hpi⟩ : ∃ p, l[i]? = some p := ⟨_, List.getElem?_eq_getElem hk⟩
      have hpm : p ∈ l := List.mem_of_getElem? hpi
      obtain ⟨g, ha, hgb, hgl, hcell⟩ := HGET.out i hk
      have hc1 := hcell 0 (.int .i64 p.1) (by rw [map_getD hpi]; rfl)
      have hbw : Below w.heap.size w wr := by
        have h1 := HB1.out.trans (HB2.out.mono HB1.out.size)
        exact h1.trans (HP.out.frm.toBelow h1.size (fun x e => by rw [e, HRE.out]; omega))
      have hck : wr.cell? ⟨g, i, none⟩ = some (.int .i64 p.1) := by
        rw [show i * (IntS).K + 0 = i from Nat.mul_one i] at hc1
        rw [← hc1]
        exact cell_of_heap (HP.out.frm.block g hgl (fun e => by have := Z1.out; have := HRE.out; omega))
      have zi : (i : Int) < (l.length : Int) := by omega
      have zi0 : (0 : Int) ≤ (i : Int) := by omega
      have wi : IntKind.i64.wrap ((i : Int) + 1) = (i : Int) + 1 := IntWalk.i64_in _ (by omega)
      have HPI := Lib.hid hpi
      have HPM := Lib.hid hpm
      have HBW := Lib.hid hbw
      have HWT := Lib.hid (openWant_any ((hbw.cell (p := ⟨cb, 6, none⟩) hcb).trans h1) p.1)
      have x5 := cell_blk2 HP.out.rb (i := 5) (u := .slice aa m cc) rfl
      have x6 := cell_blk2 HP.out.rb (i := 6) (u := .bool false) rfl
      have f5 := fro_blk2 HP.out.rb 5
      have f6 := fro_blk2 HP.out.rb 6
      clear hcell hc1 hgb hgl hpi hpm hbw
      subst ha
      go_wp2_with fail
      refine HWT.out.mono ?_
      rintro e w3 ⟨rfl, hw3⟩
      obtain rfl : wr = w3 := hw3.symm
      have hsucc : pageL (fun k => decide (id < k)) (fun p => (⟨p.2.key, p.1, ((psz p.2.parts : Nat) : Int), p.2.born⟩ : ItemV)) (l.take (i + 1)) = pageL (fun k => decide (id < k)) (fun p => (⟨p.2.key, p.1, ((psz p.2.parts : Nat) : Int), p.2.born⟩ : ItemV)) (l.take i) ++ (if decide (id < p.1) = true then [(fun p => (⟨p.2.key, p.1, ((psz p.2.parts : Nat) : Int), p.2.born⟩ : ItemV)) p] else []) := pageL_succ HPI.out
      cases hP : decide (id < p.1) with
      | false =>
        rw [hP, if_neg (by decide), List.append_nil] at hsucc
        have HSU := Lib.hid hsucc
        clear hsucc hP x5 x6 f5 f6 hck HWT
        go_wp2_with fail
        go_roundw
        case rel => exact ⟨i + 1, m, cc, aa, by omega, hm, by push_cast; rfl, Lib.hid (by rw [HSU.out]; exact HP.out)⟩
        case measure => simp only [intOf]; omega
      | true =>
        rw [hP, if_pos rfl] at hsucc
        by_cases hm16 : m = 16
        · subst hm16
          have HLN := Lib.hid (show 16 < (pageL (fun k => decide (id < k)) (fun p => (⟨p.2.key, p.1, ((psz p.2.parts : Nat) : Int), p.2.born⟩ : ItemV)) l).length from by
            rw [pageL_split (P := (fun k => decide (id < k))) (f := (fun p => (⟨p.2.key, p.1, ((psz p.2.parts : Nat) : Int), p.2.born⟩ : ItemV))) (l := l) i, List.length_append, HP.out.len]
            have := pageL_drop (P := (fun k => decide (id < k))) (f := (fun p => (⟨p.2.key, p.1, ((psz p.2.parts : Nat) : Int), p.2.born⟩ : ItemV))) HPI.out hP
            omega)
          have HTK := Lib.hid (show (pageL (fun k => decide (id < k)) (fun p => (⟨p.2.key, p.1, ((psz p.2.parts : Nat) : Int), p.2.born⟩ : ItemV)) l).take 16 = pageL (fun k => decide (id < k)) (fun p => (⟨p.2.key, p.1, ((psz p.2.parts : Nat) : Int), p.2.born⟩ : ItemV)) (l.take i) from by
            rw [pageL_split (P := (fun k => decide (id < k))) (f := (fun p => (⟨p.2.key, p.1, ((psz p.2.parts : Nat) : Int), p.2.born⟩ : ItemV))) (l := l) i, List.take_append_of_le_length (by rw [HP.out.len]; omega), List.take_of_length_le (by rw [HP.out.len]; omega)])
          clear hsucc hP hck HWT
          go_upto_region 10 with fail
          have HPM2 := Lib.hid HP.out.more
          clear x5 x6 f5 f6
          obtain ⟨wm, hwm⟩ : ∃ wm, wm = wr.setCell ⟨R, 6, none⟩ (.bool true) := ⟨_, rfl⟩
          rw [← hwm] at HPM2
          rw [← hwm]
          clear hwm
          have rbx := HPM2.out.rb
          have x0 := cell_blk2 rbx (i := 0) (u := .int .i64 0) rfl
          have x1 := cell_blk2 rbx (i := 1) (u := .slice none 0 0) rfl
          have x2 := cell_blk2 rbx (i := 2) (u := .int .i64 0) rfl
          have x3 := cell_blk2 rbx (i := 3) (u := .int .i64 0) rfl
          have x4 := cell_blk2 rbx (i := 4) (u := .int .i64 0) rfl
          have x5 := cell_blk2 rbx (i := 5) (u := .slice aa 16 cc) rfl
          have x6 := cell_blk2 rbx (i := 6) (u := .bool true) rfl
          obtain ⟨e6, e1, e2, e3⟩ := page_fin HPM2.out (HB1.out.trans (HB2.out.mono HB1.out.size)) HRE.out HR62.out
          obtain ⟨⟨q0, q1, q2, q3, q4, q5, q6⟩, r0, r1, r2, r3, r4, r5, r6⟩ := rb_cells e6
          have E1 := Lib.hid e1
          have E2 := Lib.hid e2
          have E3 := Lib.hid e3
          clear rbx e6 e1 e2 e3
          go_wp2_with fail
          clear q0 q1 q2 q3 q4 q5 q6 r0 r1 r2 r3 r4 r5 r6 x0 x1 x2 x3 x4 x5 x6
          obtain ⟨W5, hW5⟩ : ∃ W5, W5 = setR wm w.heap.size (.int .i64 0) (.slice none 0 0) (.int .i64 0) (.int .i64 0) (.int .i64 0) (.slice aa 16 cc) (.bool true) := ⟨_, rfl⟩
          rw [← hW5] at E1 E2 E3
          unfold setR at hW5
          rw [← hW5]
          refine bodyPost_ret (ret_rep rfl _ _ w.heap.size rfl E1.out) rfl ⟨aa, 16, cc, ?_, ?_, hm, E3.out⟩
          · rw [decide_eq_true HLN.out]
          · rw [HTK.out]; exact E2.out
        · have hm15 : m < 16 := by omega
          have hne16 : ¬ (m : Int) = 16 := by omega
          have HSU := Lib.hid hsucc
          have hgm := HG.out.below HBW.out
          have hlk := lookU hgm.drew p.1 (hks p HPM.out)
          rw [get_of_mem litI HAP.out HPM.out] at hlk
          have hlk2 : (Instr.lookup 49 (.map (some M)) (.int .i64 p.1) false).run Tryz.prog wr.drew = .ok (.agg #[.string p.2.key, .int .i64 p.2.born, .map (some p.2.pb)]) wr.drew := hlk
          have HIT := Lib.hid (openItem_any ((hpp p HPM.out).below (HBW.out.trans (Below.refl _ wr).drew)) (hpw p HPM.out) (hpz p HPM.out) p.1 p.2.key p.2.born)
          have HAF := Lib.hid (show ∀ w9, Below wr.drew.heap.size wr.drew w9 → PgAt w2 w9 w2.heap.size R (.slice aa m cc) m (pageL (fun k => decide (id < k)) (fun p => (⟨p.2.key, p.1, ((psz p.2.parts : Nat) : Int), p.2.born⟩ : ItemV)) (l.take i)) false from fun w9 h9 => HP.out.below (((Below.refl _ _).drew).trans h9))
          clear hsucc hP hm hm16 hck HWT hgm hlk x6 f5 f6
          go_wp2_with fail
          go_region_law (first
            | (go_simp; go_at_call 54; refine HIT.out.mono ?_; rintro e w9 ⟨rfl, hb9⟩; have hp9 := HAF.out w9 hb9; have HP9 := Lib.hid hp9; have y5 := cell_blk2 hp9.rb (i := 5) (u := .slice aa m cc) rfl; have hpa := hp9.below ((Below.refl _ w9).alloc (Nat.le_refl _) (.cells #[.string p.2.key, .int .i64 p.1, .int .i64 ((psz p.2.parts : Nat) : Int), .int .i64 p.2.born] 54)); have HPA := Lib.hid hpa; have z5 := cell_blk2 hpa.rb (i := 5) (u := .slice aa m cc) rfl; have HB9 := Lib.hid hb9; clear hb9 hp9 hpa)
            | (refine step_append_own_at2 rfl (.tmp 28) (.tmp 35) 41 rfl w2.heap.size 54 i0 _ 4 40 Tryz.underlying41 hi hz0 hz1 hz2' rfl (by decide) _ _ _ rfl HPA.out.own ⟨w9.heap.size, 0, none⟩ 1 1 (ItemS.f ((fun p => (⟨p.2.key, p.1, ((psz p.2.parts : Nat) : Int), p.2.born⟩ : ItemV)) p)) rfl rfl (ItemS.src w9 ((fun p => (⟨p.2.key, p.1, ((psz p.2.parts : Nat) : Int), p.2.born⟩ : ItemV)) p) 54 rfl) (ItemS.one ((fun p => (⟨p.2.key, p.1, ((psz p.2.parts : Nat) : Int), p.2.born⟩ : ItemV)) p)) (by unfold maxLen; omega) (by omega) (by rw [World.size_alloc]; have h1 := HP9.out.frm.size; omega) ?_; intro v10 w10 ho10 hg10 hat10; obtain ⟨g10, c10, rfl⟩ := own_some2 ho10 (by omega); obtain ⟨f10, r10⟩ := PgAt.grow (v' := .slice (some ⟨g10, 0, none⟩) (m + 1) c10) (m' := m + 1) (xs' := []) HPA.out (Nat.le_refl _) hg10; have s5 := cell_blk2 r10 (i := 5) (u := .slice aa m cc) rfl; have s5f := fro_blk2 r10 5; have HO10 := Lib.hid ho10; have HF10 := Lib.hid f10; have HR10 := Lib.hid r10; clear ho10 hg10 hat10 f10 r10))
          all_goals
            clear x5 y5 z5 s5 s5f hlk2
            have HPN := Lib.hid (PgAt.set (xs := pageL (fun k => decide (id < k)) (fun p => (⟨p.2.key, p.1, ((psz p.2.parts : Nat) : Int), p.2.born⟩ : ItemV)) (l.take (i + 1))) HF10.out HR10.out (by rw [HSU.out]; have h1 := HO10.out; rw [← Sty.flat_snoc] at h1; exact h1) (by rw [HSU.out, List.length_append, HP.out.len]; rfl) (own_ne HO10.out HR10.out (by decide)))
            go_wp2_with fail
            go_roundw
            case rel => exact ⟨i + 1, m + 1, c10, _, by omega, by omega, by push_cast; rfl, HPN⟩
            case measure => simp only [intOf]; omega
    · have e : l.length = i := by omega
      have hx : pageL (fun k => decide (id < k)) (fun p => (⟨p.2.key, p.1, ((psz p.2.parts : Nat) : Int), p.2.born⟩ : ItemV)) (l.take i) = pageL (fun k => decide (id < k)) (fun p => (⟨p.2.key, p.1, ((psz p.2.parts : Nat) : Int), p.2.born⟩ : ItemV)) l := by rw [← e, List.take_length]
      rw [hx] at HP
      have HLN := Lib.hid (show ¬ 16 < (pageL (fun k => decide (id < k)) (fun p => (⟨p.2.key, p.1, ((psz p.2.parts : Nat) : Int), p.2.born⟩ : ItemV)) l).length from by rw [HP.out.len]; omega)
      have HTK := Lib.hid (show (pageL (fun k => decide (id < k)) (fun p => (⟨p.2.key, p.1, ((psz p.2.parts : Nat) : Int), p.2.born⟩ : ItemV)) l).take 16 = pageL (fun k => decide (id < k)) (fun p => (⟨p.2.key, p.1, ((psz p.2.parts : Nat) : Int), p.2.born⟩ : ItemV)) l from List.take_of_length_le (by rw [HP.out.len]; omega))
      clear hx hk
      go_upto_region 10 with fail
      have rbx := HP.out.rb
      have x0 := cell_blk2 rbx (i := 0) (u := .int .i64 0) rfl
      have x1 := cell_blk2 rbx (i := 1) (u := .slice none 0 0) rfl
      have x2 := cell_blk2 rbx (i := 2) (u := .int .i64 0) rfl
      have x3 := cell_blk2 rbx (i := 3) (u := .int .i64 0) rfl
      have x4 := cell_blk2 rbx (i := 4) (u := .int .i64 0) rfl
      have x5 := cell_blk2 rbx (i := 5) (u := .slice aa m cc) rfl
      have x6 := cell_blk2 rbx (i := 6) (u := .bool false) rfl
      obtain ⟨e6, e1, e2, e3⟩ := page_fin HP.out (HB1.out.trans (HB2.out.mono HB1.out.size)) HRE.out HR62.out
      obtain ⟨⟨q0, q1, q2, q3, q4, q5, q6⟩, r0, r1, r2, r3, r4, r5, r6⟩ := rb_cells e6
      have E1 := Lib.hid e1
      have E2 := Lib.hid e2
      have E3 := Lib.hid e3
      clear rbx e6 e1 e2 e3
      go_wp2_with fail
      clear q0 q1 q2 q3 q4 q5 q6 r0 r1 r2 r3 r4 r5 r6 x0 x1 x2 x3 x4 x5 x6
      obtain ⟨W5, hW5⟩ : ∃ W5, W5 = setR wr w.heap.size (.int .i64 0) (.slice none 0 0) (.int .i64 0) (.int .i64 0) (.int .i64 0) (.slice aa m cc) (.bool false) := ⟨_, rfl⟩
      rw [← hW5] at E1 E2 E3
      unfold setR at hW5
      rw [← hW5]
      refine bodyPost_ret (ret_rep rfl _ _ w.heap.size rfl E1.out) rfl ⟨aa, m, cc, ?_, ?_, hm, E3.out⟩
      · rw [decide_eq_false HLN.out]
      · rw [HTK.out]; exact E2.out
end Go.Proofs.YtjafagfhkpaciaaGreat
end PkSP5_7
section PkSP5_8
/- The store's list and opened, walked. Written by genstolst.py. -/
namespace Go.Proofs.YtjafagfhkpaciaaGreat
open Go.RowKit Go.Shelf Go.Maps Go.Sort
set_option linter.unusedVariables false

def LstSays (w : World) (s Mo Mu : Nat) (σ : Sto) (L : List ItemV) (e : Ending) (w' : World) : Prop :=
  StAt w' s Mo Mu σ ∧ RowKit.Below w.heap.size w w' ∧ ∃ a n c, e = .returned (rep 0 (.slice none 0 0) 0 0 0 (.slice a n c) (decide (16 < L.length))) ∧ w'.ownsRow w.heap.size 54 4 (.slice a n c) n (ItemS.flat (L.take 16)) ∧ n ≤ 16
set_option maxRecDepth 100000 in
set_option maxHeartbeats 4000000 in
theorem list_any {w : World} {s Mo Mu : Nat} {σ : Sto} (h : StAt w s Mo Mu σ) {ki vr at_ nn id : Int} {ky : ByteArray} {a : Option Addr} {n c : Nat} {xs : List Nat} (hx : BytesAt w a n c xs) (hn : σ.objs.length ≤ 1000) (hks : ∀ p ∈ σ.objs, p.1.size ≤ 1000000000000000) :
    Calls Tryz.prog 19 #[.pointer (some ⟨s, 0, none⟩), .agg #[.int .i64 ki, .string ky, .slice a n c, .int .i64 vr, .int .i64 at_, .int .i64 nn, .int .i64 id]] w (LstSays w s Mo Mu σ (pageL (wantK ky (bs xs)) (fun p => itemO p.1 p.2) σ.objs)) := by
  have HE := Lib.hid (ent_mk h #[.int .i64 ki, .string ky, .slice a n c, .int .i64 vr, .int .i64 at_, .int .i64 nn, .int .i64 id])
  have HS := Lib.hid h
  obtain ⟨beh, hbeh⟩ : ∃ beh, beh = bs xs := ⟨_, rfl⟩
  rw [← hbeh]
  have HX := Lib.hid hx
  have HBEH := Lib.hid hbeh
  clear h hx hbeh
  go_enter Tryz.func19, Tryz.ntmps19
  go_upto_region 1 with fail
  obtain ⟨W0, hW0⟩ : ∃ W0, W0 = (w.alloc (.cells #[.int .i64 ki, .string ky, .slice a n c, .int .i64 vr, .int .i64 at_, .int .i64 nn, .int .i64 id] 34)).alloc (.cells zrep 43) := ⟨_, rfl⟩
  rw [← hW0] at HE
  unfold zrep at hW0
  rw [← hW0]
  clear hW0
  have hk0 : w.heap.size < W0.heap.size := by have := HE.out.sz; omega
  have hr0 : w.heap.size + 1 < W0.heap.size := by have := HE.out.sz; omega
  have hs0 := HE.out.st.lts
  have ez0 := Lib.hid HE.out.sz
  have k1 := cell_blk2 HE.out.cb (i := 1) (u := .string ky) rfl
  have k2 := cell_blk2 HE.out.cb (i := 2) (u := .slice a n c) rfl
  have hcv := (HX.out.kept HE.out.bel).conv
  rw [← HBEH.out] at hcv
  obtain ⟨W1, hW1⟩ : ∃ W1, W1 = W0.alloc (.cells #[.string beh] 9) := ⟨_, rfl⟩
  have hb1 : RowKit.Below W0.heap.size W0 W1 := by rw [hW1]; exact (RowKit.Below.refl _ _).alloc (Nat.le_refl _) _
  have hbb : W1.heap[W0.heap.size]? = some (.cells #[.string beh] 9 (0, 0)) := by rw [hW1]; exact heap_new W0 _
  have hcb1 := (hb1.block _ (Array.getElem?_eq_some_iff.1 HE.out.cb).1).trans HE.out.cb
  have hst1 := HE.out.st.below hb1
  have c0 := cell_blk2 hst1.blk (i := 0) (u := .map (some Mo)) rfl
  have HPG := Lib.hid (pageO_any (w := W1) (cb := w.heap.size) (bb := W0.heap.size) hst1.obj hn (cell_blk2 hcb1 (i := 1) (u := .string ky) rfl) (cell_blk2 hbb (i := 0) (u := .string beh) rfl) (Nat.lt_of_lt_of_le hk0 hb1.size) (Array.getElem?_eq_some_iff.1 hbb).1 hks)
  have hrb1 := (hb1.block _ (Array.getElem?_eq_some_iff.1 HE.out.rb).1).trans HE.out.rb
  have HBE := Lib.hid (HE.out.bel.trans (hb1.mono HE.out.bel.size))
  have HST1 := Lib.hid hst1
  have HRB1 := Lib.hid hrb1
  have HW1 := Lib.hid hW1
  clear hb1 hbb hcb1 hst1 hrb1 hW1
  go_upto_region 3 with fail
  rw [← HW1.out]
  clear k1 k2 hcv HX
  go_wp2_with fail
  refine HPG.out.mono ?_
  rintro e w3 ⟨la, ln, lc, rfl, hown, hln, hb3⟩
  obtain ⟨mo, hmo⟩ : ∃ mo, mo = decide (16 < (pageL (wantK ky beh) (fun p => itemO p.1 p.2) σ.objs).length) := ⟨_, rfl⟩
  rw [← hmo]
  have HMO := Lib.hid hmo
  have hrb3 := (hb3.block _ (Array.getElem?_eq_some_iff.1 HRB1.out).1).trans HRB1.out
  obtain ⟨⟨q0, q1, q2, q3, q4, q5, q6⟩, r0, r1, r2, r3, r4, r5, r6⟩ := rb_cells hrb3
  have HRB3 := Lib.hid hrb3
  have HOWN := Lib.hid hown
  have HB3 := Lib.hid hb3
  clear hmo hrb3 hown hb3 c0 HPG
  unfold rep
  go_wp2_with fail
  clear q0 q1 q2 q3 q4 q5 q6 r0 r1 r2 r3 r4 r5 r6
  obtain ⟨W5, hW5⟩ : ∃ W5, W5 = setR w3 (w.heap.size + 1) (.int .i64 0) (.slice none 0 0) (.int .i64 0) (.int .i64 0) (.int .i64 0) (.slice la ln lc) (.bool mo) := ⟨_, rfl⟩
  have hr5 := setR_at0 HRB3.out (.int .i64 0) (.slice none 0 0) (.int .i64 0) (.int .i64 0) (.int .i64 0) (.slice la ln lc) (.bool mo)
  have hF5 := (Frm.refl (fun b => b = w.heap.size + 1) w3).setR (R := w.heap.size + 1) (.inl rfl) (.int .i64 0) (.slice none 0 0) (.int .i64 0) (.int .i64 0) (.int .i64 0) (.slice la ln lc) (.bool mo)
  rw [← hW5] at hr5 hF5
  unfold setR at hW5
  rw [← hW5]
  have hb13 := HBE.out.trans (HB3.out.mono HBE.out.size)
  refine bodyPost_ret (ret_rep rfl _ _ (w.heap.size + 1) rfl hr5) rfl ⟨?_, hb13.trans (hF5.toBelow hb13.size (fun i e => by rw [e]; omega)), la, ln, lc, by rw [HMO.out], ?_, hln⟩
  · exact (HST1.out.below HB3.out).same fun b hb => hF5.block b (Nat.lt_of_lt_of_le (HST1.out.lt hb) HB3.out.size) (fun e => by have := HS.out.lt hb; omega)
  · exact own_base (HOWN.out.kept (row := some (w.heap.size + 1)) ⟨hF5.os, hF5.tape, hF5.output, hF5.size, fun k hk hf => hF5.block k hk (fun e => hf (by rw [e]))⟩ (.inr (own_ne HOWN.out HRB3.out (by decide)))) HBE.out.size
set_option maxRecDepth 100000 in
set_option maxHeartbeats 4000000 in
theorem opened_any {w : World} {s Mo Mu : Nat} {σ : Sto} (h : StAt w s Mo Mu σ) {ki vr at_ nn id : Int} {ky : ByteArray} {a : Option Addr} {n c : Nat} (hn : σ.ups.length ≤ 1000) (hks : ∀ p ∈ σ.ups, (Lit.int .i64 p.1).wf = true) (hpw : ∀ p ∈ σ.ups, ∀ x ∈ p.2.parts, (Lit.int .i64 x.1).wf = true) (hpz : ∀ p ∈ σ.ups, psz p.2.parts ≤ 1000000000) :
    Calls Tryz.prog 25 #[.pointer (some ⟨s, 0, none⟩), .agg #[.int .i64 ki, .string ky, .slice a n c, .int .i64 vr, .int .i64 at_, .int .i64 nn, .int .i64 id]] w (LstSays w s Mo Mu σ (pageL (fun k => decide (id < k)) (fun p => (⟨p.2.key, p.1, ((psz p.2.parts : Nat) : Int), p.2.born⟩ : ItemV)) σ.ups)) := by
  have HE := Lib.hid (ent_mk h #[.int .i64 ki, .string ky, .slice a n c, .int .i64 vr, .int .i64 at_, .int .i64 nn, .int .i64 id])
  have HS := Lib.hid h
  clear h
  go_enter Tryz.func25, Tryz.ntmps25
  go_upto_region 1 with fail
  obtain ⟨W0, hW0⟩ : ∃ W0, W0 = (w.alloc (.cells #[.int .i64 ki, .string ky, .slice a n c, .int .i64 vr, .int .i64 at_, .int .i64 nn, .int .i64 id] 34)).alloc (.cells zrep 43) := ⟨_, rfl⟩
  rw [← hW0] at HE
  unfold zrep at hW0
  rw [← hW0]
  clear hW0
  have hk0 : w.heap.size < W0.heap.size := by have := HE.out.sz; omega
  have hr0 : w.heap.size + 1 < W0.heap.size := by have := HE.out.sz; omega
  have hs0 := HE.out.st.lts
  have ez0 := Lib.hid HE.out.sz
  have hst1 := HE.out.st
  have c0 := cell_blk2 hst1.blk (i := 1) (u := .map (some Mu)) rfl
  have HPG := Lib.hid (pageU_any (w := W0) (cb := w.heap.size) hst1.upl hn (cell_blk2 HE.out.cb (i := 6) (u := .int .i64 id) rfl) hk0 hks (fun p hp => hst1.prt p hp) hpw hpz)
  have HBE := Lib.hid HE.out.bel
  have HST1 := Lib.hid hst1
  have HRB1 := Lib.hid HE.out.rb
  clear hst1
  go_wp2_with fail
  refine HPG.out.mono ?_
  rintro e w3 ⟨la, ln, lc, rfl, hown, hln, hb3⟩
  obtain ⟨mo, hmo⟩ : ∃ mo, mo = decide (16 < (pageL (fun k => decide (id < k)) (fun p => (⟨p.2.key, p.1, ((psz p.2.parts : Nat) : Int), p.2.born⟩ : ItemV)) σ.ups).length) := ⟨_, rfl⟩
  rw [← hmo]
  have HMO := Lib.hid hmo
  have hrb3 := (hb3.block _ (Array.getElem?_eq_some_iff.1 HRB1.out).1).trans HRB1.out
  obtain ⟨⟨q0, q1, q2, q3, q4, q5, q6⟩, r0, r1, r2, r3, r4, r5, r6⟩ := rb_cells hrb3
  have HRB3 := Lib.hid hrb3
  have HOWN := Lib.hid hown
  have HB3 := Lib.hid hb3
  clear hmo hrb3 hown hb3 c0 HPG
  unfold rep
  go_wp2_with fail
  clear q0 q1 q2 q3 q4 q5 q6 r0 r1 r2 r3 r4 r5 r6
  obtain ⟨W5, hW5⟩ : ∃ W5, W5 = setR w3 (w.heap.size + 1) (.int .i64 0) (.slice none 0 0) (.int .i64 0) (.int .i64 0) (.int .i64 0) (.slice la ln lc) (.bool mo) := ⟨_, rfl⟩
  have hr5 := setR_at0 HRB3.out (.int .i64 0) (.slice none 0 0) (.int .i64 0) (.int .i64 0) (.int .i64 0) (.slice la ln lc) (.bool mo)
  have hF5 := (Frm.refl (fun b => b = w.heap.size + 1) w3).setR (R := w.heap.size + 1) (.inl rfl) (.int .i64 0) (.slice none 0 0) (.int .i64 0) (.int .i64 0) (.int .i64 0) (.slice la ln lc) (.bool mo)
  rw [← hW5] at hr5 hF5
  unfold setR at hW5
  rw [← hW5]
  have hb13 := HBE.out.trans (HB3.out.mono HBE.out.size)
  refine bodyPost_ret (ret_rep rfl _ _ (w.heap.size + 1) rfl hr5) rfl ⟨?_, hb13.trans (hF5.toBelow hb13.size (fun i e => by rw [e]; omega)), la, ln, lc, by rw [HMO.out], ?_, hln⟩
  · exact (HST1.out.below HB3.out).same fun b hb => hF5.block b (Nat.lt_of_lt_of_le (HST1.out.lt hb) HB3.out.size) (fun e => by have := HS.out.lt hb; omega)
  · exact own_base (HOWN.out.kept (row := some (w.heap.size + 1)) ⟨hF5.os, hF5.tape, hF5.output, hF5.size, fun k hk hf => hF5.block k hk (fun e => hf (by rw [e]))⟩ (.inr (own_ne HOWN.out HRB3.out (by decide)))) HBE.out.size
end Go.Proofs.YtjafagfhkpaciaaGreat
end PkSP5_8
section PkSP5_9
/- The store's Do of no kind, walked. Written by genstodo3.py. -/
namespace Go.Proofs.YtjafagfhkpaciaaGreat
open Go.RowKit
set_option linter.unusedVariables false

set_option maxRecDepth 100000 in
set_option maxHeartbeats 4000000 in
theorem do_no {w : World} {s Mo Mu : Nat} {σ : Sto} (h : SAt w s Mo Mu σ) {ki vr at_ nn id : Int} {ky : ByteArray} {a : Option Addr} {n c : Nat} (hki : ¬ (1 ≤ ki ∧ ki ≤ 11)) :
    Calls Tryz.prog 11 #[.pointer (some ⟨s, 0, none⟩), .agg #[.int .i64 ki, .string ky, .slice a n c, .int .i64 vr, .int .i64 at_, .int .i64 nn, .int .i64 id]] w (DoOut w s Mo Mu σ (fun W0 e w1 => e = .returned (rep0 1) ∧ StAt w1 s Mo Mu σ)) := by
  have hs := h.lts
  have HM : Hid (∀ W0, StAt W0 s Mo Mu σ → Calls Tryz.prog 15 #[.int .i64 1] W0 fun e w1 => RepShape e ∧ (e = .returned (rep0 1) ∧ StAt w1 s Mo Mu σ) ∧ Frm (StF s Mo Mu σ) W0 w1) := Lib.hid fun W0 h0 => (failed_any 1 W0).mono fun e w1 g => ⟨by rw [g.1]; exact rep0_shape 1, ⟨g.1, h0.below g.2⟩, Frm.ofBelow g.2⟩
  have g1 : ¬ ki = 1 := by omega
  have g2 : ¬ ki = 2 := by omega
  have g3 : ¬ ki = 3 := by omega
  have g4 : ¬ ki = 4 := by omega
  have g5 : ¬ ki = 5 := by omega
  have g6 : ¬ ki = 6 := by omega
  have g7 : ¬ ki = 7 := by omega
  have g8 : ¬ ki = 8 := by omega
  have g9 : ¬ ki = 9 := by omega
  have g10 : ¬ ki = 10 := by omega
  have g11 : ¬ ki = 11 := by omega
  have n1 : ¬ (1 : Int) = ki := by omega
  have n2 : ¬ (2 : Int) = ki := by omega
  have n3 : ¬ (3 : Int) = ki := by omega
  have n4 : ¬ (4 : Int) = ki := by omega
  have n5 : ¬ (5 : Int) = ki := by omega
  have n6 : ¬ (6 : Int) = ki := by omega
  have n7 : ¬ (7 : Int) = ki := by omega
  have n8 : ¬ (8 : Int) = ki := by omega
  have n9 : ¬ (9 : Int) = ki := by omega
  have n10 : ¬ (10 : Int) = ki := by omega
  have n11 : ¬ (11 : Int) = ki := by omega
  have hmn := map_nil 48 _ _ Tryz.underlying48
  clear hki
  rcases h with h | ⟨⟨mu, h, hmu⟩, he, hMo, hMu⟩
  · have E := ent_mk h #[.int .i64 ki, .string ky, .slice a n c, .int .i64 vr, .int .i64 at_, .int .i64 nn, .int .i64 id]
    obtain ⟨W0, hW0⟩ : ∃ W0, W0 = (w.alloc (.cells #[.int .i64 ki, .string ky, .slice a n c, .int .i64 vr, .int .i64 at_, .int .i64 nn, .int .i64 id] 34)).alloc (.cells zrep 43) := ⟨_, rfl⟩
    rw [← hW0] at E
    have HC := Lib.hid (HM.out W0 E.st)
    have HST := Lib.hid E.st
    have HF0 := Lib.hid (Frm.ofBelow (F := fun b => b = s) E.bel)
    have HSZ := Lib.hid (show w.heap.size + 2 ≤ W0.heap.size by rw [E.sz]; exact Nat.le_refl _)
    have HRB := Lib.hid E.rb
    have HNR := Lib.hid (show ¬ StF s Mo Mu σ (w.heap.size + 1) from fun hb => by have := h.lt hb; omega)
    have c0 := cell_blk2 h.blk (i := 0) (u := .map (some Mo)) rfl
    have hq2 : ∀ j u, (#[.int .i64 ki, .string ky, .slice a n c, .int .i64 vr, .int .i64 at_, .int .i64 nn, .int .i64 id] : Array Value)[j]? = some u → W0.cell? ⟨w.heap.size, j, none⟩ = some u := fun j u hu => cell_blk2 E.cb hu
    clear h HM E
    go_enter Tryz.func11, Tryz.ntmps11
    go_wp2_with fail
    unfold zrep at hW0
    rw [← hW0]
    clear hW0 c0 hq2
    refine HC.out.mono ?_
    rintro e w1 ⟨⟨x, ra, rn, rc, v, b, i, la, ln, lc, m, rfl⟩, hq, hfr⟩
    have hrb1 : w1.heap[w.heap.size + 1]? = some (.cells zrep 43 (0, 0)) := hfr.at HRB.out (fun hb => HNR.out hb)
    obtain ⟨⟨q0, q1, q2, q3, q4, q5, q6⟩, r0, r1, r2, r3, r4, r5, r6⟩ := rb_cells hrb1
    have HQ := Lib.hid hq
    have HFR := Lib.hid hfr
    have HRB1 := Lib.hid hrb1
    clear hq hfr hrb1
    go_wp2_with fail
    clear q0 q1 q2 q3 q4 q5 q6 r0 r1 r2 r3 r4 r5 r6
    obtain ⟨W5, hW5⟩ : ∃ W5, W5 = setR w1 (w.heap.size + 1) (.int .i64 x) (.slice ra rn rc) (.int .i64 v) (.int .i64 b) (.int .i64 i) (.slice la ln lc) (.bool m) := ⟨_, rfl⟩
    have hr5 := setR_at0 HRB1.out (.int .i64 x) (.slice ra rn rc) (.int .i64 v) (.int .i64 b) (.int .i64 i) (.slice la ln lc) (.bool m)
    have hF5 := (Frm.refl (fun b => b = w.heap.size + 1) w1).setR (R := w.heap.size + 1) (.inl rfl) (.int .i64 x) (.slice ra rn rc) (.int .i64 v) (.int .i64 b) (.int .i64 i) (.slice la ln lc) (.bool m)
    rw [← hW5] at hr5 hF5
    unfold setR at hW5
    rw [← hW5]
    refine bodyPost_ret (ret_rep rfl _ _ (w.heap.size + 1) rfl hr5) rfl ?_
    exact do_end HST.out HF0.out HSZ.out HQ.out HFR.out hF5
  · obtain ⟨wa, hwa⟩ : ∃ wa, wa = (w.alloc (.cells #[.int .i64 ki, .string ky, .slice a n c, .int .i64 vr, .int .i64 at_, .int .i64 nn, .int .i64 id] 34)).alloc (.cells zrep 43) := ⟨_, rfl⟩
    have ez : wa.heap.size = w.heap.size + 2 := by rw [hwa]; simp
    have hbe : Below w.heap.size w wa := by rw [hwa]; exact ((Below.refl _ _).alloc (Nat.le_refl _) _).alloc (by simp) _
    have hcb : wa.heap[w.heap.size]? = some (.cells #[.int .i64 ki, .string ky, .slice a n c, .int .i64 vr, .int .i64 at_, .int .i64 nn, .int .i64 id] 34 (0, 0)) := by
      rw [hwa]; exact (Below.heap_alloc _ _ _ (by simp)).trans (heap_new w _)
    have hrb : wa.heap[w.heap.size + 1]? = some (.cells zrep 43 (0, 0)) := by
      have := heap_new (w.alloc (.cells #[.int .i64 ki, .string ky, .slice a n c, .int .i64 vr, .int .i64 at_, .int .i64 nn, .int .i64 id] 34)) (.cells zrep 43)
      rw [← hwa] at this
      rwa [show (w.alloc (.cells #[.int .i64 ki, .string ky, .slice a n c, .int .i64 vr, .int .i64 at_, .int .i64 nn, .int .i64 id] 34)).heap.size = w.heap.size + 1 by simp] at this
    obtain ⟨hst, hfr⟩ := made_maps h wa hbe
    obtain ⟨W0, hW0⟩ : ∃ W0, W0 = (((wa.setCell ⟨s, 0, none⟩ (.map (some wa.heap.size))).setCell ⟨s, 1, none⟩ (.map (some (wa.heap.size + 1)))).alloc (.map #[] 0)).alloc (.map #[] 0) := ⟨_, rfl⟩
    rw [← hW0] at hst hfr
    have hfa : Frm (fun b => b = s) wa W0 := by
      rw [hW0]
      exact ((((Frm.refl (fun b => b = s) wa).set (p := s) (.inl rfl) 0 _).set (p := s) (.inl rfl) 1 _).below ((Below.refl _ _).alloc (Nat.le_refl _) _)).below ((Below.refl _ _).alloc (Nat.le_refl _) _)
    rw [ez, ← hMo, show Mo + 1 = Mu from by omega, ← he] at hst
    have hsz0 : w.heap.size + 2 ≤ W0.heap.size := by have := hfa.size; omega
    have hrb0 : W0.heap[w.heap.size + 1]? = some (.cells zrep 43 (0, 0)) := hfa.at hrb (by omega)
    have HC := Lib.hid (HM.out W0 hst)
    have HST := Lib.hid hst
    have HF0 := Lib.hid hfr
    have HSZ := Lib.hid hsz0
    have HRB := Lib.hid hrb0
    have HNR := Lib.hid (show ¬ StF s Mo Mu σ (w.heap.size + 1) from fun hb => by
      rw [he] at hb
      rcases hb with g | g | g | ⟨p, hp, g⟩
      · omega
      · omega
      · omega
      · cases hp)
    have hla : wa.heap[s]? = some (.cells (freC mu σ.now) 51 (0, 0)) := (hbe.block s hs).trans h
    have c0 := cell_blk2 h (i := 0) (u := .map none) rfl
    have hmk := @run_makeMap Tryz.prog
    have MO := Lib.hid hMo
    have MU := Lib.hid hMu
    have hs1 : s < wa.heap.size := Nat.lt_of_lt_of_le hs hbe.size
    have hk1 : w.heap.size < wa.heap.size := by omega
    have HLA := Lib.hid hla
    have HCB := Lib.hid hcb
    have EZ := Lib.hid ez
    have HWA := Lib.hid hwa
    clear hmu h HM hst hfr hsz0 hrb0 hfa hcb hrb hbe he hMo hMu hla hwa ez
    go_enter Tryz.func11, Tryz.ntmps11
    go_upto_region 4 with fail
    have hwa2 := HWA.out
    unfold zrep at hwa2
    rw [← hwa2]
    clear hwa2 c0
    have c0 := cell_blk2 HLA.out (i := 0) (u := .map none) rfl
    have c1 := cell_blk2 HLA.out (i := 1) (u := .map mu) rfl
    have f0 := fro_blk2 HLA.out 0
    have f1 := fro_blk2 HLA.out 1
    have k0 := cell_blk2 HCB.out (i := 0) (u := .int .i64 ki) rfl
    have k1 := cell_blk2 HCB.out (i := 1) (u := .string ky) rfl
    have k2 := cell_blk2 HCB.out (i := 2) (u := .slice a n c) rfl
    have k3 := cell_blk2 HCB.out (i := 3) (u := .int .i64 vr) rfl
    have k4 := cell_blk2 HCB.out (i := 4) (u := .int .i64 at_) rfl
    have k5 := cell_blk2 HCB.out (i := 5) (u := .int .i64 nn) rfl
    have k6 := cell_blk2 HCB.out (i := 6) (u := .int .i64 id) rfl
    go_wp2_with fail
    rw [← hW0]
    clear hW0 c0 c1 f0 f1 k0 k1 k2 k3 k4 k5 k6 hmk hs1 hk1
    refine HC.out.mono ?_
    rintro e w1 ⟨⟨x, ra, rn, rc, v, b, i, la, ln, lc, m, rfl⟩, hq, hfr⟩
    have hrb1 : w1.heap[w.heap.size + 1]? = some (.cells zrep 43 (0, 0)) := hfr.at HRB.out (fun hb => HNR.out hb)
    obtain ⟨⟨q0, q1, q2, q3, q4, q5, q6⟩, r0, r1, r2, r3, r4, r5, r6⟩ := rb_cells hrb1
    have HQ := Lib.hid hq
    have HFR := Lib.hid hfr
    have HRB1 := Lib.hid hrb1
    clear hq hfr hrb1
    go_wp2_with fail
    clear q0 q1 q2 q3 q4 q5 q6 r0 r1 r2 r3 r4 r5 r6
    obtain ⟨W5, hW5⟩ : ∃ W5, W5 = setR w1 (w.heap.size + 1) (.int .i64 x) (.slice ra rn rc) (.int .i64 v) (.int .i64 b) (.int .i64 i) (.slice la ln lc) (.bool m) := ⟨_, rfl⟩
    have hr5 := setR_at0 HRB1.out (.int .i64 x) (.slice ra rn rc) (.int .i64 v) (.int .i64 b) (.int .i64 i) (.slice la ln lc) (.bool m)
    have hF5 := (Frm.refl (fun b => b = w.heap.size + 1) w1).setR (R := w.heap.size + 1) (.inl rfl) (.int .i64 x) (.slice ra rn rc) (.int .i64 v) (.int .i64 b) (.int .i64 i) (.slice la ln lc) (.bool m)
    rw [← hW5] at hr5 hF5
    unfold setR at hW5
    rw [← hW5]
    refine bodyPost_ret (ret_rep rfl _ _ (w.heap.size + 1) rfl hr5) rfl ?_
    exact do_end HST.out HF0.out HSZ.out HQ.out HFR.out hF5
end Go.Proofs.YtjafagfhkpaciaaGreat
end PkSP5_9
section PkSP5_10
/- The store's Do of any call: what is left of it. -/
namespace Go.Proofs.YtjafagfhkpaciaaGreat
open Go.RowKit
set_option linter.unusedVariables false

theorem get_filter {l : List (Int × ByteArray)} {k j : Int} (h : j < k) : getK ilit k (l.filter fun p => decide (j < p.1)) = getK ilit k l := by
  unfold getK
  induction l with
  | nil => rfl
  | cons y r ih =>
    rw [List.filter_cons]
    cases hy : (ilit y.1).sameKey (ilit k) with
    | true =>
      have e := (litI.iff _ _).1 hy
      rw [if_pos (by rw [e]; exact decide_eq_true h), List.find?_cons, List.find?_cons, hy]
    | false =>
      rw [List.find?_cons (a := y), hy]
      split
      · rw [List.find?_cons, hy]; exact ih
      · exact ih
theorem drop_filter {l : List (Int × ByteArray)} (k : Nat) : dropK ilit ((k : Int) + 1) (l.filter fun p => decide ((k : Int) < p.1)) = l.filter fun p => decide (((k + 1 : Nat) : Int) < p.1) := by
  unfold dropK
  rw [List.filter_filter]
  apply List.filter_congr
  intro p _
  rw [Bool.eq_iff_iff]
  have h1 := litI.iff p.1 ((k : Int) + 1)
  cases hy : (ilit p.1).sameKey (ilit ((k : Int) + 1)) with
  | true =>
    have := h1.1 hy
    simp
    omega
  | false =>
    have : p.1 ≠ (k : Int) + 1 := fun e => by rw [h1.2 e] at hy; cases hy
    simp
    omega
theorem catP_tot {l : List (Int × ByteArray)} (hp : l.Pairwise fun p q => ilit p.1 ≠ ilit q.1) : ∀ {k : Nat} {d : List UInt8}, catP l k = some d → d.length + psz (l.filter fun p => decide ((k : Int) < p.1)) ≤ psz l
  | 0, d, h => by
    cases h
    have : psz (l.filter fun p => decide (((0 : Nat) : Int) < p.1)) ≤ psz l := by
      unfold psz
      induction l with
      | nil => exact Nat.le_refl _
      | cons y r ih =>
        have h2 := ih (List.pairwise_cons.1 hp).2
        rw [List.filter_cons]
        split
        · rw [tot_cons, tot_cons]; omega
        · rw [tot_cons]; omega
    simpa using this
  | k + 1, d, h => by
    unfold catP at h
    cases hk : catP l k with
    | none => rw [hk] at h; cases h
    | some d0 =>
      rw [hk] at h
      simp only at h
      cases hg : getK ilit ((k + 1 : Nat) : Int) l with
      | none => rw [hg] at h; cases h
      | some p =>
        rw [hg] at h
        cases h
        have ih := catP_tot hp hk
        have h2 := (drop_tot litI (fun d : ByteArray => d.size) (k := (k : Int) + 1) (hp.filter (fun p => decide ((k : Int) < p.1)))).1
        rw [drop_filter, get_filter (by omega), show ((k : Int) + 1) = ((k + 1 : Nat) : Int) from by push_cast; rfl, hg] at h2
        have h3 : p.data.toList.length = p.size := by simp
        rw [List.length_append, h3]
        simp only [gotN] at h2
        unfold psz at ih ⊢
        omega
theorem put_ok {σ : Sto} {ki vr : Int} {ky : ByteArray} {n : Nat} (h : putE σ ki ky vr n = 0) : isKeyB ky = true ∧ n ≤ 262144 ∧ ((objOf σ ky).isNone = true → σ.objs.length < 512) ∧ σ.size + ((n : Int) - (oldLen σ ky : Int)) ≤ 4194304 := by
  unfold putE at h
  split at h
  · cases h
  · rename_i h1
    split at h
    · cases h
    · split at h
      · cases h
      · rename_i h3
        split at h
        · cases h
        · rename_i h4
          refine ⟨by simpa using h1, by omega, fun g => ?_, by omega⟩
          rcases Nat.lt_or_ge σ.objs.length 512 with h5 | h5
          · exact h5
          · exact absurd (.inl ⟨g, h5⟩) h4
theorem prt_ok {σ : Sto} {i nn : Int} {n : Nat} {u : UplS} (hu : upOf σ i = some u) (h : partE σ i nn n = 0) : (1 ≤ nn ∧ nn ≤ 32) ∧ n ≤ 262144 ∧ σ.size + ((n : Int) - (oldP u nn : Int)) ≤ 4194304 := by
  unfold partE at h
  rw [hu] at h
  simp only at h
  split at h
  · cases h
  · split at h
    · cases h
    · split at h
      · cases h
      · exact ⟨by omega, by omega, by omega⟩
theorem com_ok {σ : Sto} {i nn : Int} {u : UplS} {d : List UInt8} (hu : upOf σ i = some u) (hd : catP u.parts nn.toNat = some d) (h : comE σ i nn = 0) : d.length ≤ 262144 ∧ ((objOf σ u.key).isNone = true → σ.objs.length < 512) := by
  unfold comE at h
  rw [hu] at h
  simp only at h
  split at h
  · cases h
  · rw [hd] at h
    simp only at h
    split at h
    · cases h
    · split at h
      · cases h
      · rename_i h4
        refine ⟨by omega, fun g => ?_⟩
        rcases Nat.lt_or_ge σ.objs.length 512 with h5 | h5
        · exact h5
        · exact absurd ⟨g, h5⟩ h4
theorem Apt.drop {σ : Sto} (h : Apt σ) (i : Int) (m : Nat) : Apt (dropS σ i m) :=
  ⟨h.obj, h.upl.filter _, fun p hp => h.prt p (mem_drop hp)⟩
theorem Inv.com {σ : Sto} (h : Inv σ) (ha : Apt σ) {i nn : Int} {u : UplS} {d : List UInt8} (hu : upOf σ i = some u) (hd : catP u.parts nn.toNat = some d) (he : comE σ i nn = 0) : Inv (comS σ i u d) := by
  obtain ⟨h1, h2⟩ := com_ok hu hd he
  have hm : (i, u) ∈ σ.ups := get_mem ilit_inj hu
  have h3 : d.length ≤ psz u.parts := Nat.le_trans (Nat.le_add_right _ _) (catP_tot (rise_apart before_int (ha.prt _ hm)) hd)
  have h4 : (⟨d.toArray⟩ : ByteArray).size = d.length := by show d.toArray.size = _; simp
  refine (h.drop ha hu).make (ha.drop i _) (h.upl _ hm).2.2.1 (by rw [h4]; exact h1) h2 ?_
  have h5 := h.siz
  rw [h4]
  have h6 : (dropS σ i (psz u.parts)).size = σ.size - (psz u.parts : Int) := rfl
  rw [h6]
  omega
theorem Inv.rem {σ : Sto} (h : Inv σ) (ha : Apt σ) {k : ByteArray} {o : ObjS} (hk : objOf σ k = some o) : Inv (remS σ k) := by
  have h1 := drop_tot litS oSz (k := k) ha.obj
  rw [got_old] at h1
  have hg : getK slit k σ.objs = some o := hk
  rw [hg] at h1
  have h2 := h.tot
  have h3 := h.siz
  have h4 := h.nob
  simp only [Option.isSome_some, if_pos] at h1
  refine ⟨h.ver, h.id, h.now, ?_, ?_, ?_, h.nup, fun p hp => h.obj p (mem_drop hp), h.upl, h.prt⟩
  · unfold remS; simp only; omega
  · unfold remS; simp only; omega
  · unfold remS; simp only; omega
/-- what a call may do to a store -/
structure DoRes (σ σ' : Sto) (ki x v : Int) : Prop where
  inv : Inv σ'
  now : σ'.now = σ.now
  ver : σ.ver ≤ σ'.ver ∧ σ'.ver ≤ σ.ver + 1
  idd : σ'.id ≤ σ.id + 1
  err : x ≠ 0 → σ' = σ
  look : (ki = 3 ∨ ki = 4 ∨ ki = 5 ∨ ki = 11) → σ' = σ
  made : x = 0 → (ki = 1 ∨ ki = 2 ∨ ki = 9) → v = σ.ver + 1 ∧ σ'.ver = σ.ver + 1
  objs : σ'.objs = σ.objs ∨ (∃ k, σ'.objs = dropK slit k σ.objs) ∨ (∃ k d, σ'.objs = putK slit k ⟨d, σ.ver + 1, σ.now⟩ σ.objs ∧ σ'.ver = σ.ver + 1)
theorem DoRes.same {σ : Sto} (h : Inv σ) {ki x v : Int} (hm : x = 0 → ¬ (ki = 1 ∨ ki = 2 ∨ ki = 9)) : DoRes σ σ ki x v :=
  ⟨h, rfl, ⟨Int.le_refl _, by omega⟩, by omega, fun _ => rfl, fun _ => rfl, fun e g => absurd g (hm e), .inl rfl⟩
def AnyD (w : World) (s Mo Mu : Nat) (σ : Sto) (ki : Int) (e : Ending) (w' : World) : Prop :=
  ∃ (x : Int) (a : Option Addr) (n c : Nat) (v b i : Int) (la : Option Addr) (ln lc : Nat) (m : Bool) (σ' : Sto), e = .returned (rep x (.slice a n c) v b i (.slice la ln lc) m) ∧ DoRes σ σ' ki x v ∧ StAt w' s Mo Mu σ' ∧ Frm (StF s Mo Mu σ) w w' ∧ (∀ b, StF s Mo Mu σ' b → StF s Mo Mu σ b ∨ w.heap.size ≤ b)
section
variable {w : World} {s Mo Mu : Nat} {σ : Sto} {ki vr at_ nn id : Int} {ky : ByteArray} {a : Option Addr} {n c : Nat} {xs : List Nat}
theorem any_same {e : Ending} {w5 : World} (hi : Inv σ) {x v b i : Int} {a la : Option Addr} {n c ln lc : Nat} {m : Bool} (he : e = .returned (rep x (.slice a n c) v b i (.slice la ln lc) m)) (hst : StAt w5 s Mo Mu σ) (hf : Frm (StF s Mo Mu σ) w w5) (hm : x = 0 → ¬ (ki = 1 ∨ ki = 2 ∨ ki = 9)) : AnyD w s Mo Mu σ ki e w5 :=
  ⟨x, a, n, c, v, b, i, la, ln, lc, m, σ, he, DoRes.same hi hm, hst, hf, fun b hb => .inl hb⟩
theorem any_same0 {e : Ending} {w5 : World} (hi : Inv σ) {x : Int} (hx : x ≠ 0) (he : e = .returned (rep0 x)) (hst : StAt w5 s Mo Mu σ) (hf : Frm (StF s Mo Mu σ) w w5) : AnyD w s Mo Mu σ ki e w5 :=
  any_same (b := 0) (i := 0) (v := 0) (m := false) hi he hst hf (fun e => absurd e hx)
theorem make_blk {k d : ByteArray} {b : Nat} (h : StF s Mo Mu (makeS σ k d) b) : StF s Mo Mu σ b := h
theorem put_any' {e : Ending} {w5 : World} (h : SAt w s Mo Mu σ) (hi : Inv σ) (hki : ki = 1 ∨ ki = 2) (hn : (bs xs).size = n) (hd : PutD w s Mo Mu σ (putE σ ki ky vr n) ky (bs xs) e w5) : AnyD w s Mo Mu σ ki e w5 := by
  obtain ⟨hf, h1, h2⟩ := hd
  rcases Classical.em (putE σ ki ky vr n = 0) with g | g
  · obtain ⟨rfl, hst⟩ := h2 g
    obtain ⟨q1, q2, q3, q4⟩ := put_ok g
    refine ⟨0, none, 0, 0, _, _, 0, none, 0, 0, false, _, rfl, ⟨hi.make (Apt.of h) q1 (by rw [hn]; exact q2) q3 (by rw [hn]; exact q4), rfl, ⟨by show σ.ver ≤ σ.ver + 1; omega, Int.le_refl _⟩, by show σ.id ≤ σ.id + 1; omega, fun e => absurd rfl e, fun e => by omega, fun _ _ => ⟨rfl, rfl⟩, .inr (.inr ⟨ky, bs xs, rfl, rfl⟩)⟩, hst, hf, fun b hb => .inl hb⟩
  · obtain ⟨he, hst⟩ := h1 g
    exact any_same0 hi g he hst hf
theorem any_1 (h : SAt w s Mo Mu σ) (hi : Inv σ) (hok : OkS σ) (hx : BytesAt w a n c xs) (hk : ky.size ≤ 1000000000000000) (hki : ki = 1 ∨ ki = 2) :
    Calls Tryz.prog 11 #[.pointer (some ⟨s, 0, none⟩), .agg #[.int .i64 ki, .string ky, .slice a n c, .int .i64 vr, .int .i64 at_, .int .i64 nn, .int .i64 id]] w (AnyD w s Mo Mu σ ki) := by
  have hn : (bs xs).size = n := by rw [bs_sizeS]; exact hx.len
  rcases hki with rfl | rfl
  · exact (doPut h hx hk hok).mono fun e w5 hd => put_any' h hi (.inl rfl) hn hd
  · exact (doPutIf h hx hk hok).mono fun e w5 hd => put_any' h hi (.inr rfl) hn hd
theorem any_3 (h : SAt w s Mo Mu σ) (hi : Inv σ) (hok : OkS σ) (hk : ky.size ≤ 1000000000000000) :
    Calls Tryz.prog 11 #[.pointer (some ⟨s, 0, none⟩), .agg #[.int .i64 3, .string ky, .slice a n c, .int .i64 vr, .int .i64 at_, .int .i64 nn, .int .i64 id]] w (AnyD w s Mo Mu σ 3) := by
  refine (doGet h hk hok).mono fun e w5 ⟨hf, hst, hq⟩ => ?_
  cases hg : objOf σ ky with
  | none => rw [hg] at hq; exact any_same0 hi (by decide) hq hst hf
  | some o => rw [hg] at hq; obtain ⟨g, c, he, _⟩ := hq; exact any_same hi he hst hf (fun _ e => by omega)
theorem any_4 (h : SAt w s Mo Mu σ) (hi : Inv σ) (hok : OkS σ) (hk : ky.size ≤ 1000000000000000) :
    Calls Tryz.prog 11 #[.pointer (some ⟨s, 0, none⟩), .agg #[.int .i64 4, .string ky, .slice a n c, .int .i64 vr, .int .i64 at_, .int .i64 nn, .int .i64 id]] w (AnyD w s Mo Mu σ 4) := by
  refine (do_4 h (Q := fun W0 e w1 => PieSays W0 s Mo Mu σ ky at_ nn e w1) (fun W0 h0 hF hz => (piece_any h0 hk (hok.old ky)).mono fun e w1 hq => ⟨?_, hq, Frm.ofBelow hq.2.1⟩)).mono fun e w5 ho => ?_
  · rcases Classical.em (pieE σ ky at_ nn = 0) with g | g
    · obtain ⟨o, g, m, c, _, he, _⟩ := hq.2.2.2 g; rw [he]; exact rep_shape _ _ _ _ _ _ _ _ _ _ _
    · rw [hq.2.2.1 g]; exact rep0_shape _
  · obtain ⟨W0, w1, g1, g2, g3, hq, g5, g6⟩ := ho
    have hst := out_st h g3 hq.1 (fun b hb => .inl hb) g6
    have hf := out_frm g2 g5 g6
    rcases Classical.em (pieE σ ky at_ nn = 0) with g | g
    · obtain ⟨o, g, m, c, _, he, _⟩ := hq.2.2.2 g; exact any_same hi he hst hf (fun _ e => by omega)
    · exact any_same0 hi g (hq.2.2.1 g) hst hf
theorem lst_any {W0 w1 w5 : World} {e : Ending} {L : List ItemV} (h : SAt w s Mo Mu σ) (hi : Inv σ) (hki : ki = 5 ∨ ki = 11) (g2 : Frm (fun b => b = s) w W0) (g3 : w.heap.size + 2 ≤ W0.heap.size) (hq : LstSays W0 s Mo Mu σ L e w1) (g5 : Frm (StF s Mo Mu σ) W0 w1) (g6 : Frm (fun b => b = w.heap.size + 1) w1 w5) : AnyD w s Mo Mu σ ki e w5 := by
  obtain ⟨q1, q2, la, ln, lc, he, _⟩ := hq
  exact any_same hi he (out_st h g3 q1 (fun b hb => .inl hb) g6) (out_frm g2 g5 g6) (fun _ e => by omega)
theorem lst_shape {W0 w1 : World} {e : Ending} {L : List ItemV} (hq : LstSays W0 s Mo Mu σ L e w1) : RepShape e := by
  obtain ⟨_, _, la, ln, lc, he, _⟩ := hq
  rw [he]; exact rep_shape _ _ _ _ _ _ _ _ _ _ _
theorem key_small (hi : Inv σ) : ∀ p ∈ σ.objs, p.1.size ≤ 1000000000000000 := fun p hp => by
  have h1 := (hi.obj p hp).1
  unfold isKeyB at h1
  simp only [Bool.and_eq_true, decide_eq_true_eq] at h1
  omega
def LstD (w : World) (s Mo Mu : Nat) (σ : Sto) (L : List ItemV) (e : Ending) (w5 : World) : Prop := ∃ W0 w1, Frm (fun b => b = s) w W0 ∧ w.heap.size + 2 ≤ W0.heap.size ∧ LstSays W0 s Mo Mu σ L e w1 ∧ Frm (StF s Mo Mu σ) W0 w1 ∧ Frm (fun b => b = w.heap.size + 1) w1 w5
theorem doList (h : SAt w s Mo Mu σ) (hi : Inv σ) (hx : BytesAt w a n c xs) :
    Calls Tryz.prog 11 #[.pointer (some ⟨s, 0, none⟩), .agg #[.int .i64 5, .string ky, .slice a n c, .int .i64 vr, .int .i64 at_, .int .i64 nn, .int .i64 id]] w (LstD w s Mo Mu σ (pageL (wantK ky (bs xs)) (fun p => itemO p.1 p.2) σ.objs)) :=
  (do_5 h (Q := fun W0 e w1 => LstSays W0 s Mo Mu σ (pageL (wantK ky (bs xs)) (fun p => itemO p.1 p.2) σ.objs) e w1) (fun W0 h0 hF hz => (list_any h0 (h.bytes hF hx) (by have := hi.nob; omega) (key_small hi)).mono fun e w1 hq => ⟨lst_shape hq, hq, Frm.ofBelow hq.2.1⟩)).mono fun e w5 ⟨W0, w1, g1, g2, g3, hq, g5, g6⟩ => ⟨W0, w1, g2, g3, hq, g5, g6⟩
theorem doOpened (h : SAt w s Mo Mu σ) (hi : Inv σ) (hidb : σ.id ≤ 1000000000) :
    Calls Tryz.prog 11 #[.pointer (some ⟨s, 0, none⟩), .agg #[.int .i64 11, .string ky, .slice a n c, .int .i64 vr, .int .i64 at_, .int .i64 nn, .int .i64 id]] w (LstD w s Mo Mu σ (pageL (fun k => decide (id < k)) (fun p => (⟨p.2.key, p.1, ((psz p.2.parts : Nat) : Int), p.2.born⟩ : ItemV)) σ.ups)) :=
  (do_11 h (Q := fun W0 e w1 => LstSays W0 s Mo Mu σ (pageL (fun k => decide (id < k)) (fun p => (⟨p.2.key, p.1, ((psz p.2.parts : Nat) : Int), p.2.born⟩ : ItemV)) σ.ups) e w1) (fun W0 h0 hF hz => (opened_any h0 (by have := hi.nup; omega) (fun p hp => wf_small (by have := hi.upl p hp; omega)) (fun p hp x hx => wf_small (by have := hi.prt p hp x hx; omega)) (fun p hp => by
      have h1 : psz p.2.parts ≤ totK uSz σ.ups := tot_mem uSz hp
      have h2 := hi.tot
      have h3 := hi.siz
      omega)).mono fun e w1 hq => ⟨lst_shape hq, hq, Frm.ofBelow hq.2.1⟩)).mono fun e w5 ⟨W0, w1, g1, g2, g3, hq, g5, g6⟩ => ⟨W0, w1, g2, g3, hq, g5, g6⟩
theorem any_6 (h : SAt w s Mo Mu σ) (hi : Inv σ) (hok : OkS σ) (hk : ky.size ≤ 1000000000000000) :
    Calls Tryz.prog 11 #[.pointer (some ⟨s, 0, none⟩), .agg #[.int .i64 6, .string ky, .slice a n c, .int .i64 vr, .int .i64 at_, .int .i64 nn, .int .i64 id]] w (AnyD w s Mo Mu σ 6) := by
  refine (do_6 h (Q := fun W0 e w1 => RemSays W0 s Mo Mu σ ky e w1) (fun W0 h0 hF hz => (remove_any h0 hk (hok.old ky) hok.siz).mono fun e w1 hq => ⟨?_, hq, ?_⟩)).mono fun e w5 ho => ?_
  · unfold RemSays at hq
    cases hg : objOf σ ky with
    | none => rw [hg] at hq; rw [hq.1]; exact rep0_shape _
    | some o => rw [hg] at hq; rw [hq.1]; exact rep0_shape _
  · unfold RemSays at hq
    cases hg : objOf σ ky with
    | none => rw [hg] at hq; exact Frm.ofBelow hq.2.2
    | some o => rw [hg] at hq; exact hq.2.2
  · obtain ⟨W0, w1, g1, g2, g3, hq, g5, g6⟩ := ho
    unfold RemSays at hq
    have hf := out_frm g2 g5 g6
    cases hg : objOf σ ky with
    | none => rw [hg] at hq; exact any_same0 hi (by decide) hq.1 (out_st h g3 hq.2.1 (fun b hb => .inl hb) g6) hf
    | some o =>
      rw [hg] at hq
      exact ⟨0, none, 0, 0, 0, 0, 0, none, 0, 0, false, _, hq.1, ⟨hi.rem (Apt.of h) hg, rfl, ⟨Int.le_refl _, by show σ.ver ≤ σ.ver + 1; omega⟩, by show σ.id ≤ σ.id + 1; omega, fun e => absurd rfl e, fun e => by omega, fun _ e => by omega, .inr (.inl ⟨ky, rfl⟩)⟩, out_st h g3 hq.2.1 (fun b hb => .inl hb) g6, hf, fun b hb => .inl hb⟩
theorem any_7 (h : SAt w s Mo Mu σ) (hi : Inv σ) (hok : OkS σ) :
    Calls Tryz.prog 11 #[.pointer (some ⟨s, 0, none⟩), .agg #[.int .i64 7, .string ky, .slice a n c, .int .i64 vr, .int .i64 at_, .int .i64 nn, .int .i64 id]] w (AnyD w s Mo Mu σ 7) := by
  refine (doCreate h hok).mono fun e w5 ⟨hf, h1, h2, h3⟩ => ?_
  cases hk : isKeyB ky with
  | false => obtain ⟨he, hst⟩ := h1 hk; exact any_same0 hi (by decide) he hst hf
  | true =>
    rcases Nat.lt_or_ge σ.ups.length 512 with g | g
    · obtain ⟨pb, he, hpb, hst⟩ := h3 hk g
      exact ⟨0, none, 0, 0, 0, _, _, none, 0, 0, false, _, he, ⟨hi.create (Apt.of h) hk g, rfl, ⟨Int.le_refl _, by show σ.ver ≤ σ.ver + 1; omega⟩, Int.le_refl _, fun e => absurd rfl e, fun e => by omega, fun _ e => by omega, .inl rfl⟩, hst, hf, fun b hb => (cre_blk hb).elim .inl (fun e => .inr (by rw [e]; exact hpb))⟩
    · obtain ⟨he, hst⟩ := h2 hk g; exact any_same0 hi (by decide) he hst hf
theorem any_8 (h : SAt w s Mo Mu σ) (hi : Inv σ) (hok : OkS σ) (hx : BytesAt w a n c xs) (hid : (Lit.int .i64 id).wf = true) :
    Calls Tryz.prog 11 #[.pointer (some ⟨s, 0, none⟩), .agg #[.int .i64 8, .string ky, .slice a n c, .int .i64 vr, .int .i64 at_, .int .i64 nn, .int .i64 id]] w (AnyD w s Mo Mu σ 8) := by
  refine (doPart h hx hid hok).mono fun e w5 ⟨hf, h1, h2⟩ => ?_
  have hn : (bs xs).size = n := by rw [bs_sizeS]; exact hx.len
  rcases Classical.em (partE σ id nn n = 0) with g | g
  · obtain ⟨u, hu, he, hst⟩ := h2 g
    obtain ⟨q1, q2, q3⟩ := prt_ok hu g
    exact ⟨0, none, 0, 0, 0, 0, 0, none, 0, 0, false, _, he, ⟨hi.part (Apt.of h) hu q1 (by rw [hn]; exact q2) (by rw [hn]; exact q3), rfl, ⟨Int.le_refl _, by show σ.ver ≤ σ.ver + 1; omega⟩, by show σ.id ≤ σ.id + 1; omega, fun e => absurd rfl e, fun e => by omega, fun _ e => by omega, .inl rfl⟩, hst, hf, fun b hb => .inl (part_blk hb)⟩
  · obtain ⟨he, hst⟩ := h1 g; exact any_same0 hi g he hst hf
theorem any_9 (h : SAt w s Mo Mu σ) (hi : Inv σ) (hok : OkS σ) (hid : (Lit.int .i64 id).wf = true) :
    Calls Tryz.prog 11 #[.pointer (some ⟨s, 0, none⟩), .agg #[.int .i64 9, .string ky, .slice a n c, .int .i64 vr, .int .i64 at_, .int .i64 nn, .int .i64 id]] w (AnyD w s Mo Mu σ 9) := by
  refine (doComplete h hid hok).mono fun e w5 ⟨hf, h1, h2⟩ => ?_
  rcases Classical.em (comE σ id nn = 0) with g | g
  · obtain ⟨u, d, hu, hd, he, hst⟩ := h2 g
    exact ⟨0, none, 0, 0, _, _, 0, none, 0, 0, false, _, he, ⟨hi.com (Apt.of h) hu hd g, rfl, ⟨by show σ.ver ≤ σ.ver + 1; omega, Int.le_refl _⟩, by show σ.id ≤ σ.id + 1; omega, fun e => absurd rfl e, fun e => by omega, fun _ _ => ⟨rfl, rfl⟩, .inr (.inr ⟨u.key, _, rfl, rfl⟩)⟩, hst, hf, fun b hb => .inl (StF.drop (StF.make hb))⟩
  · obtain ⟨he, hst⟩ := h1 g; exact any_same0 hi g he hst hf
theorem any_10 (h : SAt w s Mo Mu σ) (hi : Inv σ) (hok : OkS σ) (hid : (Lit.int .i64 id).wf = true) :
    Calls Tryz.prog 11 #[.pointer (some ⟨s, 0, none⟩), .agg #[.int .i64 10, .string ky, .slice a n c, .int .i64 vr, .int .i64 at_, .int .i64 nn, .int .i64 id]] w (AnyD w s Mo Mu σ 10) := by
  refine (doAbort h hid hok).mono fun e w5 ⟨hf, hq⟩ => ?_
  cases hg : upOf σ id with
  | none => rw [hg] at hq; exact any_same0 hi (by decide) hq.1 hq.2 hf
  | some u =>
    rw [hg] at hq
    exact ⟨0, none, 0, 0, 0, 0, 0, none, 0, 0, false, _, hq.1, ⟨hi.drop (Apt.of h) hg, rfl, ⟨Int.le_refl _, by show σ.ver ≤ σ.ver + 1; omega⟩, by show σ.id ≤ σ.id + 1; omega, fun e => absurd rfl e, fun e => by omega, fun _ e => by omega, .inl rfl⟩, hq.2, hf, fun b hb => .inl hb.drop⟩
/-- Do, of any call -/
theorem doAny (h : SAt w s Mo Mu σ) (hi : Inv σ) (hv : σ.ver ≤ 1000000000) (hidb : σ.id ≤ 1000000000) (hx : BytesAt w a n c xs) (hk : ky.size ≤ 1000000000000000) (hid : (Lit.int .i64 id).wf = true) :
    Calls Tryz.prog 11 #[.pointer (some ⟨s, 0, none⟩), .agg #[.int .i64 ki, .string ky, .slice a n c, .int .i64 vr, .int .i64 at_, .int .i64 nn, .int .i64 id]] w (AnyD w s Mo Mu σ ki) := by
  have hok := hi.ok hv hidb
  by_cases hb : 1 ≤ ki ∧ ki ≤ 11
  · have hcs : ki = 1 ∨ ki = 2 ∨ ki = 3 ∨ ki = 4 ∨ ki = 5 ∨ ki = 6 ∨ ki = 7 ∨ ki = 8 ∨ ki = 9 ∨ ki = 10 ∨ ki = 11 := by omega
    clear hb
    rcases hcs with rfl | rfl | rfl | rfl | rfl | rfl | rfl | rfl | rfl | rfl | rfl
    · exact any_1 h hi hok hx hk (.inl rfl)
    · exact any_1 h hi hok hx hk (.inr rfl)
    · exact any_3 h hi hok hk
    · exact any_4 h hi hok hk
    · exact (doList h hi hx).mono fun e w5 ⟨W0, w1, g2, g3, hq, g5, g6⟩ => lst_any h hi (.inl rfl) g2 g3 hq g5 g6
    · exact any_6 h hi hok hk
    · exact any_7 h hi hok
    · exact any_8 h hi hok hx hid
    · exact any_9 h hi hok hid
    · exact any_10 h hi hok hid
    · exact (doOpened h hi hidb).mono fun e w5 ⟨W0, w1, g2, g3, hq, g5, g6⟩ => lst_any h hi (.inr rfl) g2 g3 hq g5 g6
  · exact (do_no h hb).mono fun e w5 ⟨W0, w1, g1, g2, g3, hq, g5, g6⟩ => any_same0 hi (by decide) hq.1 (out_st h g3 hq.2 (fun b hb => .inl hb) g6) (out_frm g2 g5 g6)
end
end Go.Proofs.YtjafagfhkpaciaaGreat
end PkSP5_10
section PkSP5_11
/- The program's store and the document's, plainly: the same in both. -/
namespace Go.Proofs.YtjafagfhkpaciaaGreat
open Go.RowKit
set_option linter.unusedVariables false

theorem nums_bs {xs : List Nat} (h : ∀ x ∈ xs, x < 256) : numsOf (bs xs) = xs := bs_inj (numsOf_lt _) h (by rw [bs_numsOf])
def oP (o : DObj) : ByteArray × ObjS := (o.key, ⟨bs o.data, o.ver, o.born⟩)
def pP (p : DPrt) : Int × ByteArray := (p.n, bs p.data)
structure UTie (p : Int × UplS) (u : DUpl) : Prop where
  id : p.1 = u.id
  key : p.2.key = u.key
  born : p.2.born = u.born
  prt : (u.parts.map pP).Perm p.2.parts
structure Tie (σ : Sto) (δ : DSto) : Prop where
  objs : σ.objs = δ.objs.map oP
  ulen : σ.ups.length = δ.ups.length
  upl : ∀ (i : Nat) (p : Int × UplS) (u : DUpl), σ.ups[i]? = some p → δ.ups[i]? = some u → UTie p u
  ver : σ.ver = δ.ver
  id : σ.id = δ.id
  now : σ.now = δ.now
/-- the rows' lengths are told rightly -/
structure DOk (δ : DSto) : Prop where
  obj : ∀ o ∈ δ.objs, o.data.length = o.dn ∧ ∀ x ∈ o.data, x < 256
  prt : ∀ u ∈ δ.ups, ∀ p ∈ u.parts, p.data.length = p.dn ∧ ∀ x ∈ p.data, x < 256
  len : ∀ u ∈ δ.ups, u.parts.length = u.pn
theorem DStAt.ok {w : World} {S base : Nat} {δ : DSto} (h : DStAt w S base δ) : DOk δ :=
  ⟨fun o ho => ⟨(h.obj o ho).len, (h.obj o ho).byte⟩, fun u hu p hp => ⟨((h.upl u hu).prt p hp).len, ((h.upl u hu).prt p hp).byte⟩, fun u hu => (h.upl u hu).len⟩
theorem find_idx {α : Type} (p : α → Bool) : ∀ l : List α, (match l.findIdx? p with | none => none | some j => l[j]?) = l.find? p
  | [] => rfl
  | a :: r => by
    rw [List.findIdx?_cons, List.find?_cons]
    cases h : p a with
    | true => simp
    | false =>
      have ih := find_idx p r
      rw [← ih]
      simp only [Bool.false_eq_true, if_false]
      cases r.findIdx? p with
      | none => rfl
      | some j => simp
theorem objD_find (δ : DSto) (k : ByteArray) : objD δ k = δ.objs.find? (fun o => decide (o.key = k)) := find_idx _ _
section
variable {σ : Sto} {δ : DSto}
theorem Tie.obj (h : Tie σ δ) (k : ByteArray) : objOf σ k = (objD δ k).map fun o => (oP o).2 := by
  unfold objOf getK
  rw [objD_find, h.objs, List.find?_map, Option.map_map]
  have : ((fun p : ByteArray × ObjS => (slit p.1).sameKey (slit k)) ∘ oP) = fun o => decide (o.key = k) := by
    funext o
    rw [Bool.eq_iff_iff, decide_eq_true_eq]
    exact litS.iff o.key k
  rw [this]
  rfl
theorem objD_mem {k : ByteArray} {o : DObj} (h : objD δ k = some o) : o ∈ δ.objs ∧ o.key = k := by
  rw [objD_find] at h
  exact ⟨List.mem_of_find?_eq_some h, of_decide_eq_true (List.find?_some (p := fun o : DObj => decide (o.key = k)) h)⟩
theorem Tie.oldVer (h : Tie σ δ) (k : ByteArray) : oldVer σ k = dVer δ k := by
  unfold Go.Proofs.YtjafagfhkpaciaaGreat.oldVer dVer
  rw [h.obj k]
  cases objD δ k <;> rfl
theorem Tie.oldLen (h : Tie σ δ) (hd : DOk δ) (k : ByteArray) : oldLen σ k = dHad δ k := by
  unfold Go.Proofs.YtjafagfhkpaciaaGreat.oldLen dHad
  rw [h.obj k]
  cases ho : objD δ k with
  | none => rfl
  | some o =>
    show (bs o.data).size = o.dn
    rw [bs_sizeS]
    exact (hd.obj o (objD_mem ho).1).1
theorem Tie.olen (h : Tie σ δ) : σ.objs.length = δ.objs.length := by rw [h.objs, List.length_map]
theorem tie_osum (h : Tie σ δ) (hd : DOk δ) : totK oSz σ.objs = osum δ.objs := by
  unfold totK osum
  rw [h.objs, List.map_map]
  congr 1
  apply List.map_congr_left
  intro o ho
  show (bs o.data).size = o.dn
  rw [bs_sizeS]
  exact (hd.obj o ho).1
theorem UTie.psz {p : Int × UplS} {u : DUpl} (h : UTie p u) (hd : ∀ x ∈ u.parts, x.data.length = x.dn) : psz p.2.parts = psum u.parts := by
  unfold Go.Proofs.YtjafagfhkpaciaaGreat.psz totK psum
  rw [← (h.prt.map fun q => q.2.size).sum_nat, List.map_map]
  congr 1
  apply List.map_congr_left
  intro x hx
  show (bs x.data).size = x.dn
  rw [bs_sizeS]
  exact hd x hx
theorem tie_usum (h : Tie σ δ) (hd : DOk δ) : totK uSz σ.ups = usum δ.ups := by
  unfold totK usum
  congr 1
  apply List.ext_getElem?
  intro i
  rw [List.getElem?_map, List.getElem?_map]
  cases hp : σ.ups[i]? with
  | none =>
    rw [List.getElem?_eq_none_iff, h.ulen, ← List.getElem?_eq_none_iff] at hp
    rw [hp]; rfl
  | some p =>
    have hl : i < δ.ups.length := by rw [← h.ulen]; exact (List.getElem?_eq_some_iff.1 hp).1
    obtain ⟨u, hu⟩ : ∃ u, δ.ups[i]? = some u := ⟨_, List.getElem?_eq_getElem hl⟩
    rw [hu]
    show some (psz p.2.parts) = some (psum u.parts)
    rw [(h.upl i p u hp hu).psz (fun x hx => (hd.prt u (List.mem_of_getElem? hu) x hx).1)]
theorem Tie.size (h : Tie σ δ) (hd : DOk δ) (hi : Inv σ) : σ.size = ((osum δ.objs + usum δ.ups : Nat) : Int) := by
  rw [hi.tot, tie_osum h hd, tie_usum h hd]; push_cast; rfl
theorem Tie.ids (h : Tie σ δ) : σ.ups.map (·.1) = δ.ups.map (·.id) := by
  apply List.ext_getElem?
  intro i
  rw [List.getElem?_map, List.getElem?_map]
  cases hp : σ.ups[i]? with
  | none =>
    rw [List.getElem?_eq_none_iff, h.ulen, ← List.getElem?_eq_none_iff] at hp
    rw [hp]; rfl
  | some p =>
    have hl : i < δ.ups.length := by rw [← h.ulen]; exact (List.getElem?_eq_some_iff.1 hp).1
    obtain ⟨u, hu⟩ : ∃ u, δ.ups[i]? = some u := ⟨_, List.getElem?_eq_getElem hl⟩
    rw [hu]
    show some p.1 = some u.id
    rw [(h.upl i p u hp hu).id]
theorem Tie.uidx (h : Tie σ δ) (i : Int) : δ.ups.findIdx? (fun u => decide (u.id = i)) = σ.ups.findIdx? (fun p => decide (p.1 = i)) := by
  have h1 : (σ.ups.map (·.1)).findIdx? (fun z => decide (z = i)) = σ.ups.findIdx? (fun p => decide (p.1 = i)) := by rw [List.findIdx?_map]; rfl
  have h2 : (δ.ups.map (·.id)).findIdx? (fun z => decide (z = i)) = δ.ups.findIdx? (fun u => decide (u.id = i)) := by rw [List.findIdx?_map]; rfl
  rw [← h1, ← h2, h.ids]
/-- an upload, in both -/
theorem Tie.up (h : Tie σ δ) (i : Int) : (upOf σ i = none ∧ δ.ups.findIdx? (fun u => decide (u.id = i)) = none) ∨ ∃ (j : Nat) (v : UplS) (u : DUpl), upOf σ i = some v ∧ δ.ups.findIdx? (fun u => decide (u.id = i)) = some j ∧ σ.ups[j]? = some (i, v) ∧ δ.ups[j]? = some u ∧ UTie (i, v) u := by
  have hup : upOf σ i = (match σ.ups.findIdx? (fun p : Int × UplS => decide (p.1 = i)) with | none => none | some j => σ.ups[j]?).map (fun q : Int × UplS => q.2) := by
    unfold upOf getK
    rw [find_idx]
    have : (fun p : Int × UplS => (ilit p.1).sameKey (ilit i)) = fun p => decide (p.1 = i) := by
      funext p
      rw [Bool.eq_iff_iff, decide_eq_true_eq]
      exact litI.iff p.1 i
    rw [this]
  rw [h.uidx i]
  cases hf : σ.ups.findIdx? (fun p => decide (p.1 = i)) with
  | none =>
    rw [hf] at hup
    exact .inl ⟨hup, rfl⟩
  | some j =>
    rw [hf] at hup
    obtain ⟨⟨k, v⟩, hp, hk, hl⟩ := find_at hf
    have hk' : k = i := of_decide_eq_true hk
    subst hk'
    obtain ⟨u, hu⟩ : ∃ u, δ.ups[j]? = some u := ⟨_, List.getElem?_eq_getElem (show j < δ.ups.length by rw [← h.ulen]; exact hl)⟩
    refine .inr ⟨j, v, u, ?_, rfl, hp, hu, h.upl j _ u hp hu⟩
    rw [hup]
    show (σ.ups[j]?).map (·.2) = some v
    rw [hp]; rfl
end
/-- taken out by its key -/
theorem drop_out {κ α : Type} {lit : κ → Lit} (hlit : LitOk lit) : ∀ {l : List (κ × α)} {j : Nat} {k : κ} {a : α}, l.Pairwise (fun p q => lit p.1 ≠ lit q.1) → l[j]? = some (k, a) → dropK lit k l = outK l j
  | x :: r, 0, k, a, hp, h => by
    simp at h
    subst h
    unfold dropK outK
    rw [List.filter_cons]
    have h1 : (lit k).sameKey (lit k) = true := (hlit.iff k k).2 rfl
    simp only [h1, Bool.not_true, Bool.false_eq_true, if_false, List.take_zero, List.nil_append, List.drop_succ_cons, List.drop_zero, Nat.zero_add]
    rw [List.filter_eq_self]
    intro p hpm
    have := (List.pairwise_cons.1 hp).1 p hpm
    cases hs : (lit p.1).sameKey (lit k) with
    | false => rfl
    | true => exact absurd (by rw [(hlit.iff p.1 k).1 hs]) this
  | x :: r, j + 1, k, a, hp, h => by
    have h' : r[j]? = some (k, a) := by simpa using h
    have ih := drop_out hlit (List.pairwise_cons.1 hp).2 h'
    have hne := (List.pairwise_cons.1 hp).1 _ (List.mem_of_getElem? h')
    unfold dropK outK at ih ⊢
    rw [List.filter_cons]
    have hx : (lit x.1).sameKey (lit k) = false := by
      cases hs : (lit x.1).sameKey (lit k) with
      | false => rfl
      | true => exact absurd (by rw [(hlit.iff x.1 k).1 hs]) hne
    simp only [hx, Bool.not_false, if_true, List.take_succ_cons, List.drop_succ_cons, List.cons_append]
    rw [ih]
theorem outK_map {α β : Type} (f : α → β) (l : List α) (j : Nat) : outK (l.map f) j = (outK l j).map f := by
  unfold outK; rw [List.map_append, List.map_take, List.map_drop]
theorem outK_get {α : Type} (l : List α) (j i : Nat) (hj : j < l.length) : (outK l j)[i]? = if i < j then l[i]? else l[i + 1]? := by
  unfold outK
  by_cases h : i < j
  · rw [if_pos h, List.getElem?_append_left (by rw [List.length_take]; omega), List.getElem?_take_of_lt h]
  · rw [if_neg h, List.getElem?_append_right (by rw [List.length_take]; omega), List.length_take, List.getElem?_drop]
    congr 1
    omega
theorem outK_length {α : Type} (l : List α) (j : Nat) (hj : j < l.length) : (outK l j).length = l.length - 1 := by rw [outK_len hj]; omega
end Go.Proofs.YtjafagfhkpaciaaGreat
end PkSP5_11
section PkSP5_12
/- A region whose order is drawn, in which some operations wait for each other in a chain and turn the world, and all others only read and have known values. -/
namespace Go.Proofs.YtjafagfhkpaciaaGreat
open Go.RowKit
set_option linter.unusedVariables false

/-- does operation i wait for operation j -/
def needsB (ops : Array Oper) : Nat → Nat → Nat → Bool
  | 0, _, _ => false
  | f + 1, i, j => match ops[i]? with
    | none => false
    | some o => o.after.any fun (e : Edge) => Region.binds .any e && (e.on == j || needsB ops f e.on j)
/-- what has come up is closed: all that an operation waited for -/
def ClosedB (ops : Array Oper) (L : Nat → Bool) : Prop := ∀ (i : Nat) (o : Oper), ops[i]? = some o → L i = true → ∀ e : Edge, e ∈ o.after → Region.binds .any e = true → L e.on = true
theorem needs_up {ops : Array Oper} {L : Nat → Bool} (h : ClosedB ops L) : ∀ (f i j : Nat), needsB ops f i j = true → L i = true → L j = true
  | 0, _, _, hn, _ => by cases hn
  | f + 1, i, j, hn, hl => by
    unfold needsB at hn
    cases ho : ops[i]? with
    | none => rw [ho] at hn; cases hn
    | some o =>
      rw [ho] at hn
      simp only [Array.any_eq_true] at hn
      obtain ⟨k, hk, he⟩ := hn
      rw [Bool.and_eq_true, Bool.or_eq_true] at he
      have h1 := h i o ho hl _ (Array.getElem_mem hk) he.1
      rcases he.2 with g | g
      · rw [← beq_iff_eq.1 g]; exact h1
      · exact needs_up h f _ j g h1
def bigC : Nat := 1000000
/-- the chain: told apart, each link waits for the one ahead, the last one for all -/
def chainOk (ops : Array Oper) (E : List Nat) (fr : Bool) : Bool :=
  decide (ops.size < bigC) && decide (0 < E.length) && (E.all fun e => decide (e < ops.size)) && decide (E.Nodup) && ((List.range (E.length - 1)).all fun i => needsB ops ops.size (E.getD (i + 1) bigC) (E.getD i bigC)) &&
  (fr || (List.range ops.size).all fun j => E.contains j || needsB ops ops.size (E.getD (E.length - 1) bigC) j)
structure ChI (ops : Array Oper) (E : List Nat) (St : Nat → (Nat → Value) → World → Prop) (vals : Nat → Option Value) (L : Nat → Bool) (v : Nat → Value) (w : World) : Prop where
  cl : ClosedB ops L
  st : ∃ k, k ≤ E.length ∧ (∀ i, i < E.length → (L (E.getD i bigC) = true ↔ i < k)) ∧ St k (fun n => v (E.getD n bigC)) w
  vs : ∀ j x, L j = true → vals j = some x → v j = x
theorem closed_add {ops : Array Oper} {L : Nat → Bool} (h : ClosedB ops L) {i : Nat} {o : Oper} (ho : ops[i]? = some o) (hd : ∀ e : Edge, e ∈ o.after → Region.binds .any e = true → L e.on = true) : ClosedB ops (fun j => L j || decide (j = i)) := by
  intro j o' hj hl e he hb
  show (L e.on || decide (e.on = i)) = true
  have hl' : (L j || decide (j = i)) = true := hl
  rcases Bool.or_eq_true_iff.1 hl' with g | g
  · rw [h j o' hj g e he hb, Bool.true_or]
  · obtain rfl : j = i := by simpa using g
    rw [ho] at hj
    cases hj
    rw [hd e he hb, Bool.true_or]
theorem wp_region_chain {P : Program} {ops : Array Oper} {Q : Exit → Act → World → Prop} {id : Nat} {a : Act} {w : World} (hm : P.follows .mixedOrders = true)
    (hne : ((List.range ops.size).all fun i => (List.range ops.size).all fun j => decide (i = j) || (slotOf ops i == none) || !(slotOf ops i == slotOf ops j)) = true)
    (hac : ((List.range ops.size).all fun i => (ops[i]?).all fun (o : Oper) => o.after.all fun (e : Edge) => !Region.binds .any e || decide (e.on < i)) = true)
    (E : List Nat) (fr : Bool) (hE : chainOk ops E fr = true) (St : Nat → (Nat → Value) → World → Prop) (R : World → Prop) (vals : Nat → Option Value)
    (hv : ((List.range ops.size).all fun j => E.contains j || (vals j).isSome) = true)
    (h0 : ∀ u, St 0 u w.drew) (hR : ∀ k u w1, (fr = false → k < E.length) → k ≤ E.length → St k u w1 → R w1)
    (val : ∀ (j : Nat) (o : Oper), ops[j]? = some o → E.contains j = false → ∀ (v : Nat → Value) (w1 : World) (K : Act → World → Prop), R w1 → (∀ e : Edge, e ∈ o.after → Region.binds .any e = true → ∀ x, vals e.on = some x → v e.on = x) →
      (∀ x, vals j = some x → ∀ a2, a2 = (fill ops a v ops.size).put o.dst x → K a2 w1) →
      if Region.wanted o (yielded ops (fill ops a v ops.size).tmps) = true then Oper.wp P o (fill ops a v ops.size) w1 K Q else K ((fill ops a v ops.size).put o.dst undef) w1)
    (eff : ∀ (i e : Nat) (o : Oper), E[i]? = some e → ops[e]? = some o → ∀ (v : Nat → Value) (w1 : World) (K : Act → World → Prop), St i (fun n => v (E.getD n bigC)) w1 → (∀ e' : Edge, e' ∈ o.after → Region.binds .any e' = true → ∀ x, vals e'.on = some x → v e'.on = x) →
      (∀ x w2, St (i + 1) (fun n => if n = i then x else v (E.getD n bigC)) w2 → (∀ y, vals e = some y → x = y) → ∀ a2, a2 = (fill ops a v ops.size).put o.dst x → K a2 w2) →
      if Region.wanted o (yielded ops (fill ops a v ops.size).tmps) = true then Oper.wp P o (fill ops a v ops.size) w1 K Q else K ((fill ops a v ops.size).put o.dst undef) w1)
    (last : ∀ (v : Nat → Value) (w1 : World), St E.length (fun n => v (E.getD n bigC)) w1 → (∀ j x, j < ops.size → vals j = some x → v j = x) → Q .normal (fill ops a v ops.size) w1) : (Code.region id ops true).wp P Q a w := by
  unfold chainOk at hE
  simp only [Bool.and_eq_true, Bool.or_eq_true, decide_eq_true_eq, List.all_eq_true, List.mem_range] at hE
  obtain ⟨⟨⟨⟨⟨hbig, hpos⟩, hlt⟩, hnd⟩, hch⟩, hla⟩ := hE
  have hgd : ∀ i, i < E.length → E[i]? = some (E.getD i bigC) := fun i hi => by
    rw [List.getElem?_eq_getElem hi, List.getD_eq_getElem?_getD, List.getElem?_eq_getElem hi]; rfl
  have hmem : ∀ i, i < E.length → E.getD i bigC ∈ E := fun i hi => List.mem_of_getElem? (hgd i hi)
  have hinj : ∀ i j, i < E.length → j < E.length → E.getD i bigC = E.getD j bigC → i = j := fun i j hi hj e => by
    have h1 := hgd i hi
    rw [e, ← hgd j hj] at h1
    exact (List.getElem?_inj hi hnd).1 h1
  have hbd : ∀ i, E.length ≤ i → E.getD i bigC = bigC := fun i hi => by rw [List.getD_eq_getElem?_getD, List.getElem?_eq_none hi]; rfl
  refine wp_region_inv hm hne hac (ChI ops E St vals) (fun v => ⟨(fun i o ho h => by cases h), ⟨0, Nat.zero_le _, (fun i hi => ⟨(fun h => by cases h), (fun h => by omega)⟩), h0 _⟩, (fun j x h => by cases h)⟩) ?_ ?_
  · intro j o ho L v w1 K hI hL hdep hK
    have hjs : j < ops.size := (Array.getElem?_eq_some_iff.1 ho).1
    obtain ⟨k, hk, hLk, hSt⟩ := hI.st
    have hcl := closed_add hI.cl ho hdep
    have hdv : ∀ e : Edge, e ∈ o.after → Region.binds .any e = true → ∀ x, vals e.on = some x → v e.on = x := fun e he hb x hx => hI.vs e.on x (hdep e he hb) hx
    cases hc : E.contains j with
    | false =>
      have hnE : ∀ i, i < E.length → E.getD i bigC ≠ j := fun i hi e => by
        have := hmem i hi
        rw [e] at this
        rw [List.contains_iff_mem.2 this] at hc
        cases hc
      have hkl : fr = false → k < E.length := by
        intro hfr
        rcases Nat.lt_or_ge k E.length with g | g
        · exact g
        · exfalso
          have h1 := (hLk (E.length - 1) (by omega)).2 (by omega)
          have h2 := (hla.resolve_left (by rw [hfr]; decide)) j hjs
          have h2' : needsB ops ops.size (E.getD (E.length - 1) bigC) j = true := h2.resolve_left (by rw [hc]; decide)
          have h3 := needs_up hI.cl _ _ _ h2' h1
          rw [hL] at h3
          cases h3
      have hsm := List.all_eq_true.1 hv j (List.mem_range.2 hjs)
      rw [hc, Bool.false_or] at hsm
      refine val j o ho hc v w1 K (hR k _ w1 hkl hk hSt) hdv (fun x hx a2 ha2 => hK x w1 ⟨hcl, ⟨k, hk, fun i hi => ?_, ?_⟩, fun i y hi hy => ?_⟩ a2 ha2)
      · show (L (E.getD i bigC) || decide (E.getD i bigC = j)) = true ↔ i < k
        rw [decide_eq_false (hnE i hi), Bool.or_false]
        exact hLk i hi
      · have : (fun n => upd v j x (E.getD n bigC)) = fun n => v (E.getD n bigC) := by
          funext n
          unfold upd
          rw [if_neg]
          rcases Nat.lt_or_ge n E.length with g | g
          · exact hnE n g
          · rw [hbd n g]; omega
        rw [this]
        exact hSt
      · unfold upd
        by_cases e : i = j
        · rw [if_pos e]
          rw [e, hx] at hy
          exact Option.some.inj hy
        · rw [if_neg e]
          have hi' : (L i || decide (i = j)) = true := hi
          rw [decide_eq_false e, Bool.or_false] at hi'
          exact hI.vs i y hi' hy
    | true =>
      obtain ⟨i, hi, hEi⟩ := List.getElem_of_mem (List.contains_iff_mem.1 hc)
      have hEi' : E.getD i bigC = j := by rw [List.getD_eq_getElem?_getD, List.getElem?_eq_getElem hi, hEi]; rfl
      have hki : k ≤ i := by
        rcases Nat.lt_or_ge i k with g | g
        · have := (hLk i hi).2 g
          rw [hEi', hL] at this
          cases this
        · exact g
      have hkE : k = i := by
        rcases Nat.eq_or_lt_of_le hki with g | g
        · exact g
        · exfalso
          have h2 := hch (i - 1) (by omega)
          rw [show i - 1 + 1 = i by omega, hEi'] at h2
          -- what j waits for has come up
          have h3 : L (E.getD (i - 1) bigC) = true := by
            have hcl2 := needs_up (L := fun y => L y || decide (y = j)) hcl _ _ _ h2 (by simp)
            have hne' : E.getD (i - 1) bigC ≠ j := fun e => by
              rw [← hEi'] at e
              have := hinj _ _ (by omega) hi e
              omega
            have : (L (E.getD (i - 1) bigC) || decide (E.getD (i - 1) bigC = j)) = true := hcl2
            rwa [decide_eq_false hne', Bool.or_false] at this
          have := (hLk (i - 1) (by omega)).1 h3
          omega
      subst hkE
      refine eff k j o (by rw [hgd k hi, hEi']) ho v w1 K hSt hdv (fun x w2 hs hy9 a2 ha2 => hK x w2 ⟨hcl, ⟨k + 1, by omega, fun n hn => ?_, ?_⟩, fun i y hi2 hy => ?_⟩ a2 ha2)
      · show (L (E.getD n bigC) || decide (E.getD n bigC = j)) = true ↔ n < k + 1
        by_cases e : n = k
        · subst e
          rw [hEi', decide_eq_true rfl, Bool.or_true]
          exact ⟨fun _ => by omega, fun _ => rfl⟩
        · rw [decide_eq_false (fun h => e (hinj _ _ hn hi (h.trans hEi'.symm))), Bool.or_false, hLk n hn]
          omega
      · have : (fun n => upd v j x (E.getD n bigC)) = fun n => if n = k then x else v (E.getD n bigC) := by
          funext n
          unfold upd
          by_cases e : n = k
          · rw [if_pos e, e, if_pos hEi']
          · rw [if_neg e, if_neg]
            rcases Nat.lt_or_ge n E.length with g | g
            · exact fun h => e (hinj _ _ g hi (h.trans hEi'.symm))
            · rw [hbd n g]; omega
        rw [this]
        exact hs
      · unfold upd
        by_cases e : i = j
        · rw [if_pos e]
          rw [e] at hy
          exact hy9 y hy
        · rw [if_neg e]
          have hi' : (L i || decide (i = j)) = true := hi2
          rw [decide_eq_false e, Bool.or_false] at hi'
          exact hI.vs i y hi' hy
  · intro L v w1 hI hall
    obtain ⟨k, hk, hLk, hSt⟩ := hI.st
    have hkE : k = E.length := by
      have h1 := (hLk (E.length - 1) (by omega)).1 (hall _ (hlt _ (hmem _ (by omega))))
      omega
    subst hkE
    exact last v w1 hSt (fun j x hj hx => hI.vs j x (hall j hj) hx)
end Go.Proofs.YtjafagfhkpaciaaGreat
end PkSP5_12
section PkSP5_13
/- Append of items; the document's pages, plainly. -/
namespace Go.Proofs.YtjafagfhkpaciaaGreat
open Go.RowKit
set_option linter.unusedVariables false

theorem info_itm : (Tryz.prog.info? 54).map (fun i => (i.zero, i.size, i.bytes)) = some (some (itemV ⟨ByteArray.empty, 0, 0, 0⟩), 4, 40) := by kernel_rfl
theorem size_itm (w : World) : (Go.sizeOf 54).run Tryz.prog w = .ok 4 w := by kernel_rfl
theorem wpList_append_itm {w : World} {ops : Array Oper} {rest : List Oper} {o : Oper} {a : Act} {Q : Exit → Act → World → Prop} (hgd : o.guard = none) (s x : Operand)
    (ho : o.op = .call { callee := .builtin .append, args := #[s, x], argTypes := #[41, 41] })
    (base : Nat) (v : Value) (n : Nat) (xs : List ItemV) (hs : a.eval s = v) (hown : w.ownsRow base 54 4 v n (ItemS.flat xs))
    (src : Option Addr) (m c : Nat) (ys : List ItemV) (hx : a.eval x = .slice src m c) (hb : VecAt ItemS w src m c ys)
    (h63 : (n + m) * 40 ≤ 140737488355328) (hbase : base ≤ w.heap.size)
    (h : ∀ v' w', w'.ownsRow base 54 4 v' (n + m) (ItemS.flat (xs ++ ys)) → w.grownBy w' v.ownBlock → wpList Tryz.prog ops Q rest (a.put o.dst v') w') : wpList Tryz.prog ops Q (o :: rest) a w := by
  obtain ⟨i0, hi, hz0, hz1, hz2⟩ := info_parts info_itm
  rcases src with _ | ad
  · have hc := hb.nl rfl
    have hm : m = 0 := by have := hb.cap; omega
    subst hm
    subst hc
    have hy : ys = [] := List.eq_nil_of_length_eq_zero hb.len
    subst hy
    refine wpList_append_own_none hgd s x 41 ho base 54 i0 4 Tryz.underlying41 hi v n (ItemS.flat xs) hs hown hx ?_
    exact h v w (by simpa using hown) (World.grownBy.refl _ _)
  · have hfl : ItemS.flat (xs ++ ys) = ItemS.flat xs ++ ItemS.flat ys := by unfold Sty.flat; rw [List.flatMap_append]
    refine wpList_append_own_at w hgd s x 41 ho base 54 i0 _ 4 40 Tryz.underlying41 hi hz0 hz1 hz2 rfl (by decide) v n (ItemS.flat xs) hs hown ad m c (ItemS.flat ys) hx (by rw [ItemS.flat_len, hb.len]; rfl) hb.src (ItemS.flat_one _) (by unfold maxLen; omega) h63 hbase ?_
    intro v' w' h1 h2 _ _
    exact h v' w' (by rw [hfl]; exact h1) h2
theorem step_append_itm {w : World} {b : Bool} {o : Oper} {a : Act} {K : Act → World → Prop} {Q : Exit → Act → World → Prop} {E : Prop} (hw : b = true) (s x : Operand)
    (ho : o.op = .call { callee := .builtin .append, args := #[s, x], argTypes := #[41, 41] })
    (base : Nat) (v : Value) (n : Nat) (xs : List ItemV) (hs : a.eval s = v) (hown : w.ownsRow base 54 4 v n (ItemS.flat xs))
    (src : Option Addr) (m c : Nat) (ys : List ItemV) (hx : a.eval x = .slice src m c) (hb : VecAt ItemS w src m c ys)
    (h63 : (n + m) * 40 ≤ 140737488355328) (hbase : base ≤ w.heap.size)
    (h : ∀ v' w', w'.ownsRow base 54 4 v' (n + m) (ItemS.flat (xs ++ ys)) → w.grownBy w' v.ownBlock → K (a.put o.dst v') w') : if b = true then Oper.wp Tryz.prog o a w K Q else E := by
  rw [if_pos hw]
  obtain ⟨i0, hi, hz0, hz1, hz2⟩ := info_parts info_itm
  rcases src with _ | ad
  · have hc := hb.nl rfl
    have hm : m = 0 := by have := hb.cap; omega
    subst hm
    subst hc
    have hy : ys = [] := List.eq_nil_of_length_eq_zero hb.len
    subst hy
    have hrun := run_append_owned_none (P := Tryz.prog) (w := w) base 41 o.type 54 i0 4 Tryz.underlying41 hi v n (ItemS.flat xs) hown
    unfold Oper.wp
    simp [execOp, ho, resolve, invoke, builtin, hs, hx, hrun, Result.andThen]
    exact h v w (by simpa using hown) (World.grownBy.refl _ _)
  · have hfl : ItemS.flat (xs ++ ys) = ItemS.flat xs ++ ItemS.flat ys := by unfold Sty.flat; rw [List.flatMap_append]
    obtain ⟨v', w', hr, h2, h3, _, _⟩ := run_append_own_at (P := Tryz.prog) w base 41 o.type 54 i0 _ 4 40 Tryz.underlying41 hi hz0 hz1 hz2 rfl (by decide) v n (ItemS.flat xs) hown ad m c (ItemS.flat ys) (by rw [ItemS.flat_len, hb.len]; rfl) hb.src (ItemS.flat_one _) (by unfold maxLen; omega) h63 hbase
    unfold Oper.wp execOp
    simp only [ho, resolve, invoke, builtin, Sem.run_bind, Sem.run_pure, Result.andThen_ok, List.map_toArray, List.map_cons, List.map_nil, hs, hx, hr]
    exact h v' w' (by rw [hfl]; exact h2) h3
/-- the objects, the uploads, by their keys -/
def objsK (l : List DObj) : List (ByteArray × DObj) := l.map fun o => (o.key, o)
def upsK (l : List DUpl) : List (Int × DUpl) := l.map fun u => (u.id, u)
def itemD (p : ByteArray × DObj) : ItemV := ⟨p.1, p.2.ver, (p.2.dn : Int), p.2.born⟩
def itemU (p : Int × DUpl) : ItemV := ⟨p.2.key, p.1, ((psum p.2.parts : Nat) : Int), p.2.born⟩
/-- a page is answered -/
def LstDo (w : World) (S base : Nat) (σ : DSto) (L : List ItemV) (e : Ending) (w' : World) : Prop :=
  ∃ la n lc, e = .returned (rep 0 (.slice none 0 0) 0 0 0 (.slice la n lc) (decide (16 < L.length))) ∧ VecAt ItemS w' la n lc (L.take 16) ∧ n ≤ 16 ∧ DStAt w' S base σ ∧ Frm (DF S σ) w w'
theorem map_at {α β : Type} {f : α → β} {l : List α} {i : Nat} {x : α} (h : l[i]? = some x) : (l.map f)[i]? = some (f x) := by rw [List.getElem?_map, h]; rfl
/-- the end of a page -/
theorem pgD_fin {w W1 W2 wX W5 : World} {S base R9 m cc : Nat} {σ : DSto} {aa : Option Addr} {L xs : List ItemV} {mo : Bool} {cs : Array Value} (hE : DEnt w W1 S base σ cs) (h2 : Below W1.heap.size W1 W2) (h : PgAt W2 wX W2.heap.size R9 (.slice aa m cc) m xs mo) (h9 : W1.heap.size ≤ R9) (hm : m ≤ 16) (hL : L.take 16 = xs) (hmo : decide (16 < L.length) = mo) (h5 : Frm (fun b => b = w.heap.size + 1) wX W5) :
    LstDo w S base σ L (.returned (rep 0 (.slice none 0 0) 0 0 0 (.slice aa m cc) mo)) W5 := by
  have hb1 : Below W1.heap.size W1 wX := h2.trans (h.frm.toBelow h2.size (fun i e => by rw [e]; exact h9))
  have hrb := cells_of_below hb1 hE.rb
  have hst := (hE.st.below hb1).frmT hrb rep_notD h5
  have hf : Frm (DF S σ) w W5 := (Frm.ofBelow (hE.bel.trans (hb1.mono hE.bel.size))).trans h5 (fun i e => .inr (by rw [e]; exact Nat.le_succ _))
  refine ⟨aa, m, cc, by rw [hmo], ?_, hm, hst, hf⟩
  rw [hL]
  exact VecAt.ofOwn (S := ItemS) (row_keptR h.own hrb (by decide) h5) h.len (fun _ _ => trivial)
end Go.Proofs.YtjafagfhkpaciaaGreat
end PkSP5_13
section PkSP5_14
/- The program's steps over its store, and the document's over its own, plainly. -/
namespace Go.Proofs.YtjafagfhkpaciaaGreat
open Go.RowKit
set_option linter.unusedVariables false

theorem before_less : ∀ a b : List UInt8, bytesBefore a b = Op.bytesLess a b
  | [], [] => rfl
  | [], _ :: _ => rfl
  | _ :: _, [] => rfl
  | a :: r, b :: s => by
    unfold bytesBefore Op.bytesLess
    rw [before_less r s]
theorem before_ltK (a b : ByteArray) : (slit a).before (slit b) = ltK a b := by
  unfold ltK
  rw [ByteArray.toList_eq, ByteArray.toList_eq, ← before_less]
  simp [slit, Lit.before]
theorem ltK_iff (a b : ByteArray) : ltK a b = true ↔ a.data.toList < b.data.toList := by
  unfold ltK
  rw [ByteArray.toList_eq, ByteArray.toList_eq, bytesLess_eq, decide_eq_true_eq]
theorem ltK_not {a b : ByteArray} (h : ltK a b = true) : ltK b a = false := by
  cases e : ltK b a with
  | false => rfl
  | true => exact absurd (List.lt_trans ((ltK_iff a b).1 h) ((ltK_iff b a).1 e)) (List.lt_irrefl _)
theorem ltK_tot {a b : ByteArray} (h : a ≠ b) (h2 : ltK a b = false) : ltK b a = true := by
  rw [ltK_iff]
  have h3 : ¬ a.data.toList < b.data.toList := fun g => by rw [(ltK_iff a b).2 g] at h2; cases h2
  rcases Classical.em (b.data.toList < a.data.toList) with g | g
  · exact g
  · exact absurd (ByteArray.ext (Array.toList_inj.1 (List.le_antisymm (by simpa using g) (by simpa using h3)))) h
theorem ins_while {a : ObjS} {o : DObj} : ∀ {l : List DObj}, (∀ x ∈ l, x.key ≠ o.key) → insK slit (o.key, a) (l.map oP) = (l.takeWhile (fun x => ltK x.key o.key)).map oP ++ [(o.key, a)] ++ (l.dropWhile (fun x => ltK x.key o.key)).map oP
  | [], _ => rfl
  | y :: r, h => by
    rw [List.map_cons]
    unfold insK
    show (if (slit o.key).before (slit y.key) = true then _ else _) = _
    rw [before_ltK, List.takeWhile_cons, List.dropWhile_cons]
    have hy := h y List.mem_cons_self
    cases e : ltK o.key y.key with
    | true =>
      rw [if_pos rfl, ltK_not e]
      rfl
    | false =>
      rw [if_neg (by decide), ltK_tot (fun g => hy g.symm) e, ins_while (fun x hx => h x (List.mem_cons_of_mem _ hx))]
      rfl
/-- the objects rise by their keys -/
def RiseD (l : List DObj) : Prop := l.Pairwise fun x y => ltK x.key y.key = true
theorem Tie.rise {σ : Sto} {δ : DSto} (h : Tie σ δ) (hr : σ.objs.Pairwise fun p q => (slit p.1).before (slit q.1) = true) : RiseD δ.objs := by
  rw [h.objs, List.pairwise_map] at hr
  exact hr.imp fun {x y} g => by rw [← before_ltK]; exact g
theorem rise_apartD {l : List DObj} (h : RiseD l) : (l.map oP).Pairwise fun p q => slit p.1 ≠ slit q.1 := by
  rw [List.pairwise_map]
  refine h.imp fun {x y} g e => ?_
  have e2 : x.key = y.key := slit_inj e
  rw [e2] at g
  rw [ltK_not g] at g
  cases g
theorem tie_putL {l : List DObj} (hr : RiseD l) (o : DObj) : putK slit o.key (oP o).2 (l.map oP) = (putL l o).map oP := by
  unfold putK
  cases hf : l.findIdx? (fun x => decide (x.key = o.key)) with
  | none =>
    have hne : ∀ x ∈ l, x.key ≠ o.key := fun x hx e => by
      have := List.findIdx?_eq_none_iff.1 hf x hx
      rw [decide_eq_true e] at this
      cases this
    rw [drop_id litS (by
      rw [get_none litS]
      intro p hp
      obtain ⟨x, hx, rfl⟩ := List.mem_map.1 hp
      exact hne x hx), ins_while hne]
    unfold putL
    rw [hf]
    simp only [List.map_append, List.map_cons, List.map_nil]
    rfl
  | some j =>
    obtain ⟨y, hy, hk, hj⟩ := find_at hf
    have hky : y.key = o.key := of_decide_eq_true hk
    have hget : (l.map oP)[j]? = some (o.key, (oP y).2) := by rw [List.getElem?_map, hy, ← hky]; rfl
    rw [drop_out litS (rise_apartD hr) hget, outK_map]
    have hget2 := fun i => outK_get l j i hj
    have hlt : ∀ (i : Nat) (x : DObj), i < j → l[i]? = some x → ltK x.key o.key = true := fun i x hi hx => by
      rw [← hky]
      obtain ⟨h1, e1⟩ := List.getElem?_eq_some_iff.1 hx
      obtain ⟨h2, e2⟩ := List.getElem?_eq_some_iff.1 hy
      have := List.pairwise_iff_getElem.1 hr i j h1 h2 hi
      rwa [e1, e2] at this
    have hgt : ∀ (i : Nat) (x : DObj), j < i → l[i]? = some x → ltK o.key x.key = true := fun i x hi hx => by
      rw [← hky]
      obtain ⟨h1, e1⟩ := List.getElem?_eq_some_iff.1 hx
      obtain ⟨h2, e2⟩ := List.getElem?_eq_some_iff.1 hy
      have := List.pairwise_iff_getElem.1 hr j i h2 h1 hi
      rwa [e1, e2] at this
    have hne : ∀ x ∈ outK l j, x.key ≠ o.key := fun x hx e => by
      obtain ⟨i, hi, e1⟩ := List.getElem_of_mem hx
      have h1 : (outK l j)[i]? = some x := by rw [List.getElem?_eq_getElem hi, e1]
      rw [hget2 i] at h1
      by_cases g : i < j
      · rw [if_pos g] at h1
        have := hlt i x g h1
        rw [e] at this
        rw [ltK_not this] at this; cases this
      · rw [if_neg g] at h1
        have := hgt (i + 1) x (by omega) h1
        rw [e] at this
        rw [ltK_not this] at this; cases this
    rw [ins_while hne]
    obtain ⟨e1, e2⟩ := take_drop_while (fun x : DObj => ltK x.key o.key) (outK l j) j (by rw [outK_length l j hj]; omega) (fun i x hi hx => by
      rw [hget2 i, if_pos hi] at hx
      exact hlt i x hi hx) (fun x hx => by
      rw [hget2 j, if_neg (Nat.lt_irrefl _)] at hx
      exact ltK_not (hgt (j + 1) x (by omega) hx))
    rw [← e1, ← e2]
    unfold putL
    rw [hf]
    show _ = (l.set j o).map oP
    rw [List.set_eq_take_append_cons_drop, if_pos hj]
    unfold outK
    have ht : (l.take j).length = j := by rw [List.length_take]; omega
    rw [show (l.take j ++ l.drop (j + 1)).take j = l.take j from by rw [List.take_append_of_le_length (by omega), List.take_of_length_le (by omega)], show (l.take j ++ l.drop (j + 1)).drop j = l.drop (j + 1) from by rw [List.drop_append_of_le_length (by omega), List.drop_of_length_le (by omega), List.nil_append]]
    simp only [List.map_append, List.map_cons, List.append_assoc, List.singleton_append]
    rfl
theorem putL_len {l : List DObj} {o : DObj} : (putL l o).length ≤ l.length + 1 := by
  unfold putL
  split
  · rw [List.length_set]; omega
  · have h := congrArg List.length (List.takeWhile_append_dropWhile (p := fun x : DObj => ltK x.key o.key) (l := l))
    rw [List.length_append] at h
    rw [List.length_append, List.length_append, List.length_singleton]
    omega
/-- a key behind all -/
theorem ins_end {v : UplS} {k : Int} : ∀ {l : List (Int × UplS)}, (∀ p ∈ l, p.1 < k) → insK ilit (k, v) l = l ++ [(k, v)]
  | [], _ => rfl
  | y :: r, h => by
    unfold insK
    have hy := h y List.mem_cons_self
    rw [if_neg (by simp [ilit, Lit.before]; omega), ins_end (fun p hp => h p (List.mem_cons_of_mem _ hp))]
    rfl
theorem put_end_ {v : UplS} {k : Int} {l : List (Int × UplS)} (h : ∀ p ∈ l, p.1 < k) : putK ilit k v l = l ++ [(k, v)] := by
  unfold putK
  rw [drop_id litI (by
    rw [get_none litI]
    intro p hp e
    have := h p hp
    omega), ins_end h]
/-- the parts' numbers are told apart -/
def ApartD (l : List DPrt) : Prop := (l.map pP).Pairwise fun p q => ilit p.1 ≠ ilit q.1
theorem UTie.apart {p : Int × UplS} {u : DUpl} (h : UTie p u) (ha : p.2.parts.Pairwise fun x y => (ilit x.1).before (ilit y.1) = true) : ApartD u.parts := by
  unfold ApartD
  exact (h.prt.pairwise_iff (fun {a b} g e => g e.symm)).2 (rise_apart before_int ha)
theorem UTie.get {p : Int × UplS} {u : DUpl} (h : UTie p u) (ha : p.2.parts.Pairwise fun x y => (ilit x.1).before (ilit y.1) = true) (n : Int) : getK ilit n p.2.parts = getK ilit n (u.parts.map pP) := by
  have h1 := rise_apart before_int ha
  have h2 := h.apart ha
  cases hg : getK ilit n (u.parts.map pP) with
  | none =>
    rw [get_none litI] at hg ⊢
    intro q hq
    exact hg q (h.prt.mem_iff.2 hq)
  | some d => exact get_of_mem litI h1 (h.prt.mem_iff.1 (get_mem (lit := ilit) ilit_inj hg))
theorem get_cons (n : Int) (a : DPrt) (r : List DPrt) : getK ilit n ((a :: r).map pP) = if a.n = n then some (bs a.data) else getK ilit n (r.map pP) := by
  unfold getK
  rw [List.map_cons, List.find?_cons]
  by_cases e : a.n = n
  · have : (ilit (pP a).1).sameKey (ilit n) = true := (litI.iff _ _).2 e
    rw [this, if_pos e]; rfl
  · have : (ilit (pP a).1).sameKey (ilit n) = false := by
      cases h : (ilit (pP a).1).sameKey (ilit n) with
      | false => rfl
      | true => exact absurd ((litI.iff _ _).1 h) e
    rw [this, if_neg e]
theorem get_tail_none {n : Int} {a : DPrt} {r : List DPrt} (h : ApartD (a :: r)) (e : a.n = n) : getK ilit n (r.map pP) = none := by
  rw [get_none litI]
  intro p hp e2
  have h0 : (pP a :: r.map pP).Pairwise fun p q => ilit p.1 ≠ ilit q.1 := h
  have := (List.pairwise_cons.1 h0).1 p hp
  exact this (by rw [e2, ← e]; rfl)
theorem apart_tail {a : DPrt} {r : List DPrt} (h : ApartD (a :: r)) : ApartD r := by
  have h0 : (pP a :: r.map pP).Pairwise fun p q => ilit p.1 ≠ ilit q.1 := h
  exact (List.pairwise_cons.1 h0).2
theorem had_fold {n : Int} : ∀ {l : List DPrt} (z : Nat), ApartD l → (∀ p ∈ l, p.data.length = p.dn) → l.foldl (fun h p => if p.n = n then p.dn else h) z = match getK ilit n (l.map pP) with | none => z | some d => d.size
  | [], z, _, _ => rfl
  | a :: r, z, h, hd => by
    rw [List.foldl_cons, had_fold _ (apart_tail h) (fun p hp => hd p (List.mem_cons_of_mem _ hp)), get_cons]
    by_cases e : a.n = n
    · rw [if_pos e, if_pos e, get_tail_none h e]
      show a.dn = (bs a.data).size
      rw [bs_sizeS, hd a List.mem_cons_self]
    · rw [if_neg e, if_neg e]
theorem hasP_get {n : Int} : ∀ {l : List DPrt}, hasP l n = (getK ilit n (l.map pP)).isSome
  | [] => rfl
  | a :: r => by
    rw [get_cons]
    unfold hasP
    rw [List.any_cons]
    by_cases e : a.n = n
    · rw [if_pos e, decide_eq_true e]; rfl
    · rw [if_neg e, decide_eq_false e, Bool.false_or]
      exact hasP_get (l := r)
theorem matchD_get {n : Int} : ∀ {l : List DPrt}, ApartD l → (∀ p ∈ l, ∀ x ∈ p.data, x < 256) → matchD l n = match getK ilit n (l.map pP) with | none => [] | some d => numsOf d
  | [], _, _ => rfl
  | a :: r, h, hb => by
    rw [get_cons]
    unfold matchD
    rw [List.flatMap_cons]
    have ih := matchD_get (n := n) (apart_tail h) (fun p hp => hb p (List.mem_cons_of_mem _ hp))
    unfold matchD at ih
    rw [ih]
    by_cases e : a.n = n
    · rw [if_pos e, if_pos e, get_tail_none h e, List.append_nil]
      show a.data = numsOf (bs a.data)
      rw [nums_bs (hb a List.mem_cons_self)]
    · rw [if_neg e, if_neg e]; rfl
theorem cat_tie {p : Int × UplS} {u : DUpl} (h : UTie p u) (ha : p.2.parts.Pairwise fun x y => (ilit x.1).before (ilit y.1) = true) (hb : ∀ q ∈ u.parts, ∀ x ∈ q.data, x < 256) : ∀ k, (catP p.2.parts k).map (fun d => d.map UInt8.toNat) = catD u.parts k
  | 0 => rfl
  | k + 1 => by
    have ih := cat_tie h ha hb k
    unfold catP catD
    rw [← ih]
    cases hc : catP p.2.parts k with
    | none => rfl
    | some d =>
      show Option.map _ (match getK ilit ((k + 1 : Nat) : Int) p.2.parts with | none => none | some p => some (d ++ p.data.toList)) = if hasP u.parts ((k + 1 : Nat) : Int) = true then some (d.map UInt8.toNat ++ matchD u.parts ((k + 1 : Nat) : Int)) else none
      rw [hasP_get, matchD_get (h.apart ha) hb, h.get ha]
      cases getK ilit ((k + 1 : Nat) : Int) (u.parts.map pP) with
      | none => rfl
      | some e =>
        show some (List.map UInt8.toNat (d ++ e.data.toList)) = some (d.map UInt8.toNat ++ numsOf e)
        rw [List.map_append]; rfl
theorem ins_perm {κ α : Type} {lit : κ → Lit} (x : κ × α) : ∀ l : List (κ × α), (insK lit x l).Perm (x :: l)
  | [] => .refl _
  | y :: r => by
    unfold insK
    split
    · exact .refl _
    · exact ((ins_perm x r).cons y).trans (.swap _ _ _)
theorem parts_tie {l : List DPrt} {ps : List (Int × ByteArray)} (h : (l.map pP).Perm ps) (p : DPrt) : ((prtF l p.n ++ [p]).map pP).Perm (putK ilit p.n (bs p.data) ps) := by
  unfold putK
  refine .trans ?_ (ins_perm (lit := ilit) (p.n, bs p.data) _).symm
  have h1 : ((prtF l p.n).map pP).Perm (dropK ilit p.n ps) := by
    unfold dropK prtF
    have : (l.filter fun q => !decide (q.n = p.n)).map pP = (l.map pP).filter fun q => !(ilit q.1).sameKey (ilit p.n) := by
      rw [List.filter_map]
      congr 1
      apply List.filter_congr
      intro q _
      show (!decide (q.n = p.n)) = !(ilit q.n).sameKey (ilit p.n)
      congr 1
      rw [Bool.eq_iff_iff, decide_eq_true_eq]
      exact (litI.iff q.n p.n).symm
    rw [this]
    exact h.filter _
  rw [List.map_append]
  exact (List.perm_append_singleton _ _).trans (h1.cons _)
end Go.Proofs.YtjafagfhkpaciaaGreat
end PkSP5_14
