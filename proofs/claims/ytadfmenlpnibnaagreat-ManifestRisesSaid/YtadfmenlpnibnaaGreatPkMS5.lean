/- Texts put together by packtpl2.py: ApE, ApRE, ApS, ApMs, ApMr. -/
import Derived.Test.YtadfmenlpnibnaaGreatPkMS1
import Derived.Test.YtadfmenlpnibnaaGreatPkMS2
import Derived.Test.YtadfmenlpnibnaaGreatPkMS3
import Derived.Test.YtadfmenlpnibnaaGreatPkMS4
import Derived.Sort.OwnSorted
import Derived.Deep.CutBlock
section PkMS5_0
/- slices.SortFunc of entries by key; slices.SortedFunc; slices.Sorted of texts: walked. -/
namespace Go.Proofs.YtadfmenlpnibnaaGreat
open Go.RowKit Go.Shelf LabPlain
open Go.Sort (grow putRow putCells mapBlock Holds PermIn SortedIn SWO flatK HoldsK)
set_option linter.unusedVariables false

instance instEnt : Inhabited EntV := ⟨EntS.z⟩
theorem byE_grow (x y : EntV) (w : World) : Calls Tryz.prog 28 #[.agg (EntS.f x).toArray, .agg (EntS.f y).toArray] w fun e w' => e = .returned (.int .i64 (cmpS x.key y.key)) ∧ ∃ q os', w' = grow (w.drewN q) os' := by
  obtain ⟨x0, x1, x2, x3, x4, x5, x6, x7, x8⟩ := x
  obtain ⟨y0, y1, y2, y3, y4, y5, y6, y7, y8⟩ := y
  show Calls Tryz.prog 28 #[.agg #[.string x0, .int .i64 x1, .string x2, .int .i64 x3, .int .i64 x4, .int .i64 x5, .int .i64 x6, .int .u32 x7, .int .i64 x8], .agg #[.string y0, .int .i64 y1, .string y2, .int .i64 y3, .int .i64 y4, .int .i64 y5, .int .i64 y6, .int .u32 y7, .int .i64 y8]] w _
  go_enter Tryz.func28, Tryz.ntmps28
  go_wp2_with fail
  refine (cmpS_any x0 y0 _).mono ?_
  rintro e w2 ⟨rfl, rfl⟩
  go_wp2_with fail
  go_ret
  exact ⟨rfl, 0, _, by rw [Go.Sort.alloc_eq_grow, Go.Sort.alloc_eq_grow, Go.Sort.grow_grow]; rfl⟩
theorem ltOf_key (x y : EntV) : ltOf (fun x y : EntV => cmpS x.key y.key) x y = ltB x.key y.key := by
  unfold ltOf
  rw [Bool.eq_iff_iff, decide_eq_true_iff]
  exact cmpS_neg
theorem key_swo : SWO (ltOf fun x y : EntV => cmpS x.key y.key) := by
  refine ⟨fun x => by rw [ltOf_key]; exact ltB_irr _, fun x y z h1 h2 => by rw [ltOf_key] at *; exact ltB_trans h1 h2, fun x y z h1 h2 => ?_⟩
  rw [ltOf_key] at *
  cases hx : ltB x.key z.key with
  | false => rfl
  | true =>
    by_cases e : x.key = y.key
    · rw [e] at hx; rw [hx] at h2; cases h2
    · have : ltB y.key x.key = true := by
        cases h9 : ltB y.key x.key with
        | true => rfl
        | false => exact absurd (ltB_total' h1 h9) e
      rw [ltB_trans this hx] at h2; cases h2
theorem flatK_list (l : List EntV) : (flatK EntS.f 9 l.toArray).toList = EntS.flat l := by
  apply List.ext_getElem?
  intro t
  by_cases h : t < l.length * 9
  · have h0 : t < l.toArray.size * 9 := by simpa using h
    have h1 : (flatK EntS.f 9 l.toArray)[t]? = some ((flatK EntS.f 9 l.toArray)[t]!) := by
      have h2 : t < (flatK EntS.f 9 l.toArray).size := by rw [Go.Sort.size_flatK]; exact h0
      rw [getElem!_pos _ t h2, Array.getElem?_eq_getElem h2]
    rw [Array.getElem?_toList, h1, Go.Sort.get_flatK _ _ _ _ h0]
    have hd : t / 9 < l.length := by omega
    have h3 := vflat_at EntS.f 9 EntS.wid EntS.z l (t / 9) (t % 9) hd (by omega)
    rw [show t / 9 * 9 + t % 9 = t from by omega] at h3
    unfold Sty.flat
    rw [h3]
    have h4 : l.toArray[t / 9]! = l.getD (t / 9) EntS.z := by simp [hd]
    rw [h4]
    have h5 : t % 9 < (EntS.f (l.getD (t / 9) EntS.z)).length := by rw [EntS.wid]; exact Nat.mod_lt _ (by decide)
    rw [getElem!_pos (EntS.f (l.getD (t / 9) EntS.z)) (t % 9) h5, List.getElem?_eq_getElem h5]
  · rw [List.getElem?_eq_none (by simp; omega), List.getElem?_eq_none (by rw [EntS.flat_len]; show l.length * 9 ≤ t; omega)]
theorem take_putE (cur : Array Value) (ts : List Value) (h : ts.length ≤ cur.size) : (putCells id 0 ts.toArray cur).toList.take ts.length = ts := by
  apply List.ext_getElem?
  intro j
  by_cases hj : j < ts.length
  · rw [List.getElem?_take_of_lt hj, Array.getElem?_toList]
    simp [putCells, hj, show j < cur.size by omega]
  · rw [List.getElem?_take_eq_none (by omega), List.getElem?_eq_none (by omega)]
theorem heap_putE {w : World} {g n : Nat} {os : Array Obj} {cur : Array Value} {e : TypeId} {fr : Nat × Nat} (d : Array EntV) (hb : w.heap[g]? = some (.cells cur e fr)) :
    (sortWorldK EntS.f 9 w g 0 n d os).heap[g]? = some (.cells (putCells id 0 (flatK EntS.f 9 d) cur) e fr) := by
  have hg : g < w.heap.size := (Array.getElem?_eq_some_iff.1 hb).1
  unfold sortWorldK Go.Sort.putRowK
  rw [Go.Sort.heap_grow_old _ _ (by simpa using hg)]
  simp [putRow, mapBlock, Go.Sort.ahead, Array.getElem?_modify, hb, Go.Sort.onCells]
theorem grown_sortE {w : World} {g n : Nat} {os : Array Obj} (d : Array EntV) : w.grownBy (sortWorldK EntS.f 9 w g 0 n d os) (some g) := by
  unfold sortWorldK Go.Sort.putRowK
  refine ⟨rfl, rfl, rfl, by simp, fun k hk hne => ?_⟩
  rw [Go.Sort.heap_grow_old _ _ (by simpa using hk)]
  have : g ≠ k := fun e => hne (by rw [e])
  simp [putRow, mapBlock, Go.Sort.ahead, Array.getElem?_modify, this]
/-- sorted by key, some keys maybe alike -/
def SrtE (l : List EntV) : Prop := l.Pairwise fun a b => ltB b.key a.key = false
set_option maxRecDepth 100000 in
set_option maxHeartbeats 1000000 in
theorem sortE_any {w : World} {base g m cap : Nat} {l : List EntV} (h : w.ownsRow base 42 9 (.slice (some ⟨g, 0, none⟩) m cap) m (EntS.flat l)) (hl : l.length = m) (hsm : m ≤ 100000) :
    Calls Tryz.prog 58 #[.slice (some ⟨g, 0, none⟩) m cap, .func (.func 28) #[] #[]] w fun e w' => e = .returned (.tuple #[]) ∧ ∃ l' : List EntV, l'.Perm l ∧ SrtE l' ∧ w'.ownsRow base 42 9 (.slice (some ⟨g, 0, none⟩) m cap) m (EntS.flat l') ∧ w.grownBy w' (some g) := by
  rcases h.2 with ⟨h0, _⟩ | ⟨g', cap', cur, he, hg, hh, hnc, hcap, hsz, htake⟩
  · cases h0
  cases he
  have hF : (flatK EntS.f 9 l.toArray).size = m * 9 := by rw [Go.Sort.size_flatK]; simp [hl]
  have hH : HoldsK EntS.f 9 w g 0 l.toArray := by
    refine fun j hj => ⟨?_, by simp [World.frozen?, hh]⟩
    have hj' : j < m * 9 := by rw [← hF]; exact hj
    have h1 : (cur.toList.take (m * 9))[j]? = (EntS.flat l)[j]? := by rw [htake]
    rw [List.getElem?_take_of_lt hj', Array.getElem?_toList] at h1
    rw [Nat.zero_add, cell_of_row w _ _ _ _ (0, 0) hh, h1, ← flatK_list, Array.getElem?_toList, getElem!_pos _ j hj, Array.getElem?_eq_getElem hj]
    rfl
  have eg : ∀ args w, (callFunc 28 args).run Tryz.prog w = .ok (.enter 28 args) w := enters_of Tryz.func28 (by kernel_rfl) rfl
  have hsz2 : l.toArray.size = m := by simp [hl]
  have hcon := AnyQ.slices_SortFunc sh_sfE 9 Tryz.isAgg42 Tryz.sizeOf42 EntS.f EntS.wid EntS.one (fun x y : EntV => cmpS x.key y.key) key_swo 28 #[] g 0 cap l.toArray w eg (fun n os dk _ x y => byE_grow x y _) hH (Array.getElem?_eq_some_iff.1 hh).1 (by omega)
  rw [hsz2] at hcon
  refine Calls.mono hcon ?_
  rintro e w' ⟨he, d', n, os, hperm, hsort, rfl⟩
  have hd : d'.size = m := by rw [hperm.1, hsz2]
  have hp := hperm.2.2
  rw [show d'.extract 0 m = d' from by rw [← hd]; exact Array.extract_size, show l.toArray.extract 0 m = l.toArray from by rw [← hsz2]; exact Array.extract_size] at hp
  refine ⟨he, d'.toList, by simpa using hp, ?_, ?_, grown_sortE _⟩
  · unfold SrtE
    rw [List.pairwise_iff_getElem]
    intro i j hi hj hij
    have hj2 : j < m := by rw [← hd]; simpa using hj
    have h1 := hsort i j (Nat.zero_le _) hij hj2
    rw [ltOf_key] at h1
    simpa [show i < d'.size by omega, show j < d'.size by omega] using h1
  · have hfl : (flatK EntS.f 9 d').toList = EntS.flat d'.toList := by
      have := flatK_list d'.toList
      simpa using this
    have h9 : (flatK EntS.f 9 d').toList.length = m * 9 := by rw [Array.length_toList, Go.Sort.size_flatK, hd]
    refine ⟨by rw [EntS.flat_len]; simp [hd]; rfl, .inr ⟨g, cap, _, rfl, hg, heap_putE _ hh, hnc, hcap, by simp [putCells, hsz], ?_⟩⟩
    have h2 := take_putE cur (flatK EntS.f 9 d').toList (by rw [h9, hsz]; exact Nat.mul_le_mul_right _ hnc)
    rw [h9] at h2
    rw [← hfl]
    simpa using h2
set_option maxRecDepth 100000 in
set_option maxHeartbeats 2000000 in
theorem sortedE_any {w : World} {gf : Nat} {lb : Array Value} (eg : ∀ args w, (callFunc gf args).run Tryz.prog w = .ok (.enter gf args) w) {S : List EntV → Prop} {N : Nat} (hl : N ≤ 100000) (hS : ∀ ys, S ys → ys.length ≤ 100000)
    (hseq : ∀ m, 1 ≤ m → SeqStopsK Fence.wide m Tryz.prog gf lb (fun x : EntV => #[entV x]) (fun A B => Below w.heap.size A B ∧ KeepsWalks A B) S (fun _ => True) N w) :
    Calls Tryz.prog 26 #[.func (.func gf) #[] lb, .func (.func 28) #[] #[]] w fun e W' => ∃ v ys zs, S ys ∧ zs.Perm ys ∧ SrtE zs ∧ e = .returned v ∧ W'.ownsRow w.heap.size 42 9 v zs.length (EntS.flat zs) ∧ Below w.heap.size w W' := by
  have HA := Lib.hid (collect_anyE eg hl hseq)
  have HSB := Lib.hid hS
  clear hseq hS
  go_enter Tryz.func26, Tryz.ntmps26
  go_wp2_with fail
  refine HA.out.mono ?_
  rintro e W ⟨v, ys, hS, rfl, hrow, hb⟩
  have HS := Lib.hid hS
  have HB := Lib.hid hb
  have hyl := HSB.out ys hS
  rcases hrow.2 with ⟨rfl, hz⟩ | ⟨gb, cap, cur, rfl, hbase, hgb, r1, r2, r3, r4⟩
  · obtain rfl : ys = [] := List.eq_nil_of_length_eq_zero hz
    have HC := Lib.hid (AnyF.slices_SortFunc_none (P := Tryz.prog) (ρ := sh_sfE_ren) { sh_sfE with } none 0 (.func (.func 28) #[] #[]) W)
    have HR := Lib.hid hrow
    clear hrow hb hS hyl hz
    go_wp2_with fail
    refine HC.out.mono ?_
    rintro e w2 ⟨rfl, rfl⟩
    go_wp2_with fail
    first | go_ret2 | go_ret
    exact ⟨_, [], [], HS.out, List.Perm.refl _, List.Pairwise.nil, rfl, HR.out, HB.out⟩
  · have HC := Lib.hid (sortE_any hrow rfl hyl)
    have HBS := Lib.hid hbase
    clear hrow hb hS hyl hgb r1 r2 r3 r4 hbase
    obtain ⟨yn, hyn⟩ : ∃ yn, yn = ys.length := ⟨_, rfl⟩
    rw [← hyn] at HC
    have HYN := Lib.hid hyn
    rw [← hyn]
    clear hyn
    go_wp2_with fail
    with_reducible refine HC.out.mono ?_
    rintro e w2 ⟨rfl, zs, hp, hs, ho, hg⟩
    have HP := Lib.hid hp
    have HSS := Lib.hid hs
    have HO := Lib.hid ho
    have HB2 := Lib.hid (HB.out.grown hg HB.out.size (fun j hj => by cases hj; exact HBS.out))
    clear hp hs ho hg
    go_wp2_with fail
    first | go_ret2 | go_ret
    refine ⟨_, ys, zs, HS.out, HP.out, HSS.out, rfl, ?_, HB2.out⟩
    rw [HP.out.length_eq, ← HYN.out]
    exact HO.out

def tbK (s : ByteArray) : List UInt8 := s.data.toList
def fbK (x : List UInt8) : ByteArray := ⟨x.toArray⟩
theorem fb_tbK (s : ByteArray) : fbK (tbK s) = s := by unfold fbK tbK; simp
theorem tb_fbK (x : List UInt8) : tbK (fbK x) = x := by unfold fbK tbK; simp
theorem flat_encK (l : List ByteArray) : KeyS.flat l = (l.map tbK).map encStr := by
  induction l with
  | nil => rfl
  | cons x l ih =>
    unfold Sty.flat at ih ⊢
    rw [List.flatMap_cons, ih, List.map_cons, List.map_cons, show encStr (tbK x) = .string (fbK (tbK x)) from rfl, fb_tbK]
    rfl
/-- texts in their order -/
def srtK (l : List ByteArray) : List ByteArray := ((l.map tbK).mergeSort fun x y => decide (x ≤ y)).map fbK
theorem srtK_len (l : List ByteArray) : (srtK l).length = l.length := by unfold srtK; simp
theorem srtK_flat (l : List ByteArray) : KeyS.flat (srtK l) = ((l.map tbK).mergeSort fun x y => decide (x ≤ y)).map encStr := by
  rw [flat_encK]
  unfold srtK
  rw [List.map_map, List.map_map]
  congr 1
set_option maxRecDepth 100000 in
set_option maxHeartbeats 2000000 in
theorem sorted_anyK {w : World} {gf : Nat} {lb : Array Value} (eg : ∀ args w, (callFunc gf args).run Tryz.prog w = .ok (.enter gf args) w) {l : List ByteArray} (hl : l.length ≤ 100000)
    (hseq : ∀ m, 1 ≤ m → SeqStopsK Fence.wide m Tryz.prog gf lb (fun x : ByteArray => #[Value.string x]) (Below w.heap.size) (fun ys => ys = l) (fun _ => True) l.length w) :
    Calls Tryz.prog 50 #[.func (.func gf) #[] lb] w fun e W' => ∃ v, e = .returned v ∧ W'.ownsRow w.heap.size 9 1 v l.length (KeyS.flat (srtK l)) ∧ Below w.heap.size w W' := by
  have HA := Lib.hid (collect_anyK eg hl hseq)
  clear hseq
  go_enter Tryz.func50, Tryz.ntmps50
  go_wp2_with fail
  refine HA.out.mono ?_
  rintro e W ⟨v, rfl, hrow, hb⟩
  rw [flat_encK] at hrow
  obtain ⟨ss, hss⟩ : ∃ ss, ss = l.map tbK := ⟨_, rfl⟩
  have hsl : ss.length = l.length := by rw [hss]; simp
  have hfl : KeyS.flat (srtK l) = (ss.mergeSort fun x y => decide (x ≤ y)).map encStr := by rw [hss]; exact srtK_flat l
  rw [← hss, ← hsl] at hrow
  have HFL := Lib.hid hfl
  have HB := Lib.hid hb
  rcases hrow.2 with ⟨rfl, hz⟩ | ⟨gb, cap, cur, rfl, hbase, hgb, r1, r2, r3, r4⟩
  · have hs0 : ss = [] := List.eq_nil_of_length_eq_zero hz
    have HS := Lib.hid (sh_slices_Sort_string_none none 0 W)
    have HR := Lib.hid hrow
    have HSS := Lib.hid hs0
    have HSL := Lib.hid hsl
    clear hrow hss hs0 hsl hfl hb
    go_wp2_with fail
    refine HS.out.mono ?_
    rintro e w2 ⟨rfl, rfl⟩
    go_wp2_with fail
    first | go_ret2 | go_ret
    refine ⟨_, rfl, ?_, HB.out⟩
    rw [HFL.out, HSS.out]
    have h := HR.out
    rw [HSS.out] at h
    rw [← HSL.out, HSS.out]
    simpa using h
  · have hH : Holds encStr W gb 0 ss.toArray := holds_of_block hgb (by simpa using r4)
    have hgl : gb < W.heap.size := (Array.getElem?_eq_some_iff.1 hgb).1
    have HS := Lib.hid (sh_slices_Sort_string gb 0 cap ss W hH hgl (by omega))
    have HR := Lib.hid (fun (k : Nat) (os : Array Obj) => ownsRow_sorted (w := W) (n := k) (os := os) (ss := ss) (ts := ss.mergeSort fun x y => decide (x ≤ y)) (by simp) hbase hgb r1 r2 r3)
    have HSL := Lib.hid hsl
    have HBS := Lib.hid hbase
    clear hrow hss hfl hb hgb hH r1 r2 r3 r4 hsl
    go_wp2_with fail
    with_reducible refine HS.out.mono ?_
    rintro e w2 ⟨rfl, nn, os, rfl⟩
    go_wp2_with fail
    first | go_ret2 | go_ret
    refine ⟨_, rfl, ?_, HB.out.grown (grownBy_sorted _) HB.out.size (fun j hj => by cases hj; exact HBS.out)⟩
    rw [HFL.out, ← HSL.out]
    exact HR.out nn os
end Go.Proofs.YtadfmenlpnibnaaGreat
end PkMS5_0
section PkMS5_1
/- Entries that rise, and are right one by one (XMfRE with rightEntry; by a replacement). -/
namespace Go.Proofs.YtadfmenlpnibnaaGreat
open Go.RowKit LabPlain
set_option linter.unusedVariables false

set_option maxRecDepth 100000 in
set_option maxHeartbeats 8000000 in
theorem rising_anyER {w : World} {a : Option Addr} {n c : Nat} {l : List EntV} (h : VecAt EntS w a n c l) {mb : Nat} (p : EntV → Bool)
    (hR : ∀ (W : World) (z : EntV), z ∈ l → Below w.heap.size w W → EntS.ok W z → Calls Tryz.prog 43 #[.agg #[.string z.key, .int .i64 z.win, .string z.part, .int .i64 z.fst, .int .i64 z.lst, .int .i64 z.rows, .int .i64 z.size, .int .u32 z.sum, .int .i64 z.born]] W fun e w' => e = .returned (.bool (p z)) ∧ Below W.heap.size W w') :
    Calls Tryz.prog 44 #[.slice a n c, .func (.func 28) #[] #[], .func (.func 43) #[] #[]] w fun e w' => RisIs p (fun a b => cmpS a.key b.key) EntS.z l n e ∧ Below w.heap.size w w' := by
  have hcap := h.cap
  have hcm := h.capm
  have HH := Lib.hid h
  have HL := Lib.hid h.len
  have HR := Lib.hid hR
  clear h hR
  go_enter Tryz.func44, Tryz.ntmps44
  go_wp2_with fail
  go_loopw [7, 8, 11] (fun _ _ s11 wr => ∃ k : Nat, k ≤ n ∧ s11 = .int .i64 (k : Int) ∧ Hid (RisOk p (fun a b => cmpS a.key b.key) EntS.z l k) ∧ Hid (Below w.heap.size w wr)) (fun _ _ s11 _ => n - (intOf s11).toNat)
  case atStart => exact ⟨0, by omega, rfl, Lib.hid (fun j hj => by omega), Lib.hid (Below.refl _ _)⟩
  case round =>
    obtain ⟨k, hk, rfl, HOK, HB⟩ := hrel
    rename World => wr
    by_cases hkn : k < n
    · have hki : (k : Int) < (n : Int) := by omega
      obtain ⟨sb, so, rfl, hsl, hok, hsc9⟩ := (HH.out.kept HB.out).get hkn
      obtain ⟨s, hse⟩ : ∃ s, s = l.getD k EntS.z := ⟨_, rfl⟩
      obtain ⟨r, hre⟩ : ∃ r, r = l.getD (k - 1) EntS.z := ⟨_, rfl⟩
      rw [← hse] at hsc9 hok
      have HSE := Lib.hid hse
      have HRE := Lib.hid hre
      have HSL := Lib.hid hsl
      have HSY := Lib.hid (show ∀ j u, (EntS.f r)[j]? = some u → wr.cell? ⟨sb, so + (k - 1) * 9 + j, none⟩ = some u from by
        obtain ⟨sb2, so2, e2, _, _, hy⟩ := (HH.out.kept HB.out).get (show k - 1 < n by omega)
        cases e2
        rw [← hre] at hy
        exact hy)
      obtain ⟨x0, x1, x2, x3, x4, x5, x6, x7, x8⟩ := s
      obtain ⟨y0, y1, y2, y3, y4, y5, y6, y7, y8⟩ := r
      have d0 : wr.cell? ⟨sb, so + k * 9, none⟩ = some (.string x0) := hsc9 0 _ rfl
      have d1 : wr.cell? ⟨sb, so + k * 9 + 1, none⟩ = some (.int .i64 x1) := hsc9 1 _ rfl
      have d2 : wr.cell? ⟨sb, so + k * 9 + 2, none⟩ = some (.string x2) := hsc9 2 _ rfl
      have d3 : wr.cell? ⟨sb, so + k * 9 + 3, none⟩ = some (.int .i64 x3) := hsc9 3 _ rfl
      have d4 : wr.cell? ⟨sb, so + k * 9 + 4, none⟩ = some (.int .i64 x4) := hsc9 4 _ rfl
      have d5 : wr.cell? ⟨sb, so + k * 9 + 5, none⟩ = some (.int .i64 x5) := hsc9 5 _ rfl
      have d6 : wr.cell? ⟨sb, so + k * 9 + 6, none⟩ = some (.int .i64 x6) := hsc9 6 _ rfl
      have d7 : wr.cell? ⟨sb, so + k * 9 + 7, none⟩ = some (.int .u32 x7) := hsc9 7 _ rfl
      have d8 : wr.cell? ⟨sb, so + k * 9 + 8, none⟩ = some (.int .i64 x8) := hsc9 8 _ rfl
      have HXA := Lib.hid (heap_alloc_new wr (.cells #[.string x0, .int .i64 x1, .string x2, .int .i64 x3, .int .i64 x4, .int .i64 x5, .int .i64 x6, .int .u32 x7, .int .i64 x8] 42))
      have HXL := Lib.hid ((Array.getElem?_eq_some_iff.1 (heap_alloc_new wr (.cells #[.string x0, .int .i64 x1, .string x2, .int .i64 x3, .int .i64 x4, .int .i64 x5, .int .i64 x6, .int .u32 x7, .int .i64 x8] 42))).1)
      have HAL := Lib.hid (show Below w.heap.size w (wr.alloc (.cells #[.string x0, .int .i64 x1, .string x2, .int .i64 x3, .int .i64 x4, .int .i64 x5, .int .i64 x6, .int .u32 x7, .int .i64 x8] 42)) from HB.out.alloc HB.out.size _)
      obtain ⟨bx, hbx⟩ : ∃ bx, bx = p (⟨x0, x1, x2, x3, x4, x5, x6, x7, x8⟩ : EntV) := ⟨_, rfl⟩
      have HBX := Lib.hid hbx
      have HSLA := Lib.hid (show sb < (wr.alloc (.cells #[.string x0, .int .i64 x1, .string x2, .int .i64 x3, .int .i64 x4, .int .i64 x5, .int .i64 x6, .int .u32 x7, .int .i64 x8] 42)).heap.size from Nat.lt_of_lt_of_le hsl ((Below.refl wr.heap.size wr).alloc (Nat.le_refl _) _).size)
      have HSYA := Lib.hid (show ∀ j u, (EntS.f (⟨y0, y1, y2, y3, y4, y5, y6, y7, y8⟩ : EntV))[j]? = some u → (wr.alloc (.cells #[.string x0, .int .i64 x1, .string x2, .int .i64 x3, .int .i64 x4, .int .i64 x5, .int .i64 x6, .int .u32 x7, .int .i64 x8] 42)).cell? ⟨sb, so + (k - 1) * 9 + j, none⟩ = some u from fun j u hu => (((Below.refl wr.heap.size wr).alloc (Nat.le_refl _) (.cells #[.string x0, .int .i64 x1, .string x2, .int .i64 x3, .int .i64 x4, .int .i64 x5, .int .i64 x6, .int .u32 x7, .int .i64 x8] 42)).cell (p := ⟨sb, so + (k - 1) * 9 + j, none⟩) hsl).trans (HSY.out j u hu))
      have HOKX := Lib.hid (EntS.mono ((Below.refl wr.heap.size wr).alloc (Nat.le_refl _) (.cells #[.string x0, .int .i64 x1, .string x2, .int .i64 x3, .int .i64 x4, .int .i64 x5, .int .i64 x6, .int .u32 x7, .int .i64 x8] 42)) hok)
      have HRX := Lib.hid (show ∀ W9, Below (wr.alloc (.cells #[.string x0, .int .i64 x1, .string x2, .int .i64 x3, .int .i64 x4, .int .i64 x5, .int .i64 x6, .int .u32 x7, .int .i64 x8] 42)).heap.size (wr.alloc (.cells #[.string x0, .int .i64 x1, .string x2, .int .i64 x3, .int .i64 x4, .int .i64 x5, .int .i64 x6, .int .u32 x7, .int .i64 x8] 42)) W9 → Calls Tryz.prog 43 #[.agg #[.string x0, .int .i64 x1, .string x2, .int .i64 x3, .int .i64 x4, .int .i64 x5, .int .i64 x6, .int .u32 x7, .int .i64 x8]] W9 fun e w' => e = .returned (.bool bx) ∧ Below W9.heap.size W9 w' from fun W9 hB => by
        rw [hbx]
        exact HR.out W9 (⟨x0, x1, x2, x3, x4, x5, x6, x7, x8⟩ : EntV) (by rw [hse]; exact vec_mem (S := EntS) (by rw [HL.out]; exact hkn)) (HAL.out.trans (hB.mono HAL.out.size)) (EntS.mono hB HOKX.out))
      clear hsc9 hse hre hsl hok HSL HSY
      have HSL := HSLA
      have HSY := HSYA
      clear HSLA HSYA
      go_wp2_with fail
      cases bx with
      | false =>
        have HNO := Lib.hid (RisIs.no (p := p) (cm := fun a b => cmpS a.key b.key) (d := EntS.z) (l := l) hkn (fun g => by have h1 := g.1; rw [← HSE.out, ← HBX.out] at h1; cases h1))
        clear hbx
        refine wp_region_fillC (by kernel_rfl) (by kernel_rfl) (by kernel_rfl) (Below (wr.alloc (.cells #[.string x0, .int .i64 x1, .string x2, .int .i64 x3, .int .i64 x4, .int .i64 x5, .int .i64 x6, .int .u32 x7, .int .i64 x8] 42)).heap.size (wr.alloc (.cells #[.string x0, .int .i64 x1, .string x2, .int .i64 x3, .int .i64 x4, .int .i64 x5, .int .i64 x6, .int .u32 x7, .int .i64 x8] 42))) (FV (fun j_9 => match j_9 with | 0 => some (.func (.func 43) #[] #[]) | 1 => some (.agg #[.string x0, .int .i64 x1, .string x2, .int .i64 x3, .int .i64 x4, .int .i64 x5, .int .i64 x6, .int .u32 x7, .int .i64 x8]) | 2 => some (.bool false) | 3 => some (.bool true) | 4 => some (.bool true) | 5 => some (undef) | 6 => some (undef) | 7 => some (undef) | 8 => some (undef) | 9 => some (undef) | 10 => some (undef) | 11 => some (undef) | 12 => some (undef) | 13 => some (undef) | 14 => some (undef) | 15 => some (undef) | 16 => some (undef) | 17 => some (undef) | 18 => some (.bool true) | _ => none) (fun _ _ => True)) FV.kn (Below.refl _ _).drew ?_ ?_
        · refine ⟨?_, ?_, ?_, ?_, ?_, ?_, ?_, ?_, ?_, ?_, ?_, ?_, ?_, ?_, ?_, ?_, ?_, ?_, ?_, trivial⟩
          all_goals
            intro V w9 K hJ hdep hkn hK
            have HJ := Lib.hid hJ
            simp [KnC, Region.binds] at hkn
          rotate_left 2
          · clear hdep hJ
            simp only [fill, slotOf, List.size_toArray, List.length_cons, List.length_nil, Nat.reduceAdd, List.getElem?_toArray, List.getElem?_cons_zero, List.getElem?_cons_succ, Option.bind_some, Act.put, List.setIfInBounds_toArray, List.set_cons_zero, List.set_cons_succ] at hK ⊢
            try simp only [hkn] at hK ⊢
            go_simp
            refine (HRX.out w9 HJ.out).mono ?_
            rintro e w8 ⟨rfl, hb8⟩
            exact hK (.bool false) _ (HJ.out.trans (hb8.mono HJ.out.size)) rfl (FV.mono ((fun _ _ _ => trivial) hb8)) _ rfl
          rotate_left 16
          all_goals
            have e0 : w9.cell? ⟨wr.heap.size, 0, none⟩ = some (.string x0) := (hJ.cell (p := ⟨wr.heap.size, 0, none⟩) HXL.out).trans (cell_blk HXA.out rfl)
            have e1 : w9.cell? ⟨wr.heap.size, 1, none⟩ = some (.int .i64 x1) := (hJ.cell (p := ⟨wr.heap.size, 1, none⟩) HXL.out).trans (cell_blk HXA.out rfl)
            have e2 : w9.cell? ⟨wr.heap.size, 2, none⟩ = some (.string x2) := (hJ.cell (p := ⟨wr.heap.size, 2, none⟩) HXL.out).trans (cell_blk HXA.out rfl)
            have e3 : w9.cell? ⟨wr.heap.size, 3, none⟩ = some (.int .i64 x3) := (hJ.cell (p := ⟨wr.heap.size, 3, none⟩) HXL.out).trans (cell_blk HXA.out rfl)
            have e4 : w9.cell? ⟨wr.heap.size, 4, none⟩ = some (.int .i64 x4) := (hJ.cell (p := ⟨wr.heap.size, 4, none⟩) HXL.out).trans (cell_blk HXA.out rfl)
            have e5 : w9.cell? ⟨wr.heap.size, 5, none⟩ = some (.int .i64 x5) := (hJ.cell (p := ⟨wr.heap.size, 5, none⟩) HXL.out).trans (cell_blk HXA.out rfl)
            have e6 : w9.cell? ⟨wr.heap.size, 6, none⟩ = some (.int .i64 x6) := (hJ.cell (p := ⟨wr.heap.size, 6, none⟩) HXL.out).trans (cell_blk HXA.out rfl)
            have e7 : w9.cell? ⟨wr.heap.size, 7, none⟩ = some (.int .u32 x7) := (hJ.cell (p := ⟨wr.heap.size, 7, none⟩) HXL.out).trans (cell_blk HXA.out rfl)
            have e8 : w9.cell? ⟨wr.heap.size, 8, none⟩ = some (.int .i64 x8) := (hJ.cell (p := ⟨wr.heap.size, 8, none⟩) HXL.out).trans (cell_blk HXA.out rfl)
            clear hdep hJ
            simp only [fill, slotOf, List.size_toArray, List.length_cons, List.length_nil, Nat.reduceAdd, List.getElem?_toArray, List.getElem?_cons_zero, List.getElem?_cons_succ, Option.bind_some, Act.put, List.setIfInBounds_toArray, List.set_cons_zero, List.set_cons_succ] at hK ⊢
            try simp only [hkn] at hK ⊢
            go_simp
            exact hK _ _ HJ.out rfl (fun j y h => h) _ rfl
        · intro V w9 hJ hall
          have dL : V 18 = .bool true := hall 18 (by decide)
          have HJ9 := Lib.hid hJ
          clear hall hJ
          simp only [fill, slotOf, List.size_toArray, List.length_cons, List.length_nil, Nat.reduceAdd, List.getElem?_toArray, List.getElem?_cons_zero, List.getElem?_cons_succ, Option.bind_some, Act.put, List.setIfInBounds_toArray, List.set_cons_zero, List.set_cons_succ]
          rw [dL]
          clear dL
          have HBZ := Lib.hid (HAL.out.trans (HJ9.out.mono HAL.out.size))
          go_wp2_with fail
          go_ret
          exact ⟨HNO.out, HBZ.out⟩
      | true =>
        by_cases hk0 : k = 0
        · subst hk0
          have HOK2 := Lib.hid (HOK.out.succ (by rw [← HSE.out, ← HBX.out]) (fun g => absurd g (Nat.lt_irrefl 0)))
          clear hbx
          refine wp_region_fillC (by kernel_rfl) (by kernel_rfl) (by kernel_rfl) (Below (wr.alloc (.cells #[.string x0, .int .i64 x1, .string x2, .int .i64 x3, .int .i64 x4, .int .i64 x5, .int .i64 x6, .int .u32 x7, .int .i64 x8] 42)).heap.size (wr.alloc (.cells #[.string x0, .int .i64 x1, .string x2, .int .i64 x3, .int .i64 x4, .int .i64 x5, .int .i64 x6, .int .u32 x7, .int .i64 x8] 42))) (FV (fun j_9 => match j_9 with | 0 => some (.func (.func 43) #[] #[]) | 1 => some (.agg #[.string x0, .int .i64 x1, .string x2, .int .i64 x3, .int .i64 x4, .int .i64 x5, .int .i64 x6, .int .u32 x7, .int .i64 x8]) | 2 => some (.bool true) | 3 => some (.bool false) | 4 => some (.bool false) | 5 => some (.int .i64 0) | 6 => some (.bool false) | 7 => some (.bool false) | 8 => some (undef) | 9 => some (undef) | 10 => some (undef) | 11 => some (undef) | 12 => some (undef) | 13 => some (undef) | 14 => some (undef) | 15 => some (undef) | 16 => some (undef) | 17 => some (.bool false) | 18 => some (.bool false) | _ => none) (fun _ _ => True)) FV.kn (Below.refl _ _).drew ?_ ?_
          · refine ⟨?_, ?_, ?_, ?_, ?_, ?_, ?_, ?_, ?_, ?_, ?_, ?_, ?_, ?_, ?_, ?_, ?_, ?_, ?_, trivial⟩
            all_goals
              intro V w9 K hJ hdep hkn hK
              have HJ := Lib.hid hJ
              simp [KnC, Region.binds] at hkn
            rotate_left 2
            · clear hdep hJ
              simp only [fill, slotOf, List.size_toArray, List.length_cons, List.length_nil, Nat.reduceAdd, List.getElem?_toArray, List.getElem?_cons_zero, List.getElem?_cons_succ, Option.bind_some, Act.put, List.setIfInBounds_toArray, List.set_cons_zero, List.set_cons_succ] at hK ⊢
              try simp only [hkn] at hK ⊢
              go_simp
              refine (HRX.out w9 HJ.out).mono ?_
              rintro e w8 ⟨rfl, hb8⟩
              exact hK (.bool true) _ (HJ.out.trans (hb8.mono HJ.out.size)) rfl (FV.mono ((fun _ _ _ => trivial) hb8)) _ rfl
            rotate_left 16
            all_goals
              have e0 : w9.cell? ⟨wr.heap.size, 0, none⟩ = some (.string x0) := (hJ.cell (p := ⟨wr.heap.size, 0, none⟩) HXL.out).trans (cell_blk HXA.out rfl)
              have e1 : w9.cell? ⟨wr.heap.size, 1, none⟩ = some (.int .i64 x1) := (hJ.cell (p := ⟨wr.heap.size, 1, none⟩) HXL.out).trans (cell_blk HXA.out rfl)
              have e2 : w9.cell? ⟨wr.heap.size, 2, none⟩ = some (.string x2) := (hJ.cell (p := ⟨wr.heap.size, 2, none⟩) HXL.out).trans (cell_blk HXA.out rfl)
              have e3 : w9.cell? ⟨wr.heap.size, 3, none⟩ = some (.int .i64 x3) := (hJ.cell (p := ⟨wr.heap.size, 3, none⟩) HXL.out).trans (cell_blk HXA.out rfl)
              have e4 : w9.cell? ⟨wr.heap.size, 4, none⟩ = some (.int .i64 x4) := (hJ.cell (p := ⟨wr.heap.size, 4, none⟩) HXL.out).trans (cell_blk HXA.out rfl)
              have e5 : w9.cell? ⟨wr.heap.size, 5, none⟩ = some (.int .i64 x5) := (hJ.cell (p := ⟨wr.heap.size, 5, none⟩) HXL.out).trans (cell_blk HXA.out rfl)
              have e6 : w9.cell? ⟨wr.heap.size, 6, none⟩ = some (.int .i64 x6) := (hJ.cell (p := ⟨wr.heap.size, 6, none⟩) HXL.out).trans (cell_blk HXA.out rfl)
              have e7 : w9.cell? ⟨wr.heap.size, 7, none⟩ = some (.int .u32 x7) := (hJ.cell (p := ⟨wr.heap.size, 7, none⟩) HXL.out).trans (cell_blk HXA.out rfl)
              have e8 : w9.cell? ⟨wr.heap.size, 8, none⟩ = some (.int .i64 x8) := (hJ.cell (p := ⟨wr.heap.size, 8, none⟩) HXL.out).trans (cell_blk HXA.out rfl)
              clear hdep hJ
              simp only [fill, slotOf, List.size_toArray, List.length_cons, List.length_nil, Nat.reduceAdd, List.getElem?_toArray, List.getElem?_cons_zero, List.getElem?_cons_succ, Option.bind_some, Act.put, List.setIfInBounds_toArray, List.set_cons_zero, List.set_cons_succ] at hK ⊢
              try simp only [hkn] at hK ⊢
              go_simp
              exact hK _ _ HJ.out rfl (fun j y h => h) _ rfl
          · intro V w9 hJ hall
            have dL : V 18 = .bool false := hall 18 (by decide)
            have HJ9 := Lib.hid hJ
            clear hall hJ
            simp only [fill, slotOf, List.size_toArray, List.length_cons, List.length_nil, Nat.reduceAdd, List.getElem?_toArray, List.getElem?_cons_zero, List.getElem?_cons_succ, Option.bind_some, Act.put, List.setIfInBounds_toArray, List.set_cons_zero, List.set_cons_succ]
            rw [dL]
            clear dL
            have HBZ := Lib.hid (HAL.out.trans (HJ9.out.mono HAL.out.size))
            go_wp2_with fail
            go_roundw
            case rel => exact ⟨1, by omega, rfl, HOK2, HBZ⟩
            case measure => simp [intOf]; try omega
        · obtain ⟨j, rfl⟩ : ∃ j, k = j + 1 := ⟨k - 1, by omega⟩
          have HSYJ := Lib.hid HSY.out
          simp only [Nat.add_sub_cancel] at HSYJ
          clear HSY
          have HSY := HSYJ
          clear HSYJ
          obtain ⟨zz, hzz⟩ : ∃ zz, zz = cmpS y0 x0 := ⟨_, rfl⟩
          have HCM := Lib.hid (show ∀ W9, Calls Tryz.prog 28 #[.agg #[.string y0, .int .i64 y1, .string y2, .int .i64 y3, .int .i64 y4, .int .i64 y5, .int .i64 y6, .int .u32 y7, .int .i64 y8], .agg #[.string x0, .int .i64 x1, .string x2, .int .i64 x3, .int .i64 x4, .int .i64 x5, .int .i64 x6, .int .u32 x7, .int .i64 x8]] W9 fun e w' => e = .returned (.int .i64 zz) ∧ Below W9.heap.size W9 w' from fun W9 => by rw [hzz]; exact byE_any y0 x0 y1 x1 y2 x2 y3 x3 y4 x4 y5 x5 y6 x6 y7 x7 y8 x8 W9)
          by_cases hge : zz ≥ 0
          · have HZ := Lib.hid (show decide (zz ≥ 0) = true from decide_eq_true hge)
            have HNO := Lib.hid (RisIs.no (p := p) (cm := fun a b => cmpS a.key b.key) (d := EntS.z) (l := l) hkn (fun g => by have h1 := g.2 (by omega); rw [← HSE.out, ← HRE.out] at h1; have h2 : cmpS y0 x0 < 0 := h1; rw [← hzz] at h2; omega))
            clear hbx hzz hge
            refine wp_region_fillC (by kernel_rfl) (by kernel_rfl) (by kernel_rfl) (Below (wr.alloc (.cells #[.string x0, .int .i64 x1, .string x2, .int .i64 x3, .int .i64 x4, .int .i64 x5, .int .i64 x6, .int .u32 x7, .int .i64 x8] 42)).heap.size (wr.alloc (.cells #[.string x0, .int .i64 x1, .string x2, .int .i64 x3, .int .i64 x4, .int .i64 x5, .int .i64 x6, .int .u32 x7, .int .i64 x8] 42))) (FV (fun j_9 => match j_9 with | 0 => some (.func (.func 43) #[] #[]) | 1 => some (.agg #[.string x0, .int .i64 x1, .string x2, .int .i64 x3, .int .i64 x4, .int .i64 x5, .int .i64 x6, .int .u32 x7, .int .i64 x8]) | 2 => some (.bool true) | 3 => some (.bool false) | 4 => some (.bool false) | 5 => some (.int .i64 ((j : Int) + 1)) | 6 => some (.bool true) | 7 => some (.bool true) | 8 => some (.func (.func 28) #[] #[]) | 9 => some (.slice (some ⟨sb, so, none⟩) n c) | 10 => some (.int .i64 ((j : Int) + 1)) | 11 => some (.int .i64 (j : Int)) | 12 => some (.pointer (some ⟨sb, so + j * 9, none⟩)) | 13 => some (.agg #[.string y0, .int .i64 y1, .string y2, .int .i64 y3, .int .i64 y4, .int .i64 y5, .int .i64 y6, .int .u32 y7, .int .i64 y8]) | 14 => some (.agg #[.string x0, .int .i64 x1, .string x2, .int .i64 x3, .int .i64 x4, .int .i64 x5, .int .i64 x6, .int .u32 x7, .int .i64 x8]) | 15 => some (.int .i64 zz) | 16 => some (.bool true) | 17 => some (.bool true) | 18 => some (.bool true) | _ => none) (fun _ _ => True)) FV.kn (Below.refl _ _).drew ?_ ?_
            · refine ⟨?_, ?_, ?_, ?_, ?_, ?_, ?_, ?_, ?_, ?_, ?_, ?_, ?_, ?_, ?_, ?_, ?_, ?_, ?_, trivial⟩
              all_goals
                intro V w9 K hJ hdep hkn hK
                have HJ := Lib.hid hJ
                simp [KnC, Region.binds] at hkn
              rotate_left 2
              · clear hdep hJ
                simp only [fill, slotOf, List.size_toArray, List.length_cons, List.length_nil, Nat.reduceAdd, List.getElem?_toArray, List.getElem?_cons_zero, List.getElem?_cons_succ, Option.bind_some, Act.put, List.setIfInBounds_toArray, List.set_cons_zero, List.set_cons_succ] at hK ⊢
                try simp only [hkn] at hK ⊢
                go_simp
                refine (HRX.out w9 HJ.out).mono ?_
                rintro e w8 ⟨rfl, hb8⟩
                exact hK (.bool true) _ (HJ.out.trans (hb8.mono HJ.out.size)) rfl (FV.mono ((fun _ _ _ => trivial) hb8)) _ rfl
              rotate_left 12
              · clear hdep hJ
                simp only [fill, slotOf, List.size_toArray, List.length_cons, List.length_nil, Nat.reduceAdd, List.getElem?_toArray, List.getElem?_cons_zero, List.getElem?_cons_succ, Option.bind_some, Act.put, List.setIfInBounds_toArray, List.set_cons_zero, List.set_cons_succ] at hK ⊢
                try simp only [hkn] at hK ⊢
                go_simp
                refine (HCM.out w9).mono ?_
                rintro e w8 ⟨rfl, hb8⟩
                exact hK (.int .i64 zz) _ (HJ.out.trans (hb8.mono HJ.out.size)) rfl (FV.mono ((fun _ _ _ => trivial) hb8)) _ rfl
              rotate_left 3
              all_goals
                have e0 : w9.cell? ⟨wr.heap.size, 0, none⟩ = some (.string x0) := (hJ.cell (p := ⟨wr.heap.size, 0, none⟩) HXL.out).trans (cell_blk HXA.out rfl)
                have e1 : w9.cell? ⟨wr.heap.size, 1, none⟩ = some (.int .i64 x1) := (hJ.cell (p := ⟨wr.heap.size, 1, none⟩) HXL.out).trans (cell_blk HXA.out rfl)
                have e2 : w9.cell? ⟨wr.heap.size, 2, none⟩ = some (.string x2) := (hJ.cell (p := ⟨wr.heap.size, 2, none⟩) HXL.out).trans (cell_blk HXA.out rfl)
                have e3 : w9.cell? ⟨wr.heap.size, 3, none⟩ = some (.int .i64 x3) := (hJ.cell (p := ⟨wr.heap.size, 3, none⟩) HXL.out).trans (cell_blk HXA.out rfl)
                have e4 : w9.cell? ⟨wr.heap.size, 4, none⟩ = some (.int .i64 x4) := (hJ.cell (p := ⟨wr.heap.size, 4, none⟩) HXL.out).trans (cell_blk HXA.out rfl)
                have e5 : w9.cell? ⟨wr.heap.size, 5, none⟩ = some (.int .i64 x5) := (hJ.cell (p := ⟨wr.heap.size, 5, none⟩) HXL.out).trans (cell_blk HXA.out rfl)
                have e6 : w9.cell? ⟨wr.heap.size, 6, none⟩ = some (.int .i64 x6) := (hJ.cell (p := ⟨wr.heap.size, 6, none⟩) HXL.out).trans (cell_blk HXA.out rfl)
                have e7 : w9.cell? ⟨wr.heap.size, 7, none⟩ = some (.int .u32 x7) := (hJ.cell (p := ⟨wr.heap.size, 7, none⟩) HXL.out).trans (cell_blk HXA.out rfl)
                have e8 : w9.cell? ⟨wr.heap.size, 8, none⟩ = some (.int .i64 x8) := (hJ.cell (p := ⟨wr.heap.size, 8, none⟩) HXL.out).trans (cell_blk HXA.out rfl)
                have hk9 : decide ((j : Int) + 1 > 0) = true := decide_eq_true (by omega)
                have hw1 : IntKind.i64.wrap (j : Int) = (j : Int) := IntWalk.i64_in _ (by omega)
                have hw2 : IntKind.i64.wrap ((j : Int) + 1 - 1) = (j : Int) := by rw [Int.add_sub_cancel]; exact hw1
                have hjn : j < n := by omega
                have hjn2 : (j : Int) < (n : Int) := by omega
                have u0 : w9.cell? ⟨sb, so + j * 9, none⟩ = some (.string y0) := (hJ.cell (p := ⟨sb, so + j * 9 + 0, none⟩) HSL.out).trans (HSY.out 0 _ rfl)
                have u1 : w9.cell? ⟨sb, so + j * 9 + 1, none⟩ = some (.int .i64 y1) := (hJ.cell (p := ⟨sb, so + j * 9 + 1, none⟩) HSL.out).trans (HSY.out 1 _ rfl)
                have u2 : w9.cell? ⟨sb, so + j * 9 + 2, none⟩ = some (.string y2) := (hJ.cell (p := ⟨sb, so + j * 9 + 2, none⟩) HSL.out).trans (HSY.out 2 _ rfl)
                have u3 : w9.cell? ⟨sb, so + j * 9 + 3, none⟩ = some (.int .i64 y3) := (hJ.cell (p := ⟨sb, so + j * 9 + 3, none⟩) HSL.out).trans (HSY.out 3 _ rfl)
                have u4 : w9.cell? ⟨sb, so + j * 9 + 4, none⟩ = some (.int .i64 y4) := (hJ.cell (p := ⟨sb, so + j * 9 + 4, none⟩) HSL.out).trans (HSY.out 4 _ rfl)
                have u5 : w9.cell? ⟨sb, so + j * 9 + 5, none⟩ = some (.int .i64 y5) := (hJ.cell (p := ⟨sb, so + j * 9 + 5, none⟩) HSL.out).trans (HSY.out 5 _ rfl)
                have u6 : w9.cell? ⟨sb, so + j * 9 + 6, none⟩ = some (.int .i64 y6) := (hJ.cell (p := ⟨sb, so + j * 9 + 6, none⟩) HSL.out).trans (HSY.out 6 _ rfl)
                have u7 : w9.cell? ⟨sb, so + j * 9 + 7, none⟩ = some (.int .u32 y7) := (hJ.cell (p := ⟨sb, so + j * 9 + 7, none⟩) HSL.out).trans (HSY.out 7 _ rfl)
                have u8 : w9.cell? ⟨sb, so + j * 9 + 8, none⟩ = some (.int .i64 y8) := (hJ.cell (p := ⟨sb, so + j * 9 + 8, none⟩) HSL.out).trans (HSY.out 8 _ rfl)
                have hz9 : decide (zz ≥ 0) = true := HZ.out
                clear hdep hJ
                simp only [fill, slotOf, List.size_toArray, List.length_cons, List.length_nil, Nat.reduceAdd, List.getElem?_toArray, List.getElem?_cons_zero, List.getElem?_cons_succ, Option.bind_some, Act.put, List.setIfInBounds_toArray, List.set_cons_zero, List.set_cons_succ] at hK ⊢
                try simp only [hkn] at hK ⊢
                go_simp
                exact hK _ _ HJ.out rfl (fun j y h => h) _ rfl
            · intro V w9 hJ hall
              have dL : V 18 = .bool true := hall 18 (by decide)
              have HJ9 := Lib.hid hJ
              clear hall hJ
              simp only [fill, slotOf, List.size_toArray, List.length_cons, List.length_nil, Nat.reduceAdd, List.getElem?_toArray, List.getElem?_cons_zero, List.getElem?_cons_succ, Option.bind_some, Act.put, List.setIfInBounds_toArray, List.set_cons_zero, List.set_cons_succ]
              rw [dL]
              clear dL
              have HBZ := Lib.hid (HAL.out.trans (HJ9.out.mono HAL.out.size))
              go_wp2_with fail
              go_ret
              exact ⟨HNO.out, HBZ.out⟩
          · have HZ := Lib.hid (show decide (zz ≥ 0) = false from decide_eq_false hge)
            have HOK2 := Lib.hid (HOK.out.succ (by rw [← HSE.out, ← HBX.out]) (fun _ => by rw [← HSE.out, ← HRE.out]; show cmpS y0 x0 < 0; rw [← hzz]; omega))
            clear hbx hzz hge
            refine wp_region_fillC (by kernel_rfl) (by kernel_rfl) (by kernel_rfl) (Below (wr.alloc (.cells #[.string x0, .int .i64 x1, .string x2, .int .i64 x3, .int .i64 x4, .int .i64 x5, .int .i64 x6, .int .u32 x7, .int .i64 x8] 42)).heap.size (wr.alloc (.cells #[.string x0, .int .i64 x1, .string x2, .int .i64 x3, .int .i64 x4, .int .i64 x5, .int .i64 x6, .int .u32 x7, .int .i64 x8] 42))) (FV (fun j_9 => match j_9 with | 0 => some (.func (.func 43) #[] #[]) | 1 => some (.agg #[.string x0, .int .i64 x1, .string x2, .int .i64 x3, .int .i64 x4, .int .i64 x5, .int .i64 x6, .int .u32 x7, .int .i64 x8]) | 2 => some (.bool true) | 3 => some (.bool false) | 4 => some (.bool false) | 5 => some (.int .i64 ((j : Int) + 1)) | 6 => some (.bool true) | 7 => some (.bool true) | 8 => some (.func (.func 28) #[] #[]) | 9 => some (.slice (some ⟨sb, so, none⟩) n c) | 10 => some (.int .i64 ((j : Int) + 1)) | 11 => some (.int .i64 (j : Int)) | 12 => some (.pointer (some ⟨sb, so + j * 9, none⟩)) | 13 => some (.agg #[.string y0, .int .i64 y1, .string y2, .int .i64 y3, .int .i64 y4, .int .i64 y5, .int .i64 y6, .int .u32 y7, .int .i64 y8]) | 14 => some (.agg #[.string x0, .int .i64 x1, .string x2, .int .i64 x3, .int .i64 x4, .int .i64 x5, .int .i64 x6, .int .u32 x7, .int .i64 x8]) | 15 => some (.int .i64 zz) | 16 => some (.bool false) | 17 => some (.bool false) | 18 => some (.bool false) | _ => none) (fun _ _ => True)) FV.kn (Below.refl _ _).drew ?_ ?_
            · refine ⟨?_, ?_, ?_, ?_, ?_, ?_, ?_, ?_, ?_, ?_, ?_, ?_, ?_, ?_, ?_, ?_, ?_, ?_, ?_, trivial⟩
              all_goals
                intro V w9 K hJ hdep hkn hK
                have HJ := Lib.hid hJ
                simp [KnC, Region.binds] at hkn
              rotate_left 2
              · clear hdep hJ
                simp only [fill, slotOf, List.size_toArray, List.length_cons, List.length_nil, Nat.reduceAdd, List.getElem?_toArray, List.getElem?_cons_zero, List.getElem?_cons_succ, Option.bind_some, Act.put, List.setIfInBounds_toArray, List.set_cons_zero, List.set_cons_succ] at hK ⊢
                try simp only [hkn] at hK ⊢
                go_simp
                refine (HRX.out w9 HJ.out).mono ?_
                rintro e w8 ⟨rfl, hb8⟩
                exact hK (.bool true) _ (HJ.out.trans (hb8.mono HJ.out.size)) rfl (FV.mono ((fun _ _ _ => trivial) hb8)) _ rfl
              rotate_left 12
              · clear hdep hJ
                simp only [fill, slotOf, List.size_toArray, List.length_cons, List.length_nil, Nat.reduceAdd, List.getElem?_toArray, List.getElem?_cons_zero, List.getElem?_cons_succ, Option.bind_some, Act.put, List.setIfInBounds_toArray, List.set_cons_zero, List.set_cons_succ] at hK ⊢
                try simp only [hkn] at hK ⊢
                go_simp
                refine (HCM.out w9).mono ?_
                rintro e w8 ⟨rfl, hb8⟩
                exact hK (.int .i64 zz) _ (HJ.out.trans (hb8.mono HJ.out.size)) rfl (FV.mono ((fun _ _ _ => trivial) hb8)) _ rfl
              rotate_left 3
              all_goals
                have e0 : w9.cell? ⟨wr.heap.size, 0, none⟩ = some (.string x0) := (hJ.cell (p := ⟨wr.heap.size, 0, none⟩) HXL.out).trans (cell_blk HXA.out rfl)
                have e1 : w9.cell? ⟨wr.heap.size, 1, none⟩ = some (.int .i64 x1) := (hJ.cell (p := ⟨wr.heap.size, 1, none⟩) HXL.out).trans (cell_blk HXA.out rfl)
                have e2 : w9.cell? ⟨wr.heap.size, 2, none⟩ = some (.string x2) := (hJ.cell (p := ⟨wr.heap.size, 2, none⟩) HXL.out).trans (cell_blk HXA.out rfl)
                have e3 : w9.cell? ⟨wr.heap.size, 3, none⟩ = some (.int .i64 x3) := (hJ.cell (p := ⟨wr.heap.size, 3, none⟩) HXL.out).trans (cell_blk HXA.out rfl)
                have e4 : w9.cell? ⟨wr.heap.size, 4, none⟩ = some (.int .i64 x4) := (hJ.cell (p := ⟨wr.heap.size, 4, none⟩) HXL.out).trans (cell_blk HXA.out rfl)
                have e5 : w9.cell? ⟨wr.heap.size, 5, none⟩ = some (.int .i64 x5) := (hJ.cell (p := ⟨wr.heap.size, 5, none⟩) HXL.out).trans (cell_blk HXA.out rfl)
                have e6 : w9.cell? ⟨wr.heap.size, 6, none⟩ = some (.int .i64 x6) := (hJ.cell (p := ⟨wr.heap.size, 6, none⟩) HXL.out).trans (cell_blk HXA.out rfl)
                have e7 : w9.cell? ⟨wr.heap.size, 7, none⟩ = some (.int .u32 x7) := (hJ.cell (p := ⟨wr.heap.size, 7, none⟩) HXL.out).trans (cell_blk HXA.out rfl)
                have e8 : w9.cell? ⟨wr.heap.size, 8, none⟩ = some (.int .i64 x8) := (hJ.cell (p := ⟨wr.heap.size, 8, none⟩) HXL.out).trans (cell_blk HXA.out rfl)
                have hk9 : decide ((j : Int) + 1 > 0) = true := decide_eq_true (by omega)
                have hw1 : IntKind.i64.wrap (j : Int) = (j : Int) := IntWalk.i64_in _ (by omega)
                have hw2 : IntKind.i64.wrap ((j : Int) + 1 - 1) = (j : Int) := by rw [Int.add_sub_cancel]; exact hw1
                have hjn : j < n := by omega
                have hjn2 : (j : Int) < (n : Int) := by omega
                have u0 : w9.cell? ⟨sb, so + j * 9, none⟩ = some (.string y0) := (hJ.cell (p := ⟨sb, so + j * 9 + 0, none⟩) HSL.out).trans (HSY.out 0 _ rfl)
                have u1 : w9.cell? ⟨sb, so + j * 9 + 1, none⟩ = some (.int .i64 y1) := (hJ.cell (p := ⟨sb, so + j * 9 + 1, none⟩) HSL.out).trans (HSY.out 1 _ rfl)
                have u2 : w9.cell? ⟨sb, so + j * 9 + 2, none⟩ = some (.string y2) := (hJ.cell (p := ⟨sb, so + j * 9 + 2, none⟩) HSL.out).trans (HSY.out 2 _ rfl)
                have u3 : w9.cell? ⟨sb, so + j * 9 + 3, none⟩ = some (.int .i64 y3) := (hJ.cell (p := ⟨sb, so + j * 9 + 3, none⟩) HSL.out).trans (HSY.out 3 _ rfl)
                have u4 : w9.cell? ⟨sb, so + j * 9 + 4, none⟩ = some (.int .i64 y4) := (hJ.cell (p := ⟨sb, so + j * 9 + 4, none⟩) HSL.out).trans (HSY.out 4 _ rfl)
                have u5 : w9.cell? ⟨sb, so + j * 9 + 5, none⟩ = some (.int .i64 y5) := (hJ.cell (p := ⟨sb, so + j * 9 + 5, none⟩) HSL.out).trans (HSY.out 5 _ rfl)
                have u6 : w9.cell? ⟨sb, so + j * 9 + 6, none⟩ = some (.int .i64 y6) := (hJ.cell (p := ⟨sb, so + j * 9 + 6, none⟩) HSL.out).trans (HSY.out 6 _ rfl)
                have u7 : w9.cell? ⟨sb, so + j * 9 + 7, none⟩ = some (.int .u32 y7) := (hJ.cell (p := ⟨sb, so + j * 9 + 7, none⟩) HSL.out).trans (HSY.out 7 _ rfl)
                have u8 : w9.cell? ⟨sb, so + j * 9 + 8, none⟩ = some (.int .i64 y8) := (hJ.cell (p := ⟨sb, so + j * 9 + 8, none⟩) HSL.out).trans (HSY.out 8 _ rfl)
                have hz9 : decide (zz ≥ 0) = false := HZ.out
                clear hdep hJ
                simp only [fill, slotOf, List.size_toArray, List.length_cons, List.length_nil, Nat.reduceAdd, List.getElem?_toArray, List.getElem?_cons_zero, List.getElem?_cons_succ, Option.bind_some, Act.put, List.setIfInBounds_toArray, List.set_cons_zero, List.set_cons_succ] at hK ⊢
                try simp only [hkn] at hK ⊢
                go_simp
                exact hK _ _ HJ.out rfl (fun j y h => h) _ rfl
            · intro V w9 hJ hall
              have dL : V 18 = .bool false := hall 18 (by decide)
              have HJ9 := Lib.hid hJ
              clear hall hJ
              simp only [fill, slotOf, List.size_toArray, List.length_cons, List.length_nil, Nat.reduceAdd, List.getElem?_toArray, List.getElem?_cons_zero, List.getElem?_cons_succ, Option.bind_some, Act.put, List.setIfInBounds_toArray, List.set_cons_zero, List.set_cons_succ]
              rw [dL]
              clear dL
              have HBZ := Lib.hid (HAL.out.trans (HJ9.out.mono HAL.out.size))
              go_wp2_with fail
              go_roundw
              case rel => exact ⟨j + 1 + 1, by omega, by go_num, HOK2, HBZ⟩
              case measure => simp [intOf]; omega
    · obtain rfl : k = n := by omega
      have HY := Lib.hid (RisIs.yes HOK.out)
      clear hkn
      go_wp2_with fail
      go_ret
      exact ⟨HY.out, HB.out⟩

end Go.Proofs.YtadfmenlpnibnaaGreat
end PkMS5_1
section PkMS5_2
/- Texts that rise, and are keys. Written by genapt.py. -/
namespace Go.Proofs.YtadfmenlpnibnaaGreat
open Go.RowKit LabPlain
set_option linter.unusedVariables false

theorem cmpSb_any (x y : ByteArray) (w : World) : Calls Tryz.prog 53 #[.string x, .string y] w fun e w' => e = .returned (.int .i64 (cmpS x y)) ∧ Below w.heap.size w w' :=
  (cmpS_any x y w).mono (by rintro e w1 ⟨rfl, rfl⟩; exact ⟨rfl, Below.refl _ _⟩)
set_option maxRecDepth 100000 in
set_option maxHeartbeats 8000000 in
theorem rising_anyS {w : World} {a : Option Addr} {n c : Nat} {l : List ByteArray} (h : VecAt KeyS w a n c l) {mb : Nat} (p : ByteArray → Bool)
    (hR : ∀ (W : World) (z : ByteArray), z ∈ l → Below w.heap.size w W → KeyS.ok W z → Calls Tryz.prog 54 #[.string z] W fun e w' => e = .returned (.bool (p z)) ∧ Below W.heap.size W w') :
    Calls Tryz.prog 52 #[.slice a n c, .func (.func 53) #[] #[], .func (.func 54) #[] #[]] w fun e w' => RisIs p (cmpS) KeyS.z l n e ∧ Below w.heap.size w w' := by
  have hcap := h.cap
  have hcm := h.capm
  have HH := Lib.hid h
  have HL := Lib.hid h.len
  have HR := Lib.hid hR
  clear h hR
  go_enter Tryz.func52, Tryz.ntmps52
  go_wp2_with fail
  go_loopw [7, 8, 11] (fun _ _ s11 wr => ∃ k : Nat, k ≤ n ∧ s11 = .int .i64 (k : Int) ∧ Hid (RisOk p (cmpS) KeyS.z l k) ∧ Hid (Below w.heap.size w wr)) (fun _ _ s11 _ => n - (intOf s11).toNat)
  case atStart => exact ⟨0, by omega, rfl, Lib.hid (fun j hj => by omega), Lib.hid (Below.refl _ _)⟩
  case round =>
    obtain ⟨k, hk, rfl, HOK, HB⟩ := hrel
    rename World => wr
    by_cases hkn : k < n
    · have hki : (k : Int) < (n : Int) := by omega
      obtain ⟨sb, so, rfl, hsl, hok, hsc9⟩ := (HH.out.kept HB.out).get hkn
      obtain ⟨x0, hse⟩ : ∃ s, s = l.getD k KeyS.z := ⟨_, rfl⟩
      obtain ⟨y0, hre⟩ : ∃ r, r = l.getD (k - 1) KeyS.z := ⟨_, rfl⟩
      rw [← hse] at hsc9 hok
      have HSE := Lib.hid hse
      have HRE := Lib.hid hre
      have HSL := Lib.hid hsl
      have HSY := Lib.hid (show ∀ j u, (KeyS.f y0)[j]? = some u → wr.cell? ⟨sb, so + (k - 1) * 1 + j, none⟩ = some u from by
        obtain ⟨sb2, so2, e2, _, _, hy⟩ := (HH.out.kept HB.out).get (show k - 1 < n by omega)
        cases e2
        rw [← hre] at hy
        exact hy)
      have d0 : wr.cell? ⟨sb, so + k, none⟩ = some (.string x0) := (by have h9 : wr.cell? ⟨sb, so + k * 1 + 0, none⟩ = some (.string x0) := hsc9 0 _ rfl; rwa [Nat.mul_one, Nat.add_zero] at h9)
      have HAL := HB
      obtain ⟨bx, hbx⟩ : ∃ bx, bx = p x0 := ⟨_, rfl⟩
      have HBX := Lib.hid hbx
      have HSLA := Lib.hid hsl
      have HSYA := HSY
      have HOKX := Lib.hid hok
      have HRX := Lib.hid (show ∀ W9, Below (wr).heap.size (wr) W9 → Calls Tryz.prog 54 #[.string x0] W9 fun e w' => e = .returned (.bool bx) ∧ Below W9.heap.size W9 w' from fun W9 hB => by
        rw [hbx]
        exact HR.out W9 x0 (by rw [hse]; exact vec_mem (S := KeyS) (by rw [HL.out]; exact hkn)) (HAL.out.trans (hB.mono HAL.out.size)) (KeyS.mono hB HOKX.out))
      clear hsc9 hse hre hsl hok HSL HSY
      have HSL := HSLA
      have HSY := HSYA
      clear HSLA HSYA
      go_wp2_with fail
      cases bx with
      | false =>
        have HNO := Lib.hid (RisIs.no (p := p) (cm := cmpS) (d := KeyS.z) (l := l) hkn (fun g => by have h1 := g.1; rw [← HSE.out, ← HBX.out] at h1; cases h1))
        clear hbx
        refine (HRX.out wr (Below.refl _ _)).mono ?_
        rintro e w8 ⟨rfl, hb8⟩
        have HBZ := Lib.hid (HAL.out.trans (hb8.mono HAL.out.size))
        clear hb8
        go_wp2_with fail
        go_ret
        exact ⟨HNO.out, HBZ.out⟩
      | true =>
        by_cases hk0 : k = 0
        · subst hk0
          have HOK2 := Lib.hid (HOK.out.succ (by rw [← HSE.out, ← HBX.out]) (fun g => absurd g (Nat.lt_irrefl 0)))
          clear hbx
          refine (HRX.out wr (Below.refl _ _)).mono ?_
          rintro e w8 ⟨rfl, hb8⟩
          have HBZ := Lib.hid (HAL.out.trans (hb8.mono HAL.out.size))
          clear hb8
          go_wp2_with fail
          go_roundw
          case rel => exact ⟨1, by omega, rfl, HOK2, HBZ⟩
          case measure => simp [intOf]; try omega
        · obtain ⟨j, rfl⟩ : ∃ j, k = j + 1 := ⟨k - 1, by omega⟩
          have HSYJ := Lib.hid HSY.out
          simp only [Nat.add_sub_cancel] at HSYJ
          clear HSY
          have HSY := HSYJ
          clear HSYJ
          obtain ⟨zz, hzz⟩ : ∃ zz, zz = cmpS y0 x0 := ⟨_, rfl⟩
          have HCM := Lib.hid (show ∀ W9, Calls Tryz.prog 53 #[.string y0, .string x0] W9 fun e w' => e = .returned (.int .i64 zz) ∧ Below W9.heap.size W9 w' from fun W9 => by rw [hzz]; exact cmpSb_any y0 x0 W9)
          by_cases hge : zz ≥ 0
          · have HZ := Lib.hid (show decide (zz ≥ 0) = true from decide_eq_true hge)
            have HNO := Lib.hid (RisIs.no (p := p) (cm := cmpS) (d := KeyS.z) (l := l) hkn (fun g => by have h1 := g.2 (by omega); rw [← HSE.out, ← HRE.out] at h1; have h2 : cmpS y0 x0 < 0 := h1; rw [← hzz] at h2; omega))
            clear hbx hzz hge
            refine (HRX.out wr (Below.refl _ _)).mono ?_
            rintro e w8 ⟨rfl, hb8⟩
            have u0 : w8.cell? ⟨sb, so + j, none⟩ = some (.string y0) := (hb8.cell (p := ⟨sb, so + j, none⟩) HSL.out).trans (by have h9 := HSY.out 0 _ rfl; rwa [Nat.mul_one, Nat.add_zero] at h9)
            have hk9 : decide ((j : Int) + 1 > 0) = true := decide_eq_true (by omega)
            have hw1 : IntKind.i64.wrap (j : Int) = (j : Int) := IntWalk.i64_in _ (by omega)
            have hjn : j < n := by omega
            have hjn2 : (j : Int) < (n : Int) := by omega
            have HB8 := Lib.hid (HAL.out.trans (hb8.mono HAL.out.size))
            clear hb8
            go_wp2_with fail
            refine (HCM.out w8).mono ?_
            rintro e w9 ⟨rfl, hb9⟩
            have HBZ := Lib.hid (HB8.out.trans (hb9.mono HB8.out.size))
            clear hb9
            have hz9 := HZ.out
            go_wp2_with fail
            go_ret
            exact ⟨HNO.out, HBZ.out⟩
          · have HZ := Lib.hid (show decide (zz ≥ 0) = false from decide_eq_false hge)
            have HOK2 := Lib.hid (HOK.out.succ (by rw [← HSE.out, ← HBX.out]) (fun _ => by rw [← HSE.out, ← HRE.out]; show cmpS y0 x0 < 0; rw [← hzz]; omega))
            clear hbx hzz hge
            refine (HRX.out wr (Below.refl _ _)).mono ?_
            rintro e w8 ⟨rfl, hb8⟩
            have u0 : w8.cell? ⟨sb, so + j, none⟩ = some (.string y0) := (hb8.cell (p := ⟨sb, so + j, none⟩) HSL.out).trans (by have h9 := HSY.out 0 _ rfl; rwa [Nat.mul_one, Nat.add_zero] at h9)
            have hk9 : decide ((j : Int) + 1 > 0) = true := decide_eq_true (by omega)
            have hw1 : IntKind.i64.wrap (j : Int) = (j : Int) := IntWalk.i64_in _ (by omega)
            have hjn : j < n := by omega
            have hjn2 : (j : Int) < (n : Int) := by omega
            have HB8 := Lib.hid (HAL.out.trans (hb8.mono HAL.out.size))
            clear hb8
            go_wp2_with fail
            refine (HCM.out w8).mono ?_
            rintro e w9 ⟨rfl, hb9⟩
            have HBZ := Lib.hid (HB8.out.trans (hb9.mono HB8.out.size))
            clear hb9
            have hz9 := HZ.out
            go_wp2_with fail
            go_roundw
            case rel => exact ⟨j + 1 + 1, by omega, by go_num, HOK2, HBZ⟩
            case measure => simp [intOf]; omega
    · obtain rfl : k = n := by omega
      have HY := Lib.hid (RisIs.yes HOK.out)
      clear hkn
      go_wp2_with fail
      go_ret
      exact ⟨HY.out, HB.out⟩
end Go.Proofs.YtadfmenlpnibnaaGreat
end PkMS5_2
section PkMS5_3
/- Marks by maker and number: cmp.Or of two, byMakerAndSeq, walked. Written by genapms.py. -/
namespace Go.Proofs.YtadfmenlpnibnaaGreat
open Go.RowKit LabPlain
set_option linter.unusedVariables false

def orM (x y : Int) : Int := if x ≠ 0 then x else y
theorem or2M_any {w : World} {b : Nat} {x y : Int} (h0 : w.cell? ⟨b, 0, none⟩ = some (.int .i64 x)) (h1 : w.cell? ⟨b, 1, none⟩ = some (.int .i64 y)) :
    Calls Tryz.prog 74 #[.slice (some ⟨b, 0, none⟩) 2 2] w fun e w' => e = .returned (.int .i64 (orM x y)) ∧ w' = w := by
  have HV := Lib.hid (show ∀ k : Nat, k < 2 → w.cell? ⟨b, k, none⟩ = some (.int .i64 (if k = 0 then x else y)) from fun k hk => by
    rcases (by omega : k = 0 ∨ k = 1) with rfl | rfl
    · exact h0
    · exact h1)
  clear h0 h1
  go_enter Tryz.func74, Tryz.ntmps74
  go_wp2_with fail
  go_loopw [2, 5, 8] (fun s2 s5 s8 wr => ∃ k : Nat, k ≤ 2 ∧ s2 = .int .i64 0 ∧ s8 = .int .i64 (k : Int) ∧ Hid (∀ i, i < k → (if i = 0 then x else y) = 0) ∧ wr = w) (fun _ _ s8 _ => 2 - (intOf s8).toNat)
  case atStart => exact ⟨0, by omega, rfl, rfl, Lib.hid (fun i h => by omega), rfl⟩
  case round =>
    obtain ⟨k, hk, rfl, rfl, HZ, rfl⟩ := hrel
    by_cases hkn : k < 2
    · have c := HV.out k hkn
      obtain ⟨v, hv⟩ : ∃ v, v = (if k = 0 then x else y) := ⟨_, rfl⟩
      rw [← hv] at c
      have HVV := Lib.hid hv
      have hki : (k : Int) < 2 := by omega
      clear hv
      by_cases h0 : v = 0
      · have HN := Lib.hid (show ∀ i, i < k + 1 → (if i = 0 then x else y) = 0 from fun i hi => by
          rcases Nat.lt_or_ge i k with g | g
          · exact HZ.out i g
          · obtain rfl : i = k := by omega
            rw [← HVV.out]; exact h0)
        subst h0
        go_wp2_with fail
        go_roundw
        case rel => exact ⟨k + 1, by omega, rfl, by go_num, HN, trivial⟩
        case measure => simp [intOf]; omega
      · have q : (v != 0) = true := by simpa using h0
        have HE := Lib.hid (show orM x y = v from by
          unfold orM
          rcases (by omega : k = 0 ∨ k = 1) with rfl | rfl
          · have e : v = x := HVV.out
            rw [← e, if_pos h0]
          · have e : v = y := HVV.out
            have z : x = 0 := HZ.out 0 (by omega)
            rw [e, if_neg (by simp [z])])
        have H0 := Lib.hid h0
        clear h0
        go_wp2_with fail
        go_ret
        exact ⟨by rw [HE.out]; try rfl, rfl⟩
    · have HE := Lib.hid (show orM x y = 0 from by
        have hk2 : k = 2 := by omega
        subst hk2
        have h0 : x = 0 := HZ.out 0 (by omega)
        have h1 : y = 0 := HZ.out 1 (by omega)
        rw [h0, h1]; rfl)
      have hkn2 : ¬ (k : Int) < 2 := by omega
      go_wp2_with fail
      go_ret
      exact ⟨by rw [HE.out]; rfl, rfl⟩

theorem cmpIb_any (x y : Int) (w : World) : Calls Tryz.prog 62 #[.int .i64 x, .int .i64 y] w fun e w' => e = .returned (.int .i64 (cmp3 x y)) ∧ Below w.heap.size w w' :=
  (cmpI_any x y w).mono (by rintro e w1 ⟨rfl, rfl⟩; exact ⟨rfl, Below.refl _ _⟩)
theorem or2Mb_any {w : World} {b : Nat} {x y : Int} (h0 : w.cell? ⟨b, 0, none⟩ = some (.int .i64 x)) (h1 : w.cell? ⟨b, 1, none⟩ = some (.int .i64 y)) :
    Calls Tryz.prog 74 #[.slice (some ⟨b, 0, none⟩) 2 2] w fun e w' => e = .returned (.int .i64 (orM x y)) ∧ Below w.heap.size w w' :=
  (or2M_any h0 h1).mono (by rintro e w1 ⟨rfl, rfl⟩; exact ⟨rfl, Below.refl _ _⟩)
def SpO (x y : Int) (u : Value) (w : World) : Prop := ∃ b, u = .slice (some ⟨b, 0, none⟩) 2 2 ∧ b < w.heap.size ∧ w.cell? ⟨b, 0, none⟩ = some (.int .i64 x) ∧ w.cell? ⟨b, 1, none⟩ = some (.int .i64 y)
theorem SpO.mono {x y : Int} {w w' : World} (ht : Below w.heap.size w w') : ∀ u, SpO x y u w → SpO x y u w' := fun u ⟨b, h1, h2, h3, h4⟩ =>
  ⟨b, h1, Nat.lt_of_lt_of_le h2 ht.size, (ht.cell (p := ⟨b, 0, none⟩) h2).trans h3, (ht.cell (p := ⟨b, 1, none⟩) h2).trans h4⟩
set_option maxRecDepth 100000 in
set_option maxHeartbeats 4000000 in
theorem byMS_any (x0 y0 x1 y1 : Int) (w : World) : Calls Tryz.prog 55 #[.agg #[.int .i64 x0, .int .i64 x1], .agg #[.int .i64 y0, .int .i64 y1]] w fun e w' => e = .returned (.int .i64 (orM (cmp3 x0 y0) (cmp3 x1 y1))) ∧ Below w.heap.size w w' := by
  obtain ⟨w1, hw1⟩ : ∃ w1, w1 = w.alloc (.cells #[.int .i64 x0, .int .i64 x1] 44) := ⟨_, rfl⟩
  obtain ⟨w2, hw2⟩ : ∃ w2, w2 = w1.alloc (.cells #[.int .i64 y0, .int .i64 y1] 44) := ⟨_, rfl⟩
  obtain ⟨bx, hbx⟩ : ∃ bx, bx = w.heap.size := ⟨_, rfl⟩
  obtain ⟨bz, hbz⟩ : ∃ bz, bz = w.heap.size + 1 := ⟨_, rfl⟩
  have hs1 : w1.heap.size = w.heap.size + 1 := by rw [hw1]; exact Array.size_push _
  have hb1 : Below w.heap.size w w1 := by rw [hw1]; exact (Below.refl _ _).alloc (Nat.le_refl _) _
  have hb2 : Below w1.heap.size w1 w2 := by rw [hw2]; exact (Below.refl _ _).alloc (Nat.le_refl _) _
  have hx1 : w1.heap[bx]? = some (.cells #[.int .i64 x0, .int .i64 x1] 44 (0, 0)) := by rw [hw1, hbx]; exact heap_alloc_new w _
  have HY2 := Lib.hid (show w2.heap[bz]? = some (.cells #[.int .i64 y0, .int .i64 y1] 44 (0, 0)) from by rw [hw2, hbz, ← hs1]; exact heap_alloc_new w1 _)
  have HX2 := Lib.hid ((hb2.block bx (Array.getElem?_eq_some_iff.1 hx1).1).trans hx1)
  have HB2 := Lib.hid (hb1.trans (hb2.mono hb1.size))
  have HLX := Lib.hid (Array.getElem?_eq_some_iff.1 HX2.out).1
  have HLY := Lib.hid (Array.getElem?_eq_some_iff.1 HY2.out).1
  have HW1 := Lib.hid hw1
  have HW2 := Lib.hid hw2
  have HBX := Lib.hid hbx
  have HBZ0 := Lib.hid hbz
  clear hs1 hb1 hb2 hx1 hw1 hw2 hbx hbz
  go_enter Tryz.func55, Tryz.ntmps55
  go_upto_region 1 with fail
  rw [← HW1.out, ← HW2.out, ← HBZ0.out, ← HBX.out]
  refine wp_region_fillC (by kernel_rfl) (by kernel_rfl) (by kernel_rfl) (Below w2.heap.size w2) (FV (fun j_9 => match j_9 with | 0 => some (.agg #[.int .i64 x0, .int .i64 x1]) | 1 => some (.agg #[.int .i64 y0, .int .i64 y1]) | 2 => some (.int .i64 (cmp3 x0 y0)) | 3 => some (.pointer (some ⟨bx, 1, none⟩)) | 4 => some (.int .i64 x1) | 5 => some (.pointer (some ⟨bz, 1, none⟩)) | 6 => some (.int .i64 y1) | 7 => some (.int .i64 (cmp3 x1 y1)) | 9 => some (.int .i64 (orM (cmp3 x0 y0) (cmp3 x1 y1))) | 10 => some (.int .i64 (orM (cmp3 x0 y0) (cmp3 x1 y1))) | _ => none) (SpO (cmp3 x0 y0) (cmp3 x1 y1))) FV.kn (Below.refl _ _).drew ?_ ?_
  · refine ⟨?_, ?_, ?_, ?_, ?_, ?_, ?_, ?_, ?_, ?_, ?_, trivial⟩
    all_goals
      intro V w9 K hJ hdep hkn hK
      have HJ := Lib.hid hJ
      simp [KnC, Region.binds] at hkn
    rotate_left 2
    · clear hdep hJ
      simp only [fill, slotOf, List.size_toArray, List.length_cons, List.length_nil, Nat.reduceAdd, List.getElem?_toArray, List.getElem?_cons_zero, List.getElem?_cons_succ, Option.bind_some, Act.put, List.setIfInBounds_toArray, List.set_cons_zero, List.set_cons_succ] at hK ⊢
      try simp only [hkn] at hK ⊢
      go_simp
      refine (byM_any x0 y0 x1 y1 w9).mono ?_
      rintro e w8 ⟨rfl, hb8⟩
      exact hK (.int .i64 (cmp3 x0 y0)) _ (HJ.out.trans (hb8.mono HJ.out.size)) rfl (FV.mono (SpO.mono hb8)) _ rfl
    rotate_left 4
    · clear hdep hJ
      simp only [fill, slotOf, List.size_toArray, List.length_cons, List.length_nil, Nat.reduceAdd, List.getElem?_toArray, List.getElem?_cons_zero, List.getElem?_cons_succ, Option.bind_some, Act.put, List.setIfInBounds_toArray, List.set_cons_zero, List.set_cons_succ] at hK ⊢
      try simp only [hkn] at hK ⊢
      go_simp
      refine (cmpIb_any x1 y1 w9).mono ?_
      rintro e w8 ⟨rfl, hb8⟩
      exact hK (.int .i64 (cmp3 x1 y1)) _ (HJ.out.trans (hb8.mono HJ.out.size)) rfl (FV.mono (SpO.mono hb8)) _ rfl
    · clear hdep hJ
      simp only [fill, slotOf, List.size_toArray, List.length_cons, List.length_nil, Nat.reduceAdd, List.getElem?_toArray, List.getElem?_cons_zero, List.getElem?_cons_succ, Option.bind_some, Act.put, List.setIfInBounds_toArray, List.set_cons_zero, List.set_cons_succ] at hK ⊢
      try simp only [hkn] at hK ⊢
      go_simp
      have hn9 := heap_alloc_new w9 (.cells #[.int .i64 (cmp3 x0 y0), .int .i64 (cmp3 x1 y1)] 3)
      exact hK (.slice (some ⟨w9.heap.size, 0, none⟩) 2 2) _ (HJ.out.alloc HJ.out.size _) ⟨w9.heap.size, rfl, (Array.getElem?_eq_some_iff.1 hn9).1, cell_blk hn9 rfl, cell_blk hn9 rfl⟩ (FV.mono (SpO.mono ((Below.refl _ w9).alloc (Nat.le_refl _) _))) _ rfl
    · obtain ⟨b8, eV8, hl8, h08, h18⟩ : ∃ b, V 8 = .slice (some ⟨b, 0, none⟩) 2 2 ∧ b < w9.heap.size ∧ w9.cell? ⟨b, 0, none⟩ = some (.int .i64 (cmp3 x0 y0)) ∧ w9.cell? ⟨b, 1, none⟩ = some (.int .i64 (cmp3 x1 y1)) := hdep ⟨8, .data⟩ (by simp) rfl
      have HO8 := Lib.hid (or2Mb_any h08 h18)
      clear hdep hJ h08 h18
      simp only [fill, slotOf, List.size_toArray, List.length_cons, List.length_nil, Nat.reduceAdd, List.getElem?_toArray, List.getElem?_cons_zero, List.getElem?_cons_succ, Option.bind_some, Act.put, List.setIfInBounds_toArray, List.set_cons_zero, List.set_cons_succ] at hK ⊢
      try simp only [hkn] at hK ⊢
      rw [eV8] at hK ⊢
      go_simp
      refine (HO8.out).mono ?_
      rintro e w8 ⟨rfl, hb8⟩
      exact hK (.int .i64 (orM (cmp3 x0 y0) (cmp3 x1 y1))) _ (HJ.out.trans (hb8.mono HJ.out.size)) rfl (FV.mono (SpO.mono hb8)) _ rfl
    rotate_left
    all_goals
      have cx0 : w9.cell? ⟨bx, 0, none⟩ = some (.int .i64 x0) := (hJ.cell (p := ⟨bx, 0, none⟩) HLX.out).trans (cell_blk HX2.out (i := 0) (u := .int .i64 x0) rfl)
      have cx1 : w9.cell? ⟨bx, 1, none⟩ = some (.int .i64 x1) := (hJ.cell (p := ⟨bx, 1, none⟩) HLX.out).trans (cell_blk HX2.out (i := 1) (u := .int .i64 x1) rfl)
      have cy0 : w9.cell? ⟨bz, 0, none⟩ = some (.int .i64 y0) := (hJ.cell (p := ⟨bz, 0, none⟩) HLY.out).trans (cell_blk HY2.out (i := 0) (u := .int .i64 y0) rfl)
      have cy1 : w9.cell? ⟨bz, 1, none⟩ = some (.int .i64 y1) := (hJ.cell (p := ⟨bz, 1, none⟩) HLY.out).trans (cell_blk HY2.out (i := 1) (u := .int .i64 y1) rfl)
      clear hdep hJ
      simp only [fill, slotOf, List.size_toArray, List.length_cons, List.length_nil, Nat.reduceAdd, List.getElem?_toArray, List.getElem?_cons_zero, List.getElem?_cons_succ, Option.bind_some, Act.put, List.setIfInBounds_toArray, List.set_cons_zero, List.set_cons_succ] at hK ⊢
      try simp only [hkn] at hK ⊢
      go_simp
      exact hK _ _ HJ.out rfl (fun j y h => h) _ rfl
  · intro V w9 hJ hall
    have dL : V 10 = .int .i64 (orM (cmp3 x0 y0) (cmp3 x1 y1)) := hall 10 (by decide)
    have HJ9 := Lib.hid hJ
    clear hall hJ
    simp only [fill, slotOf, List.size_toArray, List.length_cons, List.length_nil, Nat.reduceAdd, List.getElem?_toArray, List.getElem?_cons_zero, List.getElem?_cons_succ, Option.bind_some, Act.put, List.setIfInBounds_toArray, List.set_cons_zero, List.set_cons_succ]
    rw [dL]
    clear dL
    have HBZ := Lib.hid (HB2.out.trans (HJ9.out.mono HB2.out.size))
    go_wp2_with fail
    go_ret
    exact ⟨rfl, HBZ.out⟩
end Go.Proofs.YtadfmenlpnibnaaGreat
end PkMS5_3
section PkMS5_4
/- Marks that rise by maker and number, and are right. Written by genapmr.py. -/
namespace Go.Proofs.YtadfmenlpnibnaaGreat
open Go.RowKit LabPlain
set_option linter.unusedVariables false


set_option maxRecDepth 100000 in
set_option maxHeartbeats 8000000 in
theorem rising_anyMS {w : World} {a : Option Addr} {n c : Nat} {l : List (Int × Int)} (h : VecAt MarkS w a n c l) {mb : Nat} (p : (Int × Int) → Bool)
    (hR : ∀ (W : World) (z : (Int × Int)), z ∈ l → Below w.heap.size w W → MarkS.ok W z → Calls Tryz.prog 46 #[.agg #[.int .i64 z.1, .int .i64 z.2]] W fun e w' => e = .returned (.bool (p z)) ∧ Below W.heap.size W w') :
    Calls Tryz.prog 45 #[.slice a n c, .func (.func 55) #[] #[], .func (.func 46) #[] #[]] w fun e w' => RisIs p (fun a b => orM (cmp3 a.1 b.1) (cmp3 a.2 b.2)) MarkS.z l n e ∧ Below w.heap.size w w' := by
  have hcap := h.cap
  have hcm := h.capm
  have HH := Lib.hid h
  have HL := Lib.hid h.len
  have HR := Lib.hid hR
  clear h hR
  go_enter Tryz.func45, Tryz.ntmps45
  go_wp2_with fail
  go_loopw [7, 8, 11] (fun _ _ s11 wr => ∃ k : Nat, k ≤ n ∧ s11 = .int .i64 (k : Int) ∧ Hid (RisOk p (fun a b => orM (cmp3 a.1 b.1) (cmp3 a.2 b.2)) MarkS.z l k) ∧ Hid (Below w.heap.size w wr)) (fun _ _ s11 _ => n - (intOf s11).toNat)
  case atStart => exact ⟨0, by omega, rfl, Lib.hid (fun j hj => by omega), Lib.hid (Below.refl _ _)⟩
  case round =>
    obtain ⟨k, hk, rfl, HOK, HB⟩ := hrel
    rename World => wr
    by_cases hkn : k < n
    · have hki : (k : Int) < (n : Int) := by omega
      obtain ⟨sb, so, rfl, hsl, hok, hsc9⟩ := (HH.out.kept HB.out).get hkn
      obtain ⟨s, hse⟩ : ∃ s, s = l.getD k MarkS.z := ⟨_, rfl⟩
      obtain ⟨r, hre⟩ : ∃ r, r = l.getD (k - 1) MarkS.z := ⟨_, rfl⟩
      rw [← hse] at hsc9 hok
      have HSE := Lib.hid hse
      have HRE := Lib.hid hre
      have HSL := Lib.hid hsl
      have HSY := Lib.hid (show ∀ j u, (MarkS.f r)[j]? = some u → wr.cell? ⟨sb, so + (k - 1) * 2 + j, none⟩ = some u from by
        obtain ⟨sb2, so2, e2, _, _, hy⟩ := (HH.out.kept HB.out).get (show k - 1 < n by omega)
        cases e2
        rw [← hre] at hy
        exact hy)
      obtain ⟨x0, x1⟩ := s
      obtain ⟨y0, y1⟩ := r
      have d0 : wr.cell? ⟨sb, so + k * 2, none⟩ = some (.int .i64 x0) := hsc9 0 _ rfl
      have d1 : wr.cell? ⟨sb, so + k * 2 + 1, none⟩ = some (.int .i64 x1) := hsc9 1 _ rfl
      have HXA := Lib.hid (heap_alloc_new wr (.cells #[.int .i64 x0, .int .i64 x1] 44))
      have HXL := Lib.hid ((Array.getElem?_eq_some_iff.1 (heap_alloc_new wr (.cells #[.int .i64 x0, .int .i64 x1] 44))).1)
      have HAL := Lib.hid (show Below w.heap.size w (wr.alloc (.cells #[.int .i64 x0, .int .i64 x1] 44)) from HB.out.alloc HB.out.size _)
      obtain ⟨bx, hbx⟩ : ∃ bx, bx = p (x0, x1) := ⟨_, rfl⟩
      have HBX := Lib.hid hbx
      have HSLA := Lib.hid (show sb < (wr.alloc (.cells #[.int .i64 x0, .int .i64 x1] 44)).heap.size from Nat.lt_of_lt_of_le hsl ((Below.refl wr.heap.size wr).alloc (Nat.le_refl _) _).size)
      have HSYA := Lib.hid (show ∀ j u, (MarkS.f (y0, y1))[j]? = some u → (wr.alloc (.cells #[.int .i64 x0, .int .i64 x1] 44)).cell? ⟨sb, so + (k - 1) * 2 + j, none⟩ = some u from fun j u hu => (((Below.refl wr.heap.size wr).alloc (Nat.le_refl _) (.cells #[.int .i64 x0, .int .i64 x1] 44)).cell (p := ⟨sb, so + (k - 1) * 2 + j, none⟩) hsl).trans (HSY.out j u hu))
      have HOKX := Lib.hid (MarkS.mono ((Below.refl wr.heap.size wr).alloc (Nat.le_refl _) (.cells #[.int .i64 x0, .int .i64 x1] 44)) hok)
      have HRX := Lib.hid (show ∀ W9, Below (wr.alloc (.cells #[.int .i64 x0, .int .i64 x1] 44)).heap.size (wr.alloc (.cells #[.int .i64 x0, .int .i64 x1] 44)) W9 → Calls Tryz.prog 46 #[.agg #[.int .i64 x0, .int .i64 x1]] W9 fun e w' => e = .returned (.bool bx) ∧ Below W9.heap.size W9 w' from fun W9 hB => by
        rw [hbx]
        exact HR.out W9 (x0, x1) (by rw [hse]; exact vec_mem (S := MarkS) (by rw [HL.out]; exact hkn)) (HAL.out.trans (hB.mono HAL.out.size)) (MarkS.mono hB HOKX.out))
      clear hsc9 hse hre hsl hok HSL HSY
      have HSL := HSLA
      have HSY := HSYA
      clear HSLA HSYA
      go_wp2_with fail
      cases bx with
      | false =>
        have HNO := Lib.hid (RisIs.no (p := p) (cm := fun a b => orM (cmp3 a.1 b.1) (cmp3 a.2 b.2)) (d := MarkS.z) (l := l) hkn (fun g => by have h1 := g.1; rw [← HSE.out, ← HBX.out] at h1; cases h1))
        clear hbx
        refine wp_region_fillC (by kernel_rfl) (by kernel_rfl) (by kernel_rfl) (Below (wr.alloc (.cells #[.int .i64 x0, .int .i64 x1] 44)).heap.size (wr.alloc (.cells #[.int .i64 x0, .int .i64 x1] 44))) (FV (fun j_9 => match j_9 with | 0 => some (.func (.func 46) #[] #[]) | 1 => some (.agg #[.int .i64 x0, .int .i64 x1]) | 2 => some (.bool false) | 3 => some (.bool true) | 4 => some (.bool true) | 5 => some (undef) | 6 => some (undef) | 7 => some (undef) | 8 => some (undef) | 9 => some (undef) | 10 => some (undef) | 11 => some (undef) | 12 => some (undef) | 13 => some (undef) | 14 => some (undef) | 15 => some (undef) | 16 => some (undef) | 17 => some (undef) | 18 => some (.bool true) | _ => none) (fun _ _ => True)) FV.kn (Below.refl _ _).drew ?_ ?_
        · refine ⟨?_, ?_, ?_, ?_, ?_, ?_, ?_, ?_, ?_, ?_, ?_, ?_, ?_, ?_, ?_, ?_, ?_, ?_, ?_, trivial⟩
          all_goals
            intro V w9 K hJ hdep hkn hK
            have HJ := Lib.hid hJ
            simp [KnC, Region.binds] at hkn
          rotate_left 2
          · clear hdep hJ
            simp only [fill, slotOf, List.size_toArray, List.length_cons, List.length_nil, Nat.reduceAdd, List.getElem?_toArray, List.getElem?_cons_zero, List.getElem?_cons_succ, Option.bind_some, Act.put, List.setIfInBounds_toArray, List.set_cons_zero, List.set_cons_succ] at hK ⊢
            try simp only [hkn] at hK ⊢
            go_simp
            refine (HRX.out w9 HJ.out).mono ?_
            rintro e w8 ⟨rfl, hb8⟩
            exact hK (.bool false) _ (HJ.out.trans (hb8.mono HJ.out.size)) rfl (FV.mono ((fun _ _ _ => trivial) hb8)) _ rfl
          rotate_left 16
          all_goals
            have e0 : w9.cell? ⟨wr.heap.size, 0, none⟩ = some (.int .i64 x0) := (hJ.cell (p := ⟨wr.heap.size, 0, none⟩) HXL.out).trans (cell_blk HXA.out rfl)
            have e1 : w9.cell? ⟨wr.heap.size, 1, none⟩ = some (.int .i64 x1) := (hJ.cell (p := ⟨wr.heap.size, 1, none⟩) HXL.out).trans (cell_blk HXA.out rfl)
            clear hdep hJ
            simp only [fill, slotOf, List.size_toArray, List.length_cons, List.length_nil, Nat.reduceAdd, List.getElem?_toArray, List.getElem?_cons_zero, List.getElem?_cons_succ, Option.bind_some, Act.put, List.setIfInBounds_toArray, List.set_cons_zero, List.set_cons_succ] at hK ⊢
            try simp only [hkn] at hK ⊢
            go_simp
            exact hK _ _ HJ.out rfl (fun j y h => h) _ rfl
        · intro V w9 hJ hall
          have dL : V 18 = .bool true := hall 18 (by decide)
          have HJ9 := Lib.hid hJ
          clear hall hJ
          simp only [fill, slotOf, List.size_toArray, List.length_cons, List.length_nil, Nat.reduceAdd, List.getElem?_toArray, List.getElem?_cons_zero, List.getElem?_cons_succ, Option.bind_some, Act.put, List.setIfInBounds_toArray, List.set_cons_zero, List.set_cons_succ]
          rw [dL]
          clear dL
          have HBZ := Lib.hid (HAL.out.trans (HJ9.out.mono HAL.out.size))
          go_wp2_with fail
          go_ret
          exact ⟨HNO.out, HBZ.out⟩
      | true =>
        by_cases hk0 : k = 0
        · subst hk0
          have HOK2 := Lib.hid (HOK.out.succ (by rw [← HSE.out, ← HBX.out]) (fun g => absurd g (Nat.lt_irrefl 0)))
          clear hbx
          refine wp_region_fillC (by kernel_rfl) (by kernel_rfl) (by kernel_rfl) (Below (wr.alloc (.cells #[.int .i64 x0, .int .i64 x1] 44)).heap.size (wr.alloc (.cells #[.int .i64 x0, .int .i64 x1] 44))) (FV (fun j_9 => match j_9 with | 0 => some (.func (.func 46) #[] #[]) | 1 => some (.agg #[.int .i64 x0, .int .i64 x1]) | 2 => some (.bool true) | 3 => some (.bool false) | 4 => some (.bool false) | 5 => some (.int .i64 0) | 6 => some (.bool false) | 7 => some (.bool false) | 8 => some (undef) | 9 => some (undef) | 10 => some (undef) | 11 => some (undef) | 12 => some (undef) | 13 => some (undef) | 14 => some (undef) | 15 => some (undef) | 16 => some (undef) | 17 => some (.bool false) | 18 => some (.bool false) | _ => none) (fun _ _ => True)) FV.kn (Below.refl _ _).drew ?_ ?_
          · refine ⟨?_, ?_, ?_, ?_, ?_, ?_, ?_, ?_, ?_, ?_, ?_, ?_, ?_, ?_, ?_, ?_, ?_, ?_, ?_, trivial⟩
            all_goals
              intro V w9 K hJ hdep hkn hK
              have HJ := Lib.hid hJ
              simp [KnC, Region.binds] at hkn
            rotate_left 2
            · clear hdep hJ
              simp only [fill, slotOf, List.size_toArray, List.length_cons, List.length_nil, Nat.reduceAdd, List.getElem?_toArray, List.getElem?_cons_zero, List.getElem?_cons_succ, Option.bind_some, Act.put, List.setIfInBounds_toArray, List.set_cons_zero, List.set_cons_succ] at hK ⊢
              try simp only [hkn] at hK ⊢
              go_simp
              refine (HRX.out w9 HJ.out).mono ?_
              rintro e w8 ⟨rfl, hb8⟩
              exact hK (.bool true) _ (HJ.out.trans (hb8.mono HJ.out.size)) rfl (FV.mono ((fun _ _ _ => trivial) hb8)) _ rfl
            rotate_left 16
            all_goals
              have e0 : w9.cell? ⟨wr.heap.size, 0, none⟩ = some (.int .i64 x0) := (hJ.cell (p := ⟨wr.heap.size, 0, none⟩) HXL.out).trans (cell_blk HXA.out rfl)
              have e1 : w9.cell? ⟨wr.heap.size, 1, none⟩ = some (.int .i64 x1) := (hJ.cell (p := ⟨wr.heap.size, 1, none⟩) HXL.out).trans (cell_blk HXA.out rfl)
              clear hdep hJ
              simp only [fill, slotOf, List.size_toArray, List.length_cons, List.length_nil, Nat.reduceAdd, List.getElem?_toArray, List.getElem?_cons_zero, List.getElem?_cons_succ, Option.bind_some, Act.put, List.setIfInBounds_toArray, List.set_cons_zero, List.set_cons_succ] at hK ⊢
              try simp only [hkn] at hK ⊢
              go_simp
              exact hK _ _ HJ.out rfl (fun j y h => h) _ rfl
          · intro V w9 hJ hall
            have dL : V 18 = .bool false := hall 18 (by decide)
            have HJ9 := Lib.hid hJ
            clear hall hJ
            simp only [fill, slotOf, List.size_toArray, List.length_cons, List.length_nil, Nat.reduceAdd, List.getElem?_toArray, List.getElem?_cons_zero, List.getElem?_cons_succ, Option.bind_some, Act.put, List.setIfInBounds_toArray, List.set_cons_zero, List.set_cons_succ]
            rw [dL]
            clear dL
            have HBZ := Lib.hid (HAL.out.trans (HJ9.out.mono HAL.out.size))
            go_wp2_with fail
            go_roundw
            case rel => exact ⟨1, by omega, rfl, HOK2, HBZ⟩
            case measure => simp [intOf]; try omega
        · obtain ⟨j, rfl⟩ : ∃ j, k = j + 1 := ⟨k - 1, by omega⟩
          have HSYJ := Lib.hid HSY.out
          simp only [Nat.add_sub_cancel] at HSYJ
          clear HSY
          have HSY := HSYJ
          clear HSYJ
          obtain ⟨zz, hzz⟩ : ∃ zz, zz = orM (cmp3 y0 x0) (cmp3 y1 x1) := ⟨_, rfl⟩
          have HCM := Lib.hid (show ∀ W9, Calls Tryz.prog 55 #[.agg #[.int .i64 y0, .int .i64 y1], .agg #[.int .i64 x0, .int .i64 x1]] W9 fun e w' => e = .returned (.int .i64 zz) ∧ Below W9.heap.size W9 w' from fun W9 => by rw [hzz]; exact byMS_any y0 x0 y1 x1 W9)
          by_cases hge : zz ≥ 0
          · have HZ := Lib.hid (show decide (zz ≥ 0) = true from decide_eq_true hge)
            have HNO := Lib.hid (RisIs.no (p := p) (cm := fun a b => orM (cmp3 a.1 b.1) (cmp3 a.2 b.2)) (d := MarkS.z) (l := l) hkn (fun g => by have h1 := g.2 (by omega); rw [← HSE.out, ← HRE.out] at h1; have h2 : orM (cmp3 y0 x0) (cmp3 y1 x1) < 0 := h1; rw [← hzz] at h2; omega))
            clear hbx hzz hge
            refine wp_region_fillC (by kernel_rfl) (by kernel_rfl) (by kernel_rfl) (Below (wr.alloc (.cells #[.int .i64 x0, .int .i64 x1] 44)).heap.size (wr.alloc (.cells #[.int .i64 x0, .int .i64 x1] 44))) (FV (fun j_9 => match j_9 with | 0 => some (.func (.func 46) #[] #[]) | 1 => some (.agg #[.int .i64 x0, .int .i64 x1]) | 2 => some (.bool true) | 3 => some (.bool false) | 4 => some (.bool false) | 5 => some (.int .i64 ((j : Int) + 1)) | 6 => some (.bool true) | 7 => some (.bool true) | 8 => some (.func (.func 55) #[] #[]) | 9 => some (.slice (some ⟨sb, so, none⟩) n c) | 10 => some (.int .i64 ((j : Int) + 1)) | 11 => some (.int .i64 (j : Int)) | 12 => some (.pointer (some ⟨sb, so + j * 2, none⟩)) | 13 => some (.agg #[.int .i64 y0, .int .i64 y1]) | 14 => some (.agg #[.int .i64 x0, .int .i64 x1]) | 15 => some (.int .i64 zz) | 16 => some (.bool true) | 17 => some (.bool true) | 18 => some (.bool true) | _ => none) (fun _ _ => True)) FV.kn (Below.refl _ _).drew ?_ ?_
            · refine ⟨?_, ?_, ?_, ?_, ?_, ?_, ?_, ?_, ?_, ?_, ?_, ?_, ?_, ?_, ?_, ?_, ?_, ?_, ?_, trivial⟩
              all_goals
                intro V w9 K hJ hdep hkn hK
                have HJ := Lib.hid hJ
                simp [KnC, Region.binds] at hkn
              rotate_left 2
              · clear hdep hJ
                simp only [fill, slotOf, List.size_toArray, List.length_cons, List.length_nil, Nat.reduceAdd, List.getElem?_toArray, List.getElem?_cons_zero, List.getElem?_cons_succ, Option.bind_some, Act.put, List.setIfInBounds_toArray, List.set_cons_zero, List.set_cons_succ] at hK ⊢
                try simp only [hkn] at hK ⊢
                go_simp
                refine (HRX.out w9 HJ.out).mono ?_
                rintro e w8 ⟨rfl, hb8⟩
                exact hK (.bool true) _ (HJ.out.trans (hb8.mono HJ.out.size)) rfl (FV.mono ((fun _ _ _ => trivial) hb8)) _ rfl
              rotate_left 12
              · clear hdep hJ
                simp only [fill, slotOf, List.size_toArray, List.length_cons, List.length_nil, Nat.reduceAdd, List.getElem?_toArray, List.getElem?_cons_zero, List.getElem?_cons_succ, Option.bind_some, Act.put, List.setIfInBounds_toArray, List.set_cons_zero, List.set_cons_succ] at hK ⊢
                try simp only [hkn] at hK ⊢
                go_simp
                refine (HCM.out w9).mono ?_
                rintro e w8 ⟨rfl, hb8⟩
                exact hK (.int .i64 zz) _ (HJ.out.trans (hb8.mono HJ.out.size)) rfl (FV.mono ((fun _ _ _ => trivial) hb8)) _ rfl
              rotate_left 3
              all_goals
                have e0 : w9.cell? ⟨wr.heap.size, 0, none⟩ = some (.int .i64 x0) := (hJ.cell (p := ⟨wr.heap.size, 0, none⟩) HXL.out).trans (cell_blk HXA.out rfl)
                have e1 : w9.cell? ⟨wr.heap.size, 1, none⟩ = some (.int .i64 x1) := (hJ.cell (p := ⟨wr.heap.size, 1, none⟩) HXL.out).trans (cell_blk HXA.out rfl)
                have hk9 : decide ((j : Int) + 1 > 0) = true := decide_eq_true (by omega)
                have hw1 : IntKind.i64.wrap (j : Int) = (j : Int) := IntWalk.i64_in _ (by omega)
                have hw2 : IntKind.i64.wrap ((j : Int) + 1 - 1) = (j : Int) := by rw [Int.add_sub_cancel]; exact hw1
                have hjn : j < n := by omega
                have hjn2 : (j : Int) < (n : Int) := by omega
                have u0 : w9.cell? ⟨sb, so + j * 2, none⟩ = some (.int .i64 y0) := (hJ.cell (p := ⟨sb, so + j * 2 + 0, none⟩) HSL.out).trans (HSY.out 0 _ rfl)
                have u1 : w9.cell? ⟨sb, so + j * 2 + 1, none⟩ = some (.int .i64 y1) := (hJ.cell (p := ⟨sb, so + j * 2 + 1, none⟩) HSL.out).trans (HSY.out 1 _ rfl)
                have hz9 : decide (zz ≥ 0) = true := HZ.out
                clear hdep hJ
                simp only [fill, slotOf, List.size_toArray, List.length_cons, List.length_nil, Nat.reduceAdd, List.getElem?_toArray, List.getElem?_cons_zero, List.getElem?_cons_succ, Option.bind_some, Act.put, List.setIfInBounds_toArray, List.set_cons_zero, List.set_cons_succ] at hK ⊢
                try simp only [hkn] at hK ⊢
                go_simp
                exact hK _ _ HJ.out rfl (fun j y h => h) _ rfl
            · intro V w9 hJ hall
              have dL : V 18 = .bool true := hall 18 (by decide)
              have HJ9 := Lib.hid hJ
              clear hall hJ
              simp only [fill, slotOf, List.size_toArray, List.length_cons, List.length_nil, Nat.reduceAdd, List.getElem?_toArray, List.getElem?_cons_zero, List.getElem?_cons_succ, Option.bind_some, Act.put, List.setIfInBounds_toArray, List.set_cons_zero, List.set_cons_succ]
              rw [dL]
              clear dL
              have HBZ := Lib.hid (HAL.out.trans (HJ9.out.mono HAL.out.size))
              go_wp2_with fail
              go_ret
              exact ⟨HNO.out, HBZ.out⟩
          · have HZ := Lib.hid (show decide (zz ≥ 0) = false from decide_eq_false hge)
            have HOK2 := Lib.hid (HOK.out.succ (by rw [← HSE.out, ← HBX.out]) (fun _ => by rw [← HSE.out, ← HRE.out]; show orM (cmp3 y0 x0) (cmp3 y1 x1) < 0; rw [← hzz]; omega))
            clear hbx hzz hge
            refine wp_region_fillC (by kernel_rfl) (by kernel_rfl) (by kernel_rfl) (Below (wr.alloc (.cells #[.int .i64 x0, .int .i64 x1] 44)).heap.size (wr.alloc (.cells #[.int .i64 x0, .int .i64 x1] 44))) (FV (fun j_9 => match j_9 with | 0 => some (.func (.func 46) #[] #[]) | 1 => some (.agg #[.int .i64 x0, .int .i64 x1]) | 2 => some (.bool true) | 3 => some (.bool false) | 4 => some (.bool false) | 5 => some (.int .i64 ((j : Int) + 1)) | 6 => some (.bool true) | 7 => some (.bool true) | 8 => some (.func (.func 55) #[] #[]) | 9 => some (.slice (some ⟨sb, so, none⟩) n c) | 10 => some (.int .i64 ((j : Int) + 1)) | 11 => some (.int .i64 (j : Int)) | 12 => some (.pointer (some ⟨sb, so + j * 2, none⟩)) | 13 => some (.agg #[.int .i64 y0, .int .i64 y1]) | 14 => some (.agg #[.int .i64 x0, .int .i64 x1]) | 15 => some (.int .i64 zz) | 16 => some (.bool false) | 17 => some (.bool false) | 18 => some (.bool false) | _ => none) (fun _ _ => True)) FV.kn (Below.refl _ _).drew ?_ ?_
            · refine ⟨?_, ?_, ?_, ?_, ?_, ?_, ?_, ?_, ?_, ?_, ?_, ?_, ?_, ?_, ?_, ?_, ?_, ?_, ?_, trivial⟩
              all_goals
                intro V w9 K hJ hdep hkn hK
                have HJ := Lib.hid hJ
                simp [KnC, Region.binds] at hkn
              rotate_left 2
              · clear hdep hJ
                simp only [fill, slotOf, List.size_toArray, List.length_cons, List.length_nil, Nat.reduceAdd, List.getElem?_toArray, List.getElem?_cons_zero, List.getElem?_cons_succ, Option.bind_some, Act.put, List.setIfInBounds_toArray, List.set_cons_zero, List.set_cons_succ] at hK ⊢
                try simp only [hkn] at hK ⊢
                go_simp
                refine (HRX.out w9 HJ.out).mono ?_
                rintro e w8 ⟨rfl, hb8⟩
                exact hK (.bool true) _ (HJ.out.trans (hb8.mono HJ.out.size)) rfl (FV.mono ((fun _ _ _ => trivial) hb8)) _ rfl
              rotate_left 12
              · clear hdep hJ
                simp only [fill, slotOf, List.size_toArray, List.length_cons, List.length_nil, Nat.reduceAdd, List.getElem?_toArray, List.getElem?_cons_zero, List.getElem?_cons_succ, Option.bind_some, Act.put, List.setIfInBounds_toArray, List.set_cons_zero, List.set_cons_succ] at hK ⊢
                try simp only [hkn] at hK ⊢
                go_simp
                refine (HCM.out w9).mono ?_
                rintro e w8 ⟨rfl, hb8⟩
                exact hK (.int .i64 zz) _ (HJ.out.trans (hb8.mono HJ.out.size)) rfl (FV.mono ((fun _ _ _ => trivial) hb8)) _ rfl
              rotate_left 3
              all_goals
                have e0 : w9.cell? ⟨wr.heap.size, 0, none⟩ = some (.int .i64 x0) := (hJ.cell (p := ⟨wr.heap.size, 0, none⟩) HXL.out).trans (cell_blk HXA.out rfl)
                have e1 : w9.cell? ⟨wr.heap.size, 1, none⟩ = some (.int .i64 x1) := (hJ.cell (p := ⟨wr.heap.size, 1, none⟩) HXL.out).trans (cell_blk HXA.out rfl)
                have hk9 : decide ((j : Int) + 1 > 0) = true := decide_eq_true (by omega)
                have hw1 : IntKind.i64.wrap (j : Int) = (j : Int) := IntWalk.i64_in _ (by omega)
                have hw2 : IntKind.i64.wrap ((j : Int) + 1 - 1) = (j : Int) := by rw [Int.add_sub_cancel]; exact hw1
                have hjn : j < n := by omega
                have hjn2 : (j : Int) < (n : Int) := by omega
                have u0 : w9.cell? ⟨sb, so + j * 2, none⟩ = some (.int .i64 y0) := (hJ.cell (p := ⟨sb, so + j * 2 + 0, none⟩) HSL.out).trans (HSY.out 0 _ rfl)
                have u1 : w9.cell? ⟨sb, so + j * 2 + 1, none⟩ = some (.int .i64 y1) := (hJ.cell (p := ⟨sb, so + j * 2 + 1, none⟩) HSL.out).trans (HSY.out 1 _ rfl)
                have hz9 : decide (zz ≥ 0) = false := HZ.out
                clear hdep hJ
                simp only [fill, slotOf, List.size_toArray, List.length_cons, List.length_nil, Nat.reduceAdd, List.getElem?_toArray, List.getElem?_cons_zero, List.getElem?_cons_succ, Option.bind_some, Act.put, List.setIfInBounds_toArray, List.set_cons_zero, List.set_cons_succ] at hK ⊢
                try simp only [hkn] at hK ⊢
                go_simp
                exact hK _ _ HJ.out rfl (fun j y h => h) _ rfl
            · intro V w9 hJ hall
              have dL : V 18 = .bool false := hall 18 (by decide)
              have HJ9 := Lib.hid hJ
              clear hall hJ
              simp only [fill, slotOf, List.size_toArray, List.length_cons, List.length_nil, Nat.reduceAdd, List.getElem?_toArray, List.getElem?_cons_zero, List.getElem?_cons_succ, Option.bind_some, Act.put, List.setIfInBounds_toArray, List.set_cons_zero, List.set_cons_succ]
              rw [dL]
              clear dL
              have HBZ := Lib.hid (HAL.out.trans (HJ9.out.mono HAL.out.size))
              go_wp2_with fail
              go_roundw
              case rel => exact ⟨j + 1 + 1, by omega, by go_num, HOK2, HBZ⟩
              case measure => simp [intOf]; omega
    · obtain rfl : k = n := by omega
      have HY := Lib.hid (RisIs.yes HOK.out)
      clear hkn
      go_wp2_with fail
      go_ret
      exact ⟨HY.out, HB.out⟩
end Go.Proofs.YtadfmenlpnibnaaGreat
end PkMS5_4
