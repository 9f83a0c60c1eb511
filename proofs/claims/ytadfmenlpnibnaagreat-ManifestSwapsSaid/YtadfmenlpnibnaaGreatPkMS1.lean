/- Texts put together by packtpl2.py: Kit, ApSh, Gm, ByK, GmR, ByG, Twin, Own, Vec, LabPlain, MfA. -/
import Derived.Test.YtadfmenlpnibnaaGreatRows
import Derived.WalkKit
import Derived.Lib.Hide
import Derived.Laws.BytesArg
import Derived.Lib.SlBytesRow
import Derived.Outline
import Derived.Laws.Strings
import Derived.Laws.AppendOwnNone
import Derived.Shelf.Sort.Plain
import Derived.Shelf.Slices.In.SortNone
import Derived.Shelf.SlSortCmp.NoneTotal
import Derived.HandedShaped
import Derived.Maps.OwnSet
import Derived.Maps.Range
import Derived.Maps.Ext
import Derived.BigRegion
import Derived.Below
import Derived.Laws.RangeAny
import Derived.Laws.Cover1
import Derived.Maps.RangeWalk
import Derived.WalkSpells
import Derived.WalkSmall
import Derived.Deep.QuietTactic
import Derived.BigQuiet
import Derived.Deep.RegionHeld3
import Derived.Laws.BitsAllLaws
import Derived.Deep.Onto
import Derived.Deep.Slices
import Derived.Deep.Fields
import Derived.SizedLaws
import Derived.OpenShut
section PkMS1_0
/- Small words for walks over slices of bytes: a slice of bytes wherever it lies, kept behind calls that leave old memory alone; its text; two of them compared. No condition beyond what each lemma names. -/
namespace Go.Proofs.YtadfmenlpnibnaaGreat
open Go.RowKit
set_option linter.unusedVariables false

theorem info_u8 : (Tryz.prog.info? 5).map (fun i => (i.zero, i.size, i.bytes)) = some (some (.int .u8 0), 1, 1) := by kernel_rfl

/-- bytes as values -/
def bv (l : List Nat) : List Value := l.map fun (x : Nat) => Value.int .u8 (x : Int)
theorem bv_length (l : List Nat) : (bv l).length = l.length := by simp [bv]
theorem bv_append (l r : List Nat) : bv (l ++ r) = bv l ++ bv r := by simp [bv]
theorem bv_get (l : List Nat) (i : Nat) (h : i < l.length) : (bv l)[i]? = some (Value.int .u8 ((l.getD i 0 : Nat) : Int)) := by simp [bv, h]
theorem bv_oneCell (l : List Nat) : ∀ u ∈ bv l, u.oneCell' = true := by
  intro u hu
  simp only [bv, List.mem_map] at hu
  obtain ⟨x, _, rfl⟩ := hu
  rfl

theorem one_oneCell {v : Value} (h : v.oneCell' = true) : ∀ u ∈ [v], u.oneCell' = true := by
  intro u hu
  simp at hu
  subst hu
  exact h

theorem one_src (w : World) (x : Value) (t : TypeId) : ∀ j u, [x][j]? = some u → (w.alloc (.cells #[x] t)).cell? ((⟨w.heap.size, 0, none⟩ : Addr).add j) = some u := by
  intro j u hj
  match j, hj with
  | 0, hj =>
    simp at hj
    subst hj
    simp [Addr.add]

/-- a slice of bytes: whatever its address where it has none -/
structure BytesAt (w : World) (a : Option Addr) (n c : Nat) (xs : List Nat) : Prop where
  len : xs.length = n
  cap : n ≤ c
  byte : ∀ x ∈ xs, x < 256
  reach : n ≤ 140737488351232
  capm : c ≤ 9223372036854775807
  nl : a = none → c = 0
  cells : 0 < n → ∃ b off, a = some ⟨b, off, none⟩ ∧ b < w.heap.size ∧ ∀ i, i < n → w.cell? ⟨b, off + i, none⟩ = some (.int .u8 ((xs.getD i 0 : Nat) : Int))

theorem BytesAt.keep {w w' : World} {a : Option Addr} {n c : Nat} {xs : List Nat} (h : BytesAt w a n c xs) {B : Nat} (hb : Below B w w') (hB : w.heap.size ≤ B) : BytesAt w' a n c xs :=
  ⟨h.len, h.cap, h.byte, h.reach, h.capm, h.nl, fun hn => by
    obtain ⟨b, off, ha, hlt, hc⟩ := h.cells hn
    exact ⟨b, off, ha, Nat.lt_of_lt_of_le hlt hb.size, fun i hi => (hb.cell (p := ⟨b, off + i, none⟩) (Nat.lt_of_lt_of_le hlt hB)).trans (hc i hi)⟩⟩

theorem BytesAt.kept {w w' : World} {a : Option Addr} {n c : Nat} {xs : List Nat} (h : BytesAt w a n c xs) (hb : Below w.heap.size w w') : BytesAt w' a n c xs := h.keep hb (Nat.le_refl _)
theorem BytesAt.alloc {w : World} {a : Option Addr} {n c : Nat} {xs : List Nat} (h : BytesAt w a n c xs) (o : Obj) : BytesAt (w.alloc o) a n c xs := h.kept ((Below.refl _ _).alloc (Nat.le_refl _) o)

theorem BytesAt.empty (w : World) (a : Option Addr) (c : Nat) (hc : c ≤ 9223372036854775807) (ha : a = none → c = 0) : BytesAt w a 0 c [] :=
  ⟨rfl, Nat.zero_le _, (fun x hx => by cases hx), Nat.zero_le _, hc, ha, fun h => absurd h (Nat.lt_irrefl 0)⟩

theorem BytesAt.upto {w : World} {a : Option Addr} {n c : Nat} {xs : List Nat} (h : BytesAt w a n c xs) (k : Nat) (hk : k ≤ n) : BytesAt w a k c (xs.take k) := by
  have hl := h.len
  have hc := h.cap
  have hr := h.reach
  refine ⟨by simp; omega, by omega, fun x hx => h.byte x (List.mem_of_mem_take hx), by omega, h.capm, h.nl, fun hp => ?_⟩
  obtain ⟨b, off, ha, hlt, hcell⟩ := h.cells (by omega)
  refine ⟨b, off, ha, hlt, fun i hi => ?_⟩
  rw [hcell i (by omega)]
  have : i < xs.length := by omega
  simp [hi]

theorem BytesAt.src {w : World} {ad : Addr} {n c : Nat} {xs : List Nat} (h : BytesAt w (some ad) n c xs) : ∀ j u, (bv xs)[j]? = some u → w.cell? (ad.add j) = some u := by
  intro j u hj
  have hlt : j < xs.length := by
    rcases Nat.lt_or_ge j xs.length with g | g
    · exact g
    · rw [List.getElem?_eq_none (by rw [bv_length]; exact g)] at hj; cases hj
  have hl := h.len
  obtain ⟨b, off, ha, _, hc⟩ := h.cells (by omega)
  cases ha
  have h4 : (⟨b, off, none⟩ : Addr).add j = ⟨b, off + j, none⟩ := by unfold Addr.add; split <;> simp_all
  rw [h4, hc j (by omega), ← bv_get xs j hlt, hj]

/-- what the call owns -/
theorem BytesAt.own {w : World} {base n : Nat} {v : Value} {xs : List Nat} (h : w.ownsRow base 5 1 v n (bv xs)) (hb : ∀ x ∈ xs, x < 256) (hp : 0 < n) (hr : n ≤ 140737488351232) :
    ∃ g c, v = .slice (some ⟨g, 0, none⟩) n c ∧ base ≤ g ∧ g < w.heap.size ∧ BytesAt w (some ⟨g, 0, none⟩) n c xs := by
  rcases h.2 with ⟨_, h0⟩ | ⟨g, cap, cur, rfl, hg, hh, hn, hcap, hsz, htake⟩
  · omega
  · have hlt : g < w.heap.size := (Array.getElem?_eq_some_iff.1 hh).1
    have hl : xs.length = n := by have := h.1; simpa [bv_length] using this
    refine ⟨g, cap, rfl, hg, hlt, hl, hn, hb, hr, (by unfold maxLen at hcap; exact hcap), (fun e => by cases e), fun _ => ⟨g, 0, rfl, hlt, fun i hi => ?_⟩⟩
    have := h.cellAt i (by omega)
    rw [Nat.zero_add, this, bv_get _ _ (by omega)]

/-- bytes written out in a new block -/
theorem BytesAt.lit (w : World) (cs : Array Value) (l : List Nat) (hcs : cs.toList = bv l) (hl : ∀ x ∈ l, x < 256) (hp : 0 < l.length) (hr : l.length ≤ 140737488351232) :
    BytesAt (w.alloc (.cells cs 5)) (some ⟨w.heap.size, 0, none⟩) l.length l.length l := by
  have hsz : cs.size = l.length := by rw [← Array.length_toList, hcs, bv_length]
  have h := World.ownsRow_lit (base := w.heap.size) (e := 5) (size := 1) w cs l.length (Nat.le_refl _) (by unfold maxLen; omega) (by omega)
  rw [hcs] at h
  obtain ⟨g, c, hv, _, _, hb⟩ := BytesAt.own h hl hp hr
  simp only [Value.slice.injEq, Option.some.injEq, Addr.mk.injEq, and_true, true_and] at hv
  obtain ⟨rfl, rfl⟩ := hv
  exact hb

/-- append of bytes, wherever they lie, to bytes that the call owns -/
theorem wpList_append_bytes {w : World} {ops : Array Oper} {rest : List Oper} {o : Oper} {a : Act} {Q : Exit → Act → World → Prop} (hgd : o.guard = none) (s x : Operand)
    (ho : o.op = .call { callee := .builtin .append, args := #[s, x], argTypes := #[159, 159] })
    (base : Nat) (v : Value) (n : Nat) (xs : List Nat) (hs : a.eval s = v) (hown : w.ownsRow base 5 1 v n (bv xs))
    (src : Option Addr) (m c : Nat) (ys : List Nat) (hx : a.eval x = .slice src m c) (hb : BytesAt w src m c ys)
    (h63 : n + m ≤ 140737488355328) (hbase : base ≤ w.heap.size)
    (h : ∀ v' w', w'.ownsRow base 5 1 v' (n + m) (bv (xs ++ ys)) → w.grownBy w' v.ownBlock → wpList Tryz.prog ops Q rest (a.put o.dst v') w') : wpList Tryz.prog ops Q (o :: rest) a w := by
  obtain ⟨i0, hi, hz0, hz1, hz2⟩ := info_parts info_u8
  rcases src with _ | ad
  · have hc := hb.nl rfl
    have hm : m = 0 := by have := hb.cap; omega
    subst hm
    subst hc
    have hy : ys = [] := List.eq_nil_of_length_eq_zero hb.len
    subst hy
    refine wpList_append_own_none hgd s x 159 ho base 5 i0 1 Tryz.underlying159 hi v n (bv xs) hs hown hx ?_
    exact h v w (by simpa using hown) (World.grownBy.refl _ _)
  · refine wpList_append_own w hgd s x 159 ho base 5 i0 (.int .u8 0) 1 1 Tryz.underlying159 hi hz0 hz1 hz2 rfl (by decide) v n (bv xs) hs hown ad m c (bv ys) hx (by rw [bv_length, hb.len]; omega) hb.src (bv_oneCell _) (by unfold maxLen; omega) (by omega) hbase ?_
    intro v' w' h1 h2 _
    exact h v' w' (by rw [bv_append]; exact h1) h2

/-- the text of bytes -/
def bs (xs : List Nat) : ByteArray := strOfNums (xs.map fun (x : Nat) => (x : Int))

theorem bs_inj {xs ys : List Nat} (hx : ∀ x ∈ xs, x < 256) (hy : ∀ y ∈ ys, y < 256) (h : (bs xs).data.toList = (bs ys).data.toList) : xs = ys := by
  have e : ∀ l : List Nat, (∀ x ∈ l, x < 256) → (bs l).data.toList.map UInt8.toNat = l := by
    intro l hl
    simp only [bs, strOfNums_data, List.map_map]
    conv => rhs; rw [← List.map_id l]
    apply List.map_congr_left
    intro x hx
    have := hl x hx
    simp [Nat.mod_eq_of_lt this]
  rw [← e xs hx, ← e ys hy, h]

theorem bs_toList (xs : List Nat) : (bs xs).toList = (bs xs).data.toList := ByteArray.toList_eq _
theorem bs_eq {xs ys : List Nat} (hx : ∀ x ∈ xs, x < 256) (hy : ∀ y ∈ ys, y < 256) : ((bs xs).toList == (bs ys).toList) = (xs == ys) := by
  rw [Bool.eq_iff_iff]
  simp only [beq_iff_eq, bs_toList]
  exact ⟨fun h => bs_inj hx hy h, fun h => by rw [h]⟩

theorem BytesAt.conv {w : World} {a : Option Addr} {n c : Nat} {xs : List Nat} (h : BytesAt w a n c xs) :
    (convert 159 9 (.slice a n c)).run Tryz.prog w = .ok (.string (bs xs)) w := by
  rcases Nat.eq_zero_or_pos n with h0 | hp
  · subst h0
    have hx : xs = [] := List.eq_nil_of_length_eq_zero h.len
    subst hx
    rw [run_convert_bytes_string w 159 9 5 _ 0 c Tryz.underlying159 Tryz.underlying5 Tryz.underlying9]
    cases a <;> simp [Conv.bytesToString, loadCells] <;> rfl
  · obtain ⟨b, off, rfl, _, hc⟩ := h.cells hp
    exact run_convert_bytes_arg (P := Tryz.prog) w 159 5 Tryz.underlying159 Tryz.underlying5 b off n c (xs.map fun (x : Nat) => (x : Int)) (by simpa using h.len) (fun i hi => by
      rw [hc i hi]
      have : i < xs.length := by have := h.len; omega
      simp [this]) 9 Tryz.underlying9


/-- what a walk is told of a slice of integers that came in: nil; or it leads to a row of 'cap' cells, the numbers 'zs', each fitting its kind; it takes at most the reach -/
def IsRow (k : IntKind) (sz : Nat) (w : World) (a : Option Addr) (len cap : Nat) (zs : List Int) : Prop :=
  (a = none ∧ len = 0 ∧ cap = 0 ∧ zs = []) ∨
  ∃ x, a = some x ∧ len ≤ cap ∧ cap ≤ maxLen ∧ zs.length = cap ∧ (∀ i, i < zs.length → w.cell? (x.add i) = some (.int k (zs.getD i 0))) ∧ (∀ n ∈ zs, (Lit.int k n).wf = true) ∧ cap * sz ≤ 140737488351232

theorem byte_of_wf {n : Int} (h : (Lit.int .u8 n).wf = true) : 0 ≤ n ∧ n ≤ 255 := by
  simpa [Lit.wf, IntKind.min, IntKind.max, IntKind.signed, IntKind.bits] using h

theorem IsRow.bytes {w : World} {a : Option Addr} {len cap : Nat} {zs : List Int} (h : IsRow .u8 1 w a len cap zs) : ∃ xs : List Nat, BytesAt w a len cap xs := by
  rcases h with ⟨rfl, rfl, rfl, rfl⟩ | ⟨x, rfl, hl, hm, hz, hcell, hwz, hr⟩
  · exact ⟨[], BytesAt.empty w none 0 (by omega) (fun _ => rfl)⟩
  · refine ⟨(zs.take len).map Int.toNat, by simp; omega, hl, ?_, by omega, by omega, (fun e => by cases e), fun hp => ?_⟩
    · intro y hy
      simp only [List.mem_map] at hy
      obtain ⟨z, hzm, rfl⟩ := hy
      have := byte_of_wf (hwz z (List.mem_of_mem_take hzm))
      omega
    · obtain ⟨b, off, spot⟩ := x
      have hc := hcell 0 (by omega)
      have hspot : spot = none := by simpa [Addr.add] using World.cell?_spot hc
      subst hspot
      refine ⟨b, off, rfl, ?_, fun i hi => ?_⟩
      · have := World.block_lt_of_cell? w _ hc
        simpa [Addr.add] using this
      · have h1 := hcell i (by omega)
        have h2 : i < zs.length := by omega
        have h3 := byte_of_wf (hwz zs[i] (List.getElem_mem h2))
        have h4 : (⟨b, off, none⟩ : Addr).add i = ⟨b, off + i, none⟩ := by unfold Addr.add; split <;> simp_all
        rw [h4] at h1
        rw [h1]
        have e1 : zs.getD i 0 = zs[i] := by simp [h2]
        have e2 : (((zs.take len).map Int.toNat).getD i 0 : Nat) = zs[i].toNat := by
          simp [h2, hi]
        rw [e1, e2]
        congr 2
        omega
end Go.Proofs.YtadfmenlpnibnaaGreat
end PkMS1_0
section PkMS1_1
/- Contracts of the library's functions at this program, laid in plain words: slices.Sort at texts, slices.SortFunc at entries. -/
namespace Go.Proofs.YtadfmenlpnibnaaGreat
open Go.Shelf
set_option linter.unusedVariables false
def sh_lays190_ren : Go.Shelf.Ren := ⟨fun | 190 => 71 | 125 => 77 | 258 => 92 | 128 => 101 | 129 => 102 | 302 => 111 | 303 => 112 | 304 => 113 | 305 => 114 | 306 => 115 | 307 => 116 | 308 => 117 | 309 => 118 | 310 => 119 | 333 => 134 | 329 => 121 | 330 => 122 | 334 => 135 | 335 => 136 | 336 => 73 | 344 => 144 | n => n, fun | 31 => 27 | 9 => 9 | 3 => 3 | 46 => 109 | 0 => 0 | 51 => 40 | 53 => 133 | 4 => 4 | 183 => 126 | 182 => 125 | 131 => 94 | 5 => 5 | 218 => 148 | 222 => 152 | 228 => 163 | 229 => 164 | n => n, fun | n => n⟩
theorem sh_lays190 : Go.Proofs.Lays.n190 Tryz.prog sh_lays190_ren := {
  mixed := by kernel_rfl
  f125 := Tryz.func77.trans (congrArg some (by kernel_rfl))
  f128 := Tryz.func101.trans (congrArg some (by kernel_rfl))
  f129 := Tryz.func102.trans (congrArg some (by kernel_rfl))
  f190 := Tryz.func71.trans (congrArg some (by kernel_rfl))
  f258 := Tryz.func92.trans (congrArg some (by kernel_rfl))
  f302 := Tryz.func111.trans (congrArg some (by kernel_rfl))
  f303 := Tryz.func112.trans (congrArg some (by kernel_rfl))
  f304 := Tryz.func113.trans (congrArg some (by kernel_rfl))
  f305 := Tryz.func114.trans (congrArg some (by kernel_rfl))
  f306 := Tryz.func115.trans (congrArg some (by kernel_rfl))
  f307 := Tryz.func116.trans (congrArg some (by kernel_rfl))
  f308 := Tryz.func117.trans (congrArg some (by kernel_rfl))
  f309 := Tryz.func118.trans (congrArg some (by kernel_rfl))
  f310 := Tryz.func119.trans (congrArg some (by kernel_rfl))
  f329 := Tryz.func121.trans (congrArg some (by kernel_rfl))
  f330 := Tryz.func122.trans (congrArg some (by kernel_rfl))
  f333 := Tryz.func134.trans (congrArg some (by kernel_rfl))
  f334 := Tryz.func135.trans (congrArg some (by kernel_rfl))
  f335 := Tryz.func136.trans (congrArg some (by kernel_rfl))
  f336 := Tryz.func73.trans (congrArg some (by kernel_rfl))
  f344 := Tryz.func144.trans (congrArg some (by kernel_rfl))
  t0 := Tryz.underlying0
  a0 := Tryz.isAgg0
  z0 := Tryz.sizeOf0
  v0 := Tryz.zeroValue0
  t3 := Tryz.underlying3
  a3 := Tryz.isAgg3
  z3 := Tryz.sizeOf3
  v3 := Tryz.zeroValue3
  t4 := Tryz.underlying4
  a4 := Tryz.isAgg4
  z4 := Tryz.sizeOf4
  v4 := Tryz.zeroValue4
  t5 := Tryz.underlying5
  a5 := Tryz.isAgg5
  z5 := Tryz.sizeOf5
  v5 := Tryz.zeroValue5
  t9 := Tryz.underlying9
  a9 := Tryz.isAgg9
  z9 := Tryz.sizeOf9
  v9 := Tryz.zeroValue9
  t31 := Tryz.underlying27
  a31 := Tryz.isAgg27
  z31 := Tryz.sizeOf27
  v31 := Tryz.zeroValue27
  t46 := Tryz.underlying109
  a46 := Tryz.isAgg109
  z46 := Tryz.sizeOf109
  v46 := Tryz.zeroValue109
  t51 := Tryz.underlying40
  a51 := Tryz.isAgg40
  z51 := Tryz.sizeOf40
  v51 := Tryz.zeroValue40
  t53 := Tryz.underlying133
  a53 := Tryz.isAgg133
  z53 := Tryz.sizeOf133
  v53 := Tryz.zeroValue133
  t131 := Tryz.underlying94
  a131 := Tryz.isAgg94
  z131 := Tryz.sizeOf94
  v131 := Tryz.zeroValue94
  t182 := Tryz.underlying125
  a182 := Tryz.isAgg125
  z182 := Tryz.sizeOf125
  v182 := Tryz.zeroValue125
  t183 := Tryz.underlying126
  a183 := Tryz.isAgg126
  z183 := Tryz.sizeOf126
  v183 := Tryz.zeroValue126
  t218 := Tryz.underlying148
  a218 := Tryz.isAgg148
  z218 := Tryz.sizeOf148
  v218 := Tryz.zeroValue148
  t222 := Tryz.underlying152
  a222 := Tryz.isAgg152
  z222 := Tryz.sizeOf152
  v222 := Tryz.zeroValue152
  t228 := Tryz.underlying163
  a228 := Tryz.isAgg163
  z228 := Tryz.sizeOf163
  v228 := Tryz.zeroValue163
  t229 := Tryz.underlying164
  a229 := Tryz.isAgg164
  z229 := Tryz.sizeOf164
  v229 := Tryz.zeroValue164 }
open Go.Sort Go.RowKit in
theorem sh_slices_Sort_string (blk off cap : Nat) (ss : List (List UInt8)) (w : World) (hH : Holds encStr w blk off ss.toArray) (hblk : blk < w.heap.size) (hsz : ss.length < 4611686018427387904) :
    Calls Tryz.prog 71 #[.slice (some ⟨blk, off, none⟩) ss.length cap] w fun e w' =>
      e = .returned (.tuple #[]) ∧ ∃ n os, w' = grow (putRow encStr (Sort.ahead w n) blk off (ss.mergeSort fun x y => decide (x ≤ y)).toArray) os := Any.slices_Sort_string sh_lays190 blk off cap ss w hH hblk hsz
open Go.RowKit Go.Sort in
theorem sh_slices_Sort_string_none (p : Option Addr) (cap : Nat) (w : World) :
    Calls Tryz.prog 71 #[.slice p 0 cap] w fun e w' => e = .returned (.tuple #[]) ∧ w' = w := Any.slices_Sort_string_none sh_lays190 p cap w
def sh_sfE_ren : Go.Shelf.Ren := ⟨fun | 6 => 58 | 15 => 77 | 14 => 76 | 28 => 101 | 29 => 102 | 20 => 93 | 21 => 94 | 22 => 95 | 23 => 96 | 24 => 97 | 25 => 98 | 26 => 99 | 27 => 100 | 46 => 120 | 47 => 121 | 48 => 122 | 49 => 123 | 50 => 124 | 57 => 137 | n => n, fun | 22 => 22 | 24 => 42 | 25 => 63 | 3 => 3 | 39 => 109 | 0 => 0 | 53 => 40 | 55 => 133 | 4 => 4 | 46 => 126 | 45 => 125 | 50 => 94 | 5 => 5 | 9 => 9 | 66 => 148 | 70 => 152 | 76 => 163 | 77 => 164 | n => n, fun | n => n⟩
theorem sh_sfE : Go.Proofs.SlLaysF0.n6 Tryz.prog sh_sfE_ren := {
  mixed := by kernel_rfl
  f6 := ⟨Tryz.f58.name, by decide, Tryz.func58.trans (congrArg some (by kernel_rfl))⟩
  f14 := ⟨Tryz.f76.name, by decide, Tryz.func76.trans (congrArg some (by kernel_rfl))⟩
  f15 := Tryz.func77.trans (congrArg some (by kernel_rfl))
  f20 := ⟨Tryz.f93.name, by decide, Tryz.func93.trans (congrArg some (by kernel_rfl))⟩
  f21 := ⟨Tryz.f94.name, by decide, Tryz.func94.trans (congrArg some (by kernel_rfl))⟩
  f22 := ⟨Tryz.f95.name, by decide, Tryz.func95.trans (congrArg some (by kernel_rfl))⟩
  f23 := ⟨Tryz.f96.name, by decide, Tryz.func96.trans (congrArg some (by kernel_rfl))⟩
  f24 := ⟨Tryz.f97.name, by decide, Tryz.func97.trans (congrArg some (by kernel_rfl))⟩
  f25 := ⟨Tryz.f98.name, by decide, Tryz.func98.trans (congrArg some (by kernel_rfl))⟩
  f26 := ⟨Tryz.f99.name, by decide, Tryz.func99.trans (congrArg some (by kernel_rfl))⟩
  f27 := ⟨Tryz.f100.name, by decide, Tryz.func100.trans (congrArg some (by kernel_rfl))⟩
  f28 := Tryz.func101.trans (congrArg some (by kernel_rfl))
  f29 := Tryz.func102.trans (congrArg some (by kernel_rfl))
  f46 := ⟨Tryz.f120.name, by decide, Tryz.func120.trans (congrArg some (by kernel_rfl))⟩
  f47 := Tryz.func121.trans (congrArg some (by kernel_rfl))
  f48 := Tryz.func122.trans (congrArg some (by kernel_rfl))
  f49 := ⟨Tryz.f123.name, by decide, Tryz.func123.trans (congrArg some (by kernel_rfl))⟩
  f50 := ⟨Tryz.f124.name, by decide, Tryz.func124.trans (congrArg some (by kernel_rfl))⟩
  f57 := ⟨Tryz.f137.name, by decide, Tryz.func137.trans (congrArg some (by kernel_rfl))⟩
  t0 := Tryz.underlying0
  a0 := Tryz.isAgg0
  z0 := Tryz.sizeOf0
  v0 := Tryz.zeroValue0
  t3 := Tryz.underlying3
  a3 := Tryz.isAgg3
  z3 := Tryz.sizeOf3
  v3 := Tryz.zeroValue3
  t4 := Tryz.underlying4
  a4 := Tryz.isAgg4
  z4 := Tryz.sizeOf4
  v4 := Tryz.zeroValue4
  t5 := Tryz.underlying5
  a5 := Tryz.isAgg5
  z5 := Tryz.sizeOf5
  v5 := Tryz.zeroValue5
  t9 := Tryz.underlying9
  a9 := Tryz.isAgg9
  z9 := Tryz.sizeOf9
  v9 := Tryz.zeroValue9
  t22 := Tryz.underlying22
  a22 := Tryz.isAgg22
  z22 := Tryz.sizeOf22
  v22 := Tryz.zeroValue22
  t25 := Tryz.underlying63
  a25 := Tryz.isAgg63
  z25 := Tryz.sizeOf63
  v25 := Tryz.zeroValue63
  t39 := Tryz.underlying109
  a39 := Tryz.isAgg109
  z39 := Tryz.sizeOf109
  v39 := Tryz.zeroValue109
  t45 := Tryz.underlying125
  a45 := Tryz.isAgg125
  z45 := Tryz.sizeOf125
  v45 := Tryz.zeroValue125
  t46 := Tryz.underlying126
  a46 := Tryz.isAgg126
  z46 := Tryz.sizeOf126
  v46 := Tryz.zeroValue126
  t50 := Tryz.underlying94
  a50 := Tryz.isAgg94
  z50 := Tryz.sizeOf94
  v50 := Tryz.zeroValue94
  t53 := Tryz.underlying40
  a53 := Tryz.isAgg40
  z53 := Tryz.sizeOf40
  v53 := Tryz.zeroValue40
  t55 := Tryz.underlying133
  a55 := Tryz.isAgg133
  z55 := Tryz.sizeOf133
  v55 := Tryz.zeroValue133
  t66 := Tryz.underlying148
  a66 := Tryz.isAgg148
  z66 := Tryz.sizeOf148
  v66 := Tryz.zeroValue148
  t70 := Tryz.underlying152
  a70 := Tryz.isAgg152
  z70 := Tryz.sizeOf152
  v70 := Tryz.zeroValue152
  t76 := Tryz.underlying163
  a76 := Tryz.isAgg163
  z76 := Tryz.sizeOf163
  v76 := Tryz.zeroValue163
  t77 := Tryz.underlying164
  a77 := Tryz.isAgg164
  z77 := Tryz.sizeOf164
  v77 := Tryz.zeroValue164 }
end Go.Proofs.YtadfmenlpnibnaaGreat
end PkMS1_1
section PkMS1_2
/- Maps of any type, whose elements are told of as they are: an ordered list of keys and things beside them. -/
namespace Go.Proofs.YtadfmenlpnibnaaGreat
open Go.RowKit
open Go.Maps (Keyed)
set_option linter.unusedVariables false

def heldR (v : Value) : Option (DataW Value × List MemPlace) := some (.held v, [])
section
variable {κ α : Type} (lit : κ → Lit)
def insK (x : κ × α) : List (κ × α) → List (κ × α)
  | [] => [x]
  | y :: r => if (lit x.1).before (lit y.1) = true then x :: y :: r else y :: insK x r
def dropK (k : κ) (l : List (κ × α)) : List (κ × α) := l.filter fun p => !(lit p.1).sameKey (lit k)
def putK (k : κ) (a : α) (l : List (κ × α)) : List (κ × α) := insK lit (k, a) (dropK lit k l)
def getK (k : κ) (l : List (κ × α)) : Option α := (l.find? fun p => (lit p.1).sameKey (lit k)).map (·.2)
def encK (f : α → Value) (l : List (κ × α)) : List (Lit × DataW Value) := l.map fun p => (lit p.1, .held (f p.2))
variable {lit} {f : α → Value} {l : List (κ × α)} {k : κ} {a : α}
theorem enc_ins (x : κ × α) : ∀ l : List (κ × α), encK lit f (insK lit x l) = DataW.insert (lit x.1, .held (f x.2)) (encK lit f l)
  | [] => rfl
  | y :: r => by
    unfold insK encK
    rw [List.map_cons]
    unfold DataW.insert
    show List.map _ (if _ then _ else _) = if (lit x.1).before (lit y.1) = true then _ else _
    split
    · rfl
    · rw [List.map_cons]
      exact congrArg _ (enc_ins x r)
theorem enc_drop : encK lit f (dropK lit k l) = (encK lit f l).filter fun p => !p.1.sameKey (lit k) := by
  unfold encK dropK
  rw [List.filter_map]
  rfl
theorem enc_put : (DataW.map (encK lit f l)).put (lit k) (.held (f a)) = .map (encK lit f (putK lit k a l)) := by
  unfold putK
  rw [enc_ins, enc_drop]
  rfl
theorem enc_del : (DataW.map (encK lit f l)).del (lit k) = .map (encK lit f (dropK lit k l)) := by
  rw [enc_drop]; rfl
theorem enc_find : ∀ l : List (κ × α), (encK lit f l).find? (fun p => p.1.sameKey (lit k)) = (l.find? fun p => (lit p.1).sameKey (lit k)).map fun p => (lit p.1, .held (f p.2)) := by
  intro l
  unfold encK
  rw [List.find?_map]
  rfl
theorem enc_at (z : DataW Value) : (DataW.map (encK lit f l)).atKey (lit k) z = match getK lit k l with | some a => .held (f a) | none => z := by
  unfold DataW.atKey getK
  simp only [enc_find]
  cases l.find? fun p => (lit p.1).sameKey (lit k) <;> rfl
theorem enc_has : Maps.has (DataW.map (encK lit f l)) (lit k) = (getK lit k l).isSome := by
  show (encK lit f l).any _ = _
  unfold getK encK
  rw [List.any_map, Option.isSome_map, Bool.eq_iff_iff, List.any_eq_true, List.find?_isSome]
  rfl
theorem enc_size : Maps.size (DataW.map (encK lit f l)) = l.length := by
  show (encK lit f l).length = _
  unfold encK; rw [List.length_map]
end
/-- a map's type: its number, its key's, its element's; the element's zero value -/
structure MTy where
  t : TypeId
  k : TypeId
  e : TypeId
  zv : Value
  K : Keyed Tryz.prog k
  ht : Tryz.prog.underlying t = some (.map k e)
  hz : ∀ w, (zeroValue e).run Tryz.prog w = .ok zv w
theorem own_tight {w : World} {k : TypeId} {R : Value → Option (DataW Value × List MemPlace)} {M n : Nat} {D : DataW Value} (h : w.ownsMap Tryz.prog k R M n D) : w.ownsMap Tryz.prog k R M (Maps.size D) D := by
  obtain ⟨es, clock, hb, F, hs, rfl⟩ := h
  exact ⟨es, clock, hb, F, by simp [Maps.size, length_sorted], rfl⟩
section
variable {κ α : Type} {lit : κ → Lit} {f : α → Value} {l : List (κ × α)} {k : κ} {a : α} {T : MTy} {w w' : World} {M : Nat}
/-- block M is a map of these keys and things -/
def GM (T : MTy) (lit : κ → Lit) (f : α → Value) (w : World) (M : Nat) (l : List (κ × α)) : Prop := w.ownsMap Tryz.prog T.k heldR M l.length (.map (encK lit f l))
theorem GM.made (T : MTy) (lit : κ → Lit) (f : α → Value) (w : World) : GM T lit f (w.alloc (.map #[] 0)) w.heap.size [] := World.ownsMap_made _ _ _ _
theorem GM.lt (h : GM T lit f w M l) : M < w.heap.size := World.ownsMap.lt h
theorem GM.same (h : GM T lit f w M l) (e : w'.heap[M]? = w.heap[M]?) : GM T lit f w' M l := by
  obtain ⟨es, clock, hb, F⟩ := h
  exact ⟨es, clock, e.trans hb, F⟩
theorem GM.below (h : GM T lit f w M l) (hb : Below w.heap.size w w') : GM T lit f w' M l := h.same (hb.block M h.lt)
/-- 'm[k]' -/
theorem GM.look (h : GM T lit f w M l) {key : Value} (hk : keyOf Tryz.prog T.k key = some (lit k)) :
    (Instr.lookup T.t (.map (some M)) key false).run Tryz.prog w = .ok ((getK lit k l).elim T.zv f) w := by
  obtain ⟨v, ps, hrun, hv⟩ := World.ownsMap.lookup h T.K T.ht (T.hz w) (zd := .held T.zv) (zp := []) rfl hk
  rw [enc_at] at hv
  rw [hrun]
  cases hg : getK lit k l with
  | none => rw [hg] at hv; simp [heldR] at hv; rw [hv.1]; rfl
  | some a => rw [hg] at hv; simp [heldR] at hv; rw [hv.1]; rfl
/-- 'v, ok := m[k]' -/
theorem GM.look_ok (h : GM T lit f w M l) {key : Value} (hk : keyOf Tryz.prog T.k key = some (lit k)) :
    (Instr.lookup T.t (.map (some M)) key true).run Tryz.prog w = .ok (.tuple #[(getK lit k l).elim T.zv f, .bool (getK lit k l).isSome]) w := by
  obtain ⟨v, ps, hrun, hv⟩ := World.ownsMap.look_ok h T.K T.ht (T.hz w) (zd := .held T.zv) (zp := []) rfl hk
  rw [enc_at] at hv
  rw [hrun, enc_has]
  cases hg : getK lit k l with
  | none => rw [hg] at hv; simp [heldR] at hv; rw [hv.1]; rfl
  | some a => rw [hg] at hv; simp [heldR] at hv; rw [hv.1]; rfl
/-- 'm[k] = v' -/
theorem GM.store (h : GM T lit f w M l) {key val : Value} (hk : keyOf Tryz.prog T.k key = some (lit k)) (hv : val = f a) (hn : l.length < maxLen) :
    ∃ w', (Instr.mapUpdate T.t (.map (some M)) key val).run Tryz.prog w = .ok () w' ∧ GM T lit f w' M (putK lit k a l) ∧ w.mapTurned w' M := by
  obtain ⟨w', hrun, r1, r2⟩ := World.ownsMap.store h T.K T.ht hn (val := val) (d := .held (f a)) (ps := []) hk (by rw [hv]; rfl)
  rw [enc_put] at r1
  have r3 := own_tight r1
  rw [enc_size] at r3
  exact ⟨w', hrun, r3, r2⟩
/-- 'delete(m, k)' -/
theorem GM.drop (h : GM T lit f w M l) {key : Value} (hk : keyOf Tryz.prog T.k key = some (lit k)) (ty : TypeId) :
    ∃ w', (Builtin.delete_ #[T.t, T.k] ty #[.map (some M), key]).run Tryz.prog w = .ok (.tuple #[]) w' ∧ GM T lit f w' M (dropK lit k l) ∧ w.mapTurned w' M := by
  obtain ⟨w', hrun, r1, r2⟩ := World.ownsMap.drop h T.K T.ht hk ty
  rw [enc_del] at r1
  have r3 := own_tight r1
  rw [enc_size] at r3
  exact ⟨w', hrun, r3, r2⟩
/-- 'len(m)' -/
theorem GM.len (h : GM T lit f w M l) (ty : TypeId) : (Builtin.len_ #[T.t] ty #[.map (some M)]).run Tryz.prog w = .ok (.int .i64 l.length) w := by
  have := World.ownsMap.len h T.ht ty
  rw [enc_size] at this
  exact this
end
end Go.Proofs.YtadfmenlpnibnaaGreat
end PkMS1_2
section PkMS1_3
/- What is turned and what stays: frames, cells of blocks; maps by texts. -/
namespace Go.Proofs.YtadfmenlpnibnaaGreat
open Go.RowKit
open Go.Maps (Keyed int_keyed string_keyed)
set_option linter.unusedVariables false

def slit (s : ByteArray) : Lit := .string s.data.toList
theorem keyS {s : ByteArray} (h : s.size ≤ maxLen) : keyOf Tryz.prog 9 (.string s) = some (slit s) := by
  have := Go.WideMaps.keyOf_string_mk (P := Tryz.prog) (k := 9) Tryz.underlying9 h
  exact this
theorem GM.drew {κ α : Type} {T : MTy} {lit : κ → Lit} {f : α → Value} {w : World} {M : Nat} {l : List (κ × α)} (h : GM T lit f w M l) : GM T lit f w.drew M l := h.same rfl
/-- nothing that was there is turned but these blocks -/
structure Frm (F : Nat → Prop) (w w' : World) : Prop where
  os : w'.os = w.os
  tape : w'.tape = w.tape
  output : w'.output = w.output
  size : w.heap.size ≤ w'.heap.size
  block : ∀ k, k < w.heap.size → ¬ F k → w'.heap[k]? = w.heap[k]?
theorem Frm.refl (F : Nat → Prop) (w : World) : Frm F w w := ⟨rfl, rfl, rfl, Nat.le_refl _, fun _ _ _ => rfl⟩
theorem Frm.below {F : Nat → Prop} {a b c : World} (h : Frm F a b) (k : Below b.heap.size b c) : Frm F a c :=
  ⟨k.os.trans h.os, k.tape.trans h.tape, k.output.trans h.output, Nat.le_trans h.size k.size, fun i hi hp => (k.block i (Nat.lt_of_lt_of_le hi h.size)).trans (h.block i hi hp)⟩
theorem Frm.trans {F F' : Nat → Prop} {a b c : World} (h : Frm F a b) (k : Frm F' b c) (hF : ∀ i, F' i → F i ∨ a.heap.size ≤ i) : Frm F a c :=
  ⟨k.os.trans h.os, k.tape.trans h.tape, k.output.trans h.output, Nat.le_trans h.size k.size, fun i hi hp => (k.block i (Nat.lt_of_lt_of_le hi h.size) (fun hf => by
    rcases hF i hf with g | g
    · exact hp g
    · omega)).trans (h.block i hi hp)⟩
theorem Frm.ofBelow {F : Nat → Prop} {a b : World} (k : Below a.heap.size a b) : Frm F a b := (Frm.refl F a).below k
theorem Frm.set {F : Nat → Prop} {a b : World} (h : Frm F a b) {p : Nat} (hp : F p ∨ a.heap.size ≤ p) (j : Nat) (u : Value) : Frm F a (b.setCell ⟨p, j, none⟩ u) :=
  ⟨h.os, h.tape, h.output, by simpa [World.setCell] using h.size, fun i hi hf => (Below.heap_setCell b ⟨p, j, none⟩ u i (fun e => by
    rcases hp with g | g
    · subst e; exact hf g
    · rw [e] at hi; simp only at hi; omega)).trans (h.block i hi hf)⟩
theorem Frm.turned {F : Nat → Prop} {a b c : World} (h : Frm F a b) {p : Nat} (hp : F p ∨ a.heap.size ≤ p) (k : b.mapTurned c p) : Frm F a c := by
  have g := k.grown
  exact ⟨g.os.trans h.os, g.tape.trans h.tape, g.output.trans h.output, Nat.le_trans h.size g.size, fun i hi hf => (g.block i (Nat.lt_of_lt_of_le hi h.size) (fun e => by
    simp at e; subst e
    rcases hp with g | g
    · exact hf g
    · omega)).trans (h.block i hi hf)⟩
theorem Frm.toBelow {F : Nat → Prop} {a b : World} {B : Nat} (h : Frm F a b) (hB : B ≤ a.heap.size) (hF : ∀ i, F i → B ≤ i) : Below B a b :=
  ⟨h.os, h.tape, h.output, h.size, fun i hi => h.block i (by omega) (fun hf => by have := hF i hf; omega)⟩
theorem Frm.imp {F G : Nat → Prop} {a b : World} (h : Frm F a b) (hi : ∀ i, F i → G i) : Frm G a b := ⟨h.os, h.tape, h.output, h.size, fun k hk hg => h.block k hk fun hf => hg (hi k hf)⟩
theorem Frm.drew {F : Nat → Prop} {a b : World} (h : Frm F a b) : Frm F a b.drew := ⟨h.os, h.tape, h.output, h.size, h.block⟩
theorem Frm.at {F : Nat → Prop} {a b : World} (h : Frm F a b) {k : Nat} {o : Obj} (hk : a.heap[k]? = some o) (hf : ¬ F k) : b.heap[k]? = some o := (h.block k (Array.getElem?_eq_some_iff.1 hk).1 hf).trans hk
theorem gm_obj {κ α : Type} {T : MTy} {lit : κ → Lit} {f : α → Value} {w : World} {M : Nat} {l : List (κ × α)} (h : GM T lit f w M l) : ∃ es c, w.heap[M]? = some (.map es c) := by
  obtain ⟨es, c, hb, _⟩ := h
  exact ⟨es, c, hb⟩
theorem cell_blk2 {w : World} {b : Nat} {cs : Array Value} {t : TypeId} (g : w.heap[b]? = some (.cells cs t (0, 0))) {i : Nat} {u : Value} (h : cs[i]? = some u) : w.cell? ⟨b, i, none⟩ = some u := by
  rw [cell_of_row w b i _ _ (0, 0) g]; exact h
theorem fro_blk2 {w : World} {b : Nat} {cs : Array Value} {t : TypeId} (g : w.heap[b]? = some (.cells cs t (0, 0))) (i : Nat) : w.frozen? ⟨b, i, none⟩ = false := by
  unfold World.frozen?
  simp [g]
theorem heap_new (w : World) (o : Obj) : (w.alloc o).heap[w.heap.size]? = some o := (MapKept.heap_alloc w o).1
end Go.Proofs.YtadfmenlpnibnaaGreat
end PkMS1_3
section PkMS1_4
/- A range over a map, as walks are told of it: which entries are still to come; what is summed up over it. -/
namespace Go.Proofs.YtadfmenlpnibnaaGreat
open Go.RowKit
open Go.Maps (Keyed)
set_option linter.unusedVariables false

section
variable {κ α : Type} {lit : κ → Lit} {f : α → Value} {l : List (κ × α)} {T : MTy} {w w' : World} {M r cnt : Nat} {left : Lit → Bool}
/-- a range over block M under way, its iterator block r -/
def GR (T : MTy) (lit : κ → Lit) (f : α → Value) (w : World) (M r : Nat) (l : List (κ × α)) (left : Lit → Bool) (cnt : Nat) : Prop := w.ranges Tryz.prog T.k heldR M r l.length (.map (encK lit f l)) left cnt
theorem GR.gm (h : GR T lit f w M r l left cnt) : GM T lit f w M l := World.ranges.owns h
theorem GR.kept {row : Option Nat} (h : GR T lit f w M r l left cnt) (hg : w.grownBy w' row) (h1 : some M ≠ row) (h2 : some r ≠ row) : GR T lit f w' M r l left cnt := World.ranges.kept h hg h1 h2
theorem GR.below (h : GR T lit f w M r l left cnt) (hb : Below w.heap.size w w') : GR T lit f w' M r l left cnt :=
  h.kept (row := none) ⟨hb.os, hb.tape, hb.output, hb.size, fun i hi _ => hb.block i hi⟩ (by simp) (by simp)
theorem GR.lt (h : GR T lit f w M r l left cnt) : r < w.heap.size := World.ranges.lt h
theorem GR.left_eq (h : GR T lit f w M r l left cnt) : w.rangeLeft M r = cnt := World.ranges.left_eq h
theorem GM.apart (h : GM T lit f w M l) : l.Pairwise fun p q => lit p.1 ≠ lit q.1 := by
  obtain ⟨es, he, hp⟩ := World.ownsMap.tidy h T.K
  have e1 : es = encK lit f l := by cases he; rfl
  rw [e1] at hp
  unfold encK at hp
  exact (List.pairwise_map (f := fun p : κ × α => (lit p.1, (DataW.held (f p.2) : DataW Value))) (R := fun p q => p.1 ≠ q.1)).1 hp
theorem GM.key (h : GM T lit f w M l) : ∀ p ∈ l, WideAt.IsKeyLit (lit p.1) := by
  obtain ⟨es, he, _, hk⟩ := World.ownsMap.entries h T.K
  have e1 : es = encK lit f l := by cases he; rfl
  intro p hp
  rw [e1] at hk
  exact hk (lit p.1, .held (f p.2)) (List.mem_map.2 ⟨p, hp, rfl⟩)
theorem find_key {kl : Lit} {y : DataW Value} (h : ∀ zd, (DataW.map (encK lit f l)).atKey kl zd = y) : ∃ q ∈ l, lit q.1 = kl ∧ y = .held (f q.2) := by
  unfold DataW.atKey at h
  simp only at h
  cases hf : (encK lit f l).find? (fun p => p.1.sameKey kl) with
  | none =>
    simp only [hf] at h
    have h1 := h .nil
    have h2 := h (.lit (.bool true))
    rw [← h1] at h2
    cases h2
  | some p =>
    simp only [hf] at h
    have h1 := h .nil
    have hm := List.mem_of_find?_eq_some hf
    have hs := List.find?_some hf
    obtain ⟨q, hq, rfl⟩ := List.mem_map.1 hm
    exact ⟨q, hq, WideAt.sameKey_eq hs, h1.symm⟩
theorem wpList_range_gm {ops : Array Oper} {rest : List Oper} {o : Oper} {a : Act} {Q : Exit → Act → World → Prop} (hg : o.guard = none) (m : Operand) (hop : o.op = Op.range T.t m) (hm : a.eval m = .map (some M)) (h : GM T lit f w M l)
    (hK : ∀ w', GR T lit f w' M w.heap.size l (Maps.has (.map (encK lit f l))) l.length → w.grownBy w' none → w'.heap.size = w.heap.size + 1 → wpList Tryz.prog ops Q rest (a.put o.dst (.pointer (some ⟨w.heap.size, 0, none⟩))) w') : wpList Tryz.prog ops Q (o :: rest) a w :=
  wpList_range_own w hg m T.t hop T.k T.e T.K T.ht heldR M l.length _ hm h fun w' h1 h2 h3 => hK w' (by rw [enc_size] at h1; exact h1) h2 h3
theorem wpList_next_gm {ops : Array Oper} {rest : List Oper} {o : Oper} {a : Act} {Q : Exit → Act → World → Prop} (hg : o.guard = none) (it : Operand) (hop : o.op = Op.next it false) (kv : κ → Value) (hkv : ∀ p ∈ l, keyOf Tryz.prog T.k (kv p.1) = some (lit p.1))
    (hit : a.eval it = .pointer (some ⟨r, 0, none⟩)) (h : GR T lit f w M r l left cnt)
    (hDone : (∀ kl, left kl = false) → wpList Tryz.prog ops Q rest (a.put o.dst (.tuple #[.bool false])) w)
    (hMore : ∀ (q : κ × α) (w' : World) (cnt' : Nat), q ∈ l → left (lit q.1) = true → GR T lit f w' M r l (fun z => left z && !z.sameKey (lit q.1)) cnt' → cnt' < cnt → w.grownBy w' (some r) → w'.heap.size = w.heap.size →
      (Instr.entry (.pointer (some ⟨r, 0, none⟩))).run Tryz.prog w' = .ok (.tuple #[kv q.1, f q.2]) w' → wpList Tryz.prog ops Q rest (a.put o.dst (.tuple #[.bool true, kv q.1, f q.2])) w') : wpList Tryz.prog ops Q (o :: rest) a w := by
  refine wpList_plain hg fun K' hK' => ?_
  unfold Oper.wp
  rcases World.ranges.next h T.K o.type with ⟨h0, hl, hrun⟩ | ⟨key, v, kl, y, w', cnt', hkey, hlk, hv, hat, hrun, hrg, hlt, hgr, hsz, hen⟩
  · simp [execOp, hop, hit, hrun, Result.andThen]
    exact hK' _ _ (hDone hl)
  · obtain ⟨q, hq, rfl, hy⟩ := find_key hat
    have hv2 : v = f q.2 := by
      unfold heldR at hv
      have := congrArg (fun z => (z.map Prod.fst)) hv
      simp only [Option.map_some, Option.some.injEq] at this
      rw [hy] at this
      simpa using this
    have hk2 : key = kv q.1 := T.K.inj hkey (hkv q hq)
    subst hv2
    subst hk2
    simp [execOp, hop, hit, hrun, Result.andThen]
    exact hK' _ _ (hMore q w' cnt' hq hlk hrg hlt hgr hsz hen)
/-- what is summed up over those that have come -/
def sumK (lit : κ → Lit) (g : α → Nat) (left : Lit → Bool) (l : List (κ × α)) : Nat := (l.map fun p => if left (lit p.1) = true then 0 else g p.2).sum
def totK (g : α → Nat) (l : List (κ × α)) : Nat := (l.map fun p => g p.2).sum
theorem sumK_start (g : α → Nat) (hk : ∀ p ∈ l, WideAt.IsKeyLit (lit p.1)) : sumK lit g (Maps.has (.map (encK lit f l))) l = 0 := by
  unfold sumK
  have : ∀ p ∈ l, (if Maps.has (DataW.map (encK lit f l)) (lit p.1) = true then 0 else g p.2) = 0 := by
    intro p hp
    have : Maps.has (DataW.map (encK lit f l)) (lit p.1) = true := List.any_eq_true.2 ⟨(lit p.1, .held (f p.2)), List.mem_map.2 ⟨p, hp, rfl⟩, WideAt.sameKey_self (hk p hp)⟩
    rw [if_pos this]
  rw [List.map_congr_left this]
  clear this hk
  induction l with
  | nil => rfl
  | cons p l ih => rw [List.map_cons, List.sum_cons, ih]
theorem sumK_end (g : α → Nat) (h : ∀ kl, left kl = false) : sumK lit g left l = totK g l := by
  unfold sumK totK
  congr 1
  exact List.map_congr_left fun p _ => by rw [h]; rfl
theorem sumK_step (g : α → Nat) : ∀ {l : List (κ × α)}, l.Pairwise (fun p q => lit p.1 ≠ lit q.1) → (∀ p ∈ l, WideAt.IsKeyLit (lit p.1)) → ∀ {q : κ × α}, q ∈ l → left (lit q.1) = true →
    sumK lit g (fun z => left z && !z.sameKey (lit q.1)) l = sumK lit g left l + g q.2
  | [], _, _, q, hq, _ => by cases hq
  | p :: l, hp, hk, q, hq, hl => by
    obtain ⟨h1, h2⟩ := List.pairwise_cons.1 hp
    have same : ∀ x ∈ l, lit x.1 ≠ lit q.1 → (if (left (lit x.1) && !(lit x.1).sameKey (lit q.1)) = true then 0 else g x.2) = if left (lit x.1) = true then 0 else g x.2 := by
      intro x _ hne
      rw [Maps.sameKey_ne hne]; simp
    rcases List.mem_cons.1 hq with rfl | hq'
    · unfold sumK
      rw [List.map_cons, List.map_cons, List.sum_cons, List.sum_cons, List.map_congr_left (fun x hx => same x hx (fun e => h1 x hx e.symm))]
      dsimp only
      have e1 : (left (lit q.1) && !(lit q.1).sameKey (lit q.1)) = false := by rw [WideAt.sameKey_self (hk q (by simp))]; simp
      rw [if_neg (by rw [e1]; decide), if_pos hl]
      omega
    · have ih := sumK_step g h2 (fun x hx => hk x (by simp [hx])) hq' hl
      unfold sumK at ih ⊢
      rw [List.map_cons, List.map_cons, List.sum_cons, List.sum_cons, ih]
      have hne := h1 q hq'
      dsimp only
      have e1 : (left (lit p.1) && !(lit p.1).sameKey (lit q.1)) = left (lit p.1) := by rw [Maps.sameKey_ne hne]; simp
      simp only [e1]
      omega
theorem sumK_le (g : α → Nat) (left : Lit → Bool) (l : List (κ × α)) : sumK lit g left l ≤ totK g l := by
  unfold sumK totK
  induction l with
  | nil => exact Nat.le_refl _
  | cons p l ih =>
    rw [List.map_cons, List.map_cons, List.sum_cons, List.sum_cons]
    split <;> omega
theorem tot_mem (g : α → Nat) : ∀ {l : List (κ × α)} {q : κ × α}, q ∈ l → g q.2 ≤ totK g l
  | p :: l, q, hq => by
    unfold totK
    rw [List.map_cons, List.sum_cons]
    rcases List.mem_cons.1 hq with rfl | h
    · omega
    · have := tot_mem g h
      unfold totK at this
      omega
end
end Go.Proofs.YtadfmenlpnibnaaGreat
end PkMS1_4
section PkMS1_5
/- Ordered lists of keys and things, plainly: looked up, put, dropped. (Out of XStoInv, XStoAbt, XStoCre, XStoPgL, XStoKeys.) -/
namespace Go.Proofs.YtadfmenlpnibnaaGreat
open Go.RowKit Go.Maps
set_option linter.unusedVariables false

theorem slit_inj {x y : ByteArray} (h : slit x = slit y) : x = y := by
  unfold slit at h
  have h1 : x.data.toList = y.data.toList := by simpa using h
  cases x; cases y
  congr 1
  exact Array.toList_inj.1 h1
theorem get_mem {κ α : Type} {lit : κ → Lit} (hinj : ∀ {i j}, lit i = lit j → i = j) {l : List (κ × α)} {k : κ} {a : α} (h : getK lit k l = some a) : (k, a) ∈ l := by
  unfold getK at h
  obtain ⟨q, hq, rfl⟩ := Option.map_eq_some_iff.1 h
  have hs := List.find?_some hq
  have he := hinj (WideAt.sameKey_eq hs)
  rw [← he]
  exact List.mem_of_find?_eq_some hq
theorem mem_ins {κ α : Type} {lit : κ → Lit} {x p : κ × α} : ∀ {l : List (κ × α)}, p ∈ insK lit x l → p = x ∨ p ∈ l
  | [], h => by unfold insK at h; exact .inl (List.mem_singleton.1 h)
  | y :: r, h => by
    unfold insK at h
    split at h
    · rcases List.mem_cons.1 h with g | g
      · exact .inl g
      · exact .inr g
    · rcases List.mem_cons.1 h with g | g
      · exact .inr (by rw [g]; simp)
      · rcases mem_ins g with e | e
        · exact .inl e
        · exact .inr (List.mem_cons_of_mem _ e)
theorem mem_put {κ α : Type} {lit : κ → Lit} {k : κ} {a : α} {l : List (κ × α)} {p : κ × α} (h : p ∈ putK lit k a l) : p = (k, a) ∨ p ∈ l := by
  rcases mem_ins h with e | e
  · exact .inl e
  · exact .inr (List.mem_filter.1 e).1
section
variable {κ α : Type} {lit : κ → Lit}
/-- keys that are told apart -/
structure LitOk (lit : κ → Lit) : Prop where
  inj : ∀ {i j}, lit i = lit j → i = j
  same : ∀ k, (lit k).sameKey (lit k) = true
theorem LitOk.iff (h : LitOk lit) (i j : κ) : (lit i).sameKey (lit j) = true ↔ i = j :=
  ⟨fun e => h.inj (WideAt.sameKey_eq e), fun e => by rw [e]; exact h.same j⟩
theorem get_ins_same (h : LitOk lit) {k : κ} {a : α} : ∀ {l : List (κ × α)}, (∀ p ∈ l, p.1 ≠ k) → getK lit k (insK lit (k, a) l) = some a
  | [], _ => by unfold insK getK; rw [List.find?_cons, show ((lit (k, a).1).sameKey (lit k)) = true from h.same k]; rfl
  | y :: r, hn => by
    unfold insK
    split
    · unfold getK; rw [List.find?_cons, show ((lit (k, a).1).sameKey (lit k)) = true from h.same k]; rfl
    · have h1 : (lit y.1).sameKey (lit k) = false := by
        rw [Bool.eq_false_iff]; intro e; exact hn y (List.mem_cons_self ..) ((h.iff _ _).1 e)
      have h2 := get_ins_same h (a := a) (l := r) (fun p hp => hn p (List.mem_cons_of_mem _ hp))
      unfold getK at h2 ⊢
      rw [List.find?_cons, h1]
      exact h2
theorem get_ins_ne (h : LitOk lit) {k j : κ} {a : α} (hne : j ≠ k) : ∀ {l : List (κ × α)}, getK lit j (insK lit (k, a) l) = getK lit j l
  | [] => by
    have h1 : (lit k).sameKey (lit j) = false := by rw [Bool.eq_false_iff]; intro e; exact hne ((h.iff _ _).1 e).symm
    unfold insK getK
    rw [List.find?_cons, show ((lit (k, a).1).sameKey (lit j)) = false from h1]
  | y :: r => by
    have h1 : (lit k).sameKey (lit j) = false := by rw [Bool.eq_false_iff]; intro e; exact hne ((h.iff _ _).1 e).symm
    unfold insK
    split
    · unfold getK; rw [List.find?_cons, show ((lit (k, a).1).sameKey (lit j)) = false from h1]
    · have h2 := get_ins_ne h (a := a) hne (l := r)
      unfold getK at h2 ⊢
      rw [List.find?_cons, List.find?_cons]
      split
      · rfl
      · exact h2
theorem mem_drop {k : κ} {l : List (κ × α)} {p : κ × α} (hm : p ∈ dropK lit k l) : p ∈ l := (List.mem_filter.1 hm).1
theorem drop_ne (h : LitOk lit) {k : κ} {l : List (κ × α)} {p : κ × α} (hm : p ∈ dropK lit k l) : p.1 ≠ k := fun e => by
  have h1 := (List.mem_filter.1 hm).2
  rw [(h.iff _ _).2 e] at h1
  cases h1
theorem get_drop_ne (h : LitOk lit) {k j : κ} (hne : j ≠ k) : ∀ {l : List (κ × α)}, getK lit j (dropK lit k l) = getK lit j l
  | [] => rfl
  | y :: r => by
    have h2 := get_drop_ne h hne (l := r)
    unfold dropK getK at h2 ⊢
    rw [List.filter_cons]
    cases hy : (lit y.1).sameKey (lit k) with
    | false =>
      rw [if_pos (by simp), List.find?_cons, List.find?_cons]
      split
      · rfl
      · exact h2
    | true =>
      have e := (h.iff _ _).1 hy
      have h3 : (lit y.1).sameKey (lit j) = false := by rw [Bool.eq_false_iff]; intro g; exact hne (((h.iff _ _).1 g).symm.trans e)
      rw [if_neg (by simp), List.find?_cons, h3]
      exact h2
theorem get_drop_same (h : LitOk lit) {k : κ} {l : List (κ × α)} : getK lit k (dropK lit k l) = none := by
  unfold getK
  rw [Option.map_eq_none_iff, List.find?_eq_none]
  intro p hp e
  exact drop_ne h hp ((h.iff _ _).1 e)
theorem get_put_same (h : LitOk lit) {k : κ} {a : α} {l : List (κ × α)} : getK lit k (putK lit k a l) = some a :=
  get_ins_same h fun p hp => drop_ne h hp
theorem get_put_ne (h : LitOk lit) {k j : κ} {a : α} (hne : j ≠ k) {l : List (κ × α)} : getK lit j (putK lit k a l) = getK lit j l :=
  (get_ins_ne h hne).trans (get_drop_ne h hne)
theorem get_none (h : LitOk lit) {k : κ} {l : List (κ × α)} : getK lit k l = none ↔ ∀ p ∈ l, p.1 ≠ k := by
  unfold getK
  rw [Option.map_eq_none_iff, List.find?_eq_none]
  exact ⟨fun g p hp e => g p hp ((h.iff _ _).2 e), fun g p hp e => g p hp ((h.iff _ _).1 e)⟩
theorem drop_id (h : LitOk lit) {k : κ} {l : List (κ × α)} (hg : getK lit k l = none) : dropK lit k l = l := by
  unfold dropK
  rw [List.filter_eq_self]
  intro p hp
  rw [Bool.not_eq_true', Bool.eq_false_iff]
  intro e
  exact (get_none h).1 hg p hp ((h.iff _ _).1 e)
theorem ins_len (x : κ × α) : ∀ l : List (κ × α), (insK lit x l).length = l.length + 1
  | [] => rfl
  | y :: r => by
    unfold insK
    split
    · rfl
    · rw [List.length_cons, ins_len x r, List.length_cons]
theorem tot_ins (g : α → Nat) (x : κ × α) : ∀ l : List (κ × α), totK g (insK lit x l) = totK g l + g x.2
  | [] => by simp [insK, totK]
  | y :: r => by
    have ih := tot_ins g x r
    unfold totK at ih ⊢
    unfold insK
    split
    · simp only [List.map_cons, List.sum_cons]; omega
    · simp only [List.map_cons, List.sum_cons, ih]; omega
def gotN (g : α → Nat) : Option α → Nat
  | some a => g a
  | none => 0
theorem drop_tot (h : LitOk lit) (g : α → Nat) {k : κ} : ∀ {l : List (κ × α)}, l.Pairwise (fun p q => lit p.1 ≠ lit q.1) → totK g (dropK lit k l) + gotN g (getK lit k l) = totK g l ∧ (dropK lit k l).length + (if (getK lit k l).isSome = true then 1 else 0) = l.length
  | [], _ => ⟨rfl, rfl⟩
  | y :: r, hp => by
    obtain ⟨h1, h2⟩ := List.pairwise_cons.1 hp
    obtain ⟨ih1, ih2⟩ := drop_tot h g (k := k) h2
    cases hy : (lit y.1).sameKey (lit k) with
    | false =>
      have e1 : dropK lit k (y :: r) = y :: dropK lit k r := by unfold dropK; rw [List.filter_cons, if_pos (by simp [hy])]
      have e2 : getK lit k (y :: r) = getK lit k r := by unfold getK; rw [List.find?_cons, hy]
      rw [e1, e2]
      unfold totK at ih1 ⊢
      simp only [List.map_cons, List.sum_cons, List.length_cons]
      exact ⟨by omega, by omega⟩
    | true =>
      have e := (h.iff _ _).1 hy
      have hn : getK lit k r = none := (get_none h).2 fun p hp' e' => h1 p hp' (by rw [e, e'])
      have e1 : dropK lit k (y :: r) = r := by
        have := drop_id h hn
        unfold dropK at this ⊢
        rw [List.filter_cons, if_neg (by simp [hy]), this]
      have e2 : getK lit k (y :: r) = some y.2 := by unfold getK; rw [List.find?_cons, hy]; rfl
      rw [e1, e2]
      unfold totK
      simp only [List.map_cons, List.sum_cons, List.length_cons, gotN, Option.isSome_some, if_pos]
      exact ⟨by omega, trivial⟩
theorem put_tot (h : LitOk lit) (g : α → Nat) {k : κ} {a : α} {l : List (κ × α)} (hp : l.Pairwise (fun p q => lit p.1 ≠ lit q.1)) : totK g (putK lit k a l) + gotN g (getK lit k l) = totK g l + g a := by
  have h1 := (drop_tot h g (k := k) hp).1
  unfold putK
  rw [tot_ins]
  show totK g (dropK lit k l) + g a + _ = _
  omega
theorem put_len (h : LitOk lit) {k : κ} {a : α} {l : List (κ × α)} (hp : l.Pairwise (fun p q => lit p.1 ≠ lit q.1)) : (putK lit k a l).length + (if (getK lit k l).isSome = true then 1 else 0) = l.length + 1 := by
  have h1 := (drop_tot h (fun _ => 0) (k := k) hp).2
  unfold putK
  rw [ins_len]
  omega
end
theorem litS : LitOk slit := ⟨slit_inj, fun k => by simp [slit, Lit.sameKey]⟩
theorem tot_cons {κ α : Type} (g : α → Nat) (y : κ × α) (r : List (κ × α)) : totK g (y :: r) = g y.2 + totK g r := by unfold totK; rw [List.map_cons, List.sum_cons]
theorem get_of_mem {κ α : Type} {lit : κ → Lit} (h : LitOk lit) : ∀ {l : List (κ × α)}, l.Pairwise (fun p q => lit p.1 ≠ lit q.1) → ∀ {p : κ × α}, p ∈ l → getK lit p.1 l = some p.2
  | [], _, p, hp => by cases hp
  | y :: r, hw, p, hp => by
    obtain ⟨h1, h2⟩ := List.pairwise_cons.1 hw
    unfold getK
    rw [List.find?_cons]
    rcases List.mem_cons.1 hp with rfl | g
    · rw [h.same]; rfl
    · have h3 : (lit y.1).sameKey (lit p.1) = false := by
        rw [Bool.eq_false_iff]; intro e
        exact h1 p g (WideAt.sameKey_eq e)
      rw [h3]
      exact get_of_mem h h2 g
theorem GM.rise {κ α : Type} {T : MTy} {lit : κ → Lit} {f : α → Value} {w : World} {M : Nat} {l : List (κ × α)} (h : GM T lit f w M l) : l.Pairwise fun p q => (lit p.1).before (lit q.1) = true := by
  obtain ⟨es, he, hp, _⟩ := World.ownsMap.canon h T.K
  have e1 : es = encK lit f l := by cases he; rfl
  rw [e1] at hp
  unfold encK at hp
  exact (List.pairwise_map (f := fun p : κ × α => (lit p.1, (DataW.held (f p.2) : DataW Value))) (R := fun p q => p.1.before q.1 = true)).1 hp
theorem bb_lt : ∀ a b : List UInt8, bytesBefore a b = true → a < b
  | [], [], h => by cases h
  | [], b :: s, _ => List.nil_lt_cons _ _
  | a :: r, [], h => by cases h
  | a :: r, b :: s, h => by
    unfold bytesBefore at h
    rw [List.cons_lt_cons_iff]
    rcases Bool.or_eq_true_iff.1 h with g | g
    · exact .inl (by simpa using g)
    · obtain ⟨g1, g2⟩ := Bool.and_eq_true_iff.1 g
      exact .inr ⟨by simpa using g1, bb_lt r s g2⟩
end Go.Proofs.YtadfmenlpnibnaaGreat
end PkMS1_5
section PkMS1_6
/- Twin and bytes.Clone, walked; small words beside them. -/
namespace Go.Proofs.YtadfmenlpnibnaaGreat
open Go.RowKit
set_option linter.unusedVariables false

theorem u32_of_wf' {n : Int} (h : (Lit.int .u32 n).wf = true) : ∃ m : Nat, n = (m : Int) ∧ m < 4294967296 := by
  have : 0 ≤ n ∧ n ≤ 4294967295 := by simpa [Lit.wf, IntKind.min, IntKind.max, IntKind.signed, IntKind.bits] using h
  exact ⟨n.toNat, by omega, by omega⟩
theorem u64_of_wf {n : Int} (h : (Lit.int .u64 n).wf = true) : ∃ m : Nat, n = (m : Int) ∧ m < 18446744073709551616 := by
  have : 0 ≤ n ∧ n ≤ 18446744073709551615 := by simpa [Lit.wf, IntKind.min, IntKind.max, IntKind.signed, IntKind.bits] using h
  exact ⟨n.toNat, by omega, by omega⟩

theorem i64_of_wf {n : Int} (h : (Lit.int .i64 n).wf = true) : -9223372036854775808 ≤ n ∧ n ≤ 9223372036854775807 := by
  simpa [Lit.wf, IntKind.min, IntKind.max, IntKind.signed, IntKind.bits] using h

theorem BytesAt.drew {w : World} {a : Option Addr} {n c : Nat} {xs : List Nat} (h : BytesAt w a n c xs) : BytesAt w.drew a n c xs :=
  ⟨h.len, h.cap, h.byte, h.reach, h.capm, h.nl, h.cells⟩

theorem BytesAt.drewN {w : World} {a : Option Addr} {n c : Nat} {xs : List Nat} (h : BytesAt w a n c xs) (k : Nat) : BytesAt (w.drewN k) a n c xs :=
  h.kept ⟨rfl, rfl, rfl, Nat.le_refl _, fun _ _ => rfl⟩

theorem grown_drewN (w : World) (k : Nat) (r : Option Nat) : w.grownBy (w.drewN k) r := ⟨rfl, rfl, rfl, Nat.le_refl _, fun _ _ _ => rfl⟩
theorem _root_.Go.World.grownBy.trans' {a b c : World} {r : Option Nat} (h : a.grownBy b r) (k : b.grownBy c r) : a.grownBy c r :=
  ⟨k.os.trans h.os, k.tape.trans h.tape, k.output.trans h.output, Nat.le_trans h.size k.size, fun i hi hr => (k.block i (Nat.lt_of_lt_of_le hi h.size) hr).trans (h.block i hi hr)⟩

/-- a row of integers that came in -/
structure RowAt (k : IntKind) (w : World) (a : Option Addr) (n c : Nat) (zs : List Int) : Prop where
  cap : n ≤ c
  capm : c ≤ 9223372036854775807
  nl : a = none → c = 0
  cells : 0 < n → ∃ b off, a = some ⟨b, off, none⟩ ∧ b < w.heap.size ∧ ∀ i, i < n → w.cell? ⟨b, off + i, none⟩ = some (.int k (zs.getD i 0)) ∧ (Lit.int k (zs.getD i 0)).wf = true

theorem IsRow.at_ {k : IntKind} {s : Nat} {w : World} {a : Option Addr} {len cap : Nat} {zs : List Int} (h : IsRow k s w a len cap zs) : RowAt k w a len cap zs := by
  rcases h with ⟨rfl, rfl, rfl, rfl⟩ | ⟨x, rfl, hl, hm, hz, hcell, hwz, hr⟩
  · exact ⟨Nat.le_refl _, by omega, fun _ => rfl, fun h => absurd h (Nat.lt_irrefl 0)⟩
  · refine ⟨hl, by unfold maxLen at hm; exact hm, (fun e => by cases e), fun hp => ?_⟩
    obtain ⟨b, off, spot⟩ := x
    have hc := hcell 0 (by omega)
    have hspot : spot = none := by simpa [Addr.add] using World.cell?_spot hc
    subst hspot
    refine ⟨b, off, rfl, ?_, fun i hi => ?_⟩
    · have := World.block_lt_of_cell? w _ hc
      simpa [Addr.add] using this
    · have h1 := hcell i (by omega)
      have h4 : (⟨b, off, none⟩ : Addr).add i = ⟨b, off + i, none⟩ := by unfold Addr.add; split <;> simp_all
      rw [h4] at h1
      have h2 : i < zs.length := by omega
      refine ⟨h1, hwz _ ?_⟩
      have : zs.getD i 0 = zs[i] := by simp [h2]
      rw [this]
      exact List.getElem_mem h2

theorem BytesAt.ofOwn {w : World} {base n : Nat} {v : Value} {xs : List Nat} (h : w.ownsRow base 5 1 v n (bv xs)) (hb : ∀ x ∈ xs, x < 256) (hr : n ≤ 140737488351232) :
    ∃ a c, v = .slice a n c ∧ BytesAt w a n c xs ∧ (∀ b off s, a = some ⟨b, off, s⟩ → base ≤ b) := by
  rcases Nat.eq_zero_or_pos n with h0 | hp
  · subst h0
    have hx : xs = [] := by
      have := h.1
      simp only [Nat.zero_mul, bv_length] at this
      exact List.eq_nil_of_length_eq_zero this
    subst hx
    rcases h.2 with ⟨h1, _⟩ | ⟨g, cap, cur, rfl, hg, hh, hn, hcap, hsz, htake⟩
    · subst h1
      exact ⟨none, 0, rfl, BytesAt.empty _ _ _ (by omega) (fun _ => rfl), fun _ _ _ e => by cases e⟩
    · exact ⟨some ⟨g, 0, none⟩, cap, rfl, BytesAt.empty _ _ _ (by unfold maxLen at hcap; exact hcap) (fun e => by cases e), fun b off s e => by cases e; exact hg⟩
  · obtain ⟨g, c, rfl, hg, hlt, hba⟩ := BytesAt.own h hb hp hr
    exact ⟨some ⟨g, 0, none⟩, c, rfl, hba, fun b off s e => by cases e; exact hg⟩




end Go.Proofs.YtadfmenlpnibnaaGreat
end PkMS1_6
section PkMS1_7
/- Bytes that the call owns, kept behind calls that leave old memory alone; bytes.Clone gives such ones. -/
namespace Go.Proofs.YtadfmenlpnibnaaGreat
open Go.RowKit
set_option linter.unusedVariables false

theorem own_below {w w' : World} {base : Nat} {e : TypeId} {size : Nat} {v : Value} {n : Nat} {xs : List Value} (h : w.ownsRow base e size v n xs) (hb : Below w.heap.size w w') : w'.ownsRow base e size v n xs :=
  h.kept (row := none) ⟨hb.os, hb.tape, hb.output, hb.size, fun k hk _ => hb.block k hk⟩ (by cases hv : v.ownBlock <;> simp)

theorem own_nil_bytes (w : World) (base : Nat) : w.ownsRow base 5 1 (.slice none 0 0) 0 (bv []) := World.ownsRow_nil w base _ _

/-- what is appended to what a call owns: the frame stays below -/
theorem below_own {w w' : World} {B base : Nat} {e : TypeId} {size : Nat} {v : Value} {n : Nat} {xs : List Value} {w0 : World} (hb : Below B w0 w) (hown : w.ownsRow base e size v n xs) (hg : w.grownBy w' v.ownBlock) (hB : B ≤ base) (hs : B ≤ w.heap.size) : Below B w0 w' :=
  hb.grown hg hs (fun k hk => Nat.le_trans hB (hown.lt k hk).1)
/-- what a call owns of one type, and of another: not in one block -/
theorem own_ne2 {w : World} {base base' : Nat} {e e' : TypeId} {size size' : Nat} {v v' : Value} {n n' : Nat} {xs xs' : List Value} (h : w.ownsRow base e size v n xs) (h' : w.ownsRow base' e' size' v' n' xs') (hne : e ≠ e') : v.ownBlock = none ∨ v.ownBlock ≠ v'.ownBlock := by
  rcases h.2 with ⟨rfl, _⟩ | ⟨g, cap, cur, rfl, _, hg, _⟩
  · exact .inl rfl
  · rcases h'.2 with ⟨rfl, _⟩ | ⟨g', cap', cur', rfl, _, hg', _⟩
    · exact .inr (by simp [Value.ownBlock])
    · refine .inr fun e1 => ?_
      simp [Value.ownBlock] at e1
      subst e1
      rw [hg] at hg'
      simp at hg'
      exact hne hg'.2

/-- what was made later than another one's row is kept when that one is appended to -/
theorem own_other {w w' w0 : World} {base base' : Nat} {e e' : TypeId} {size size' : Nat} {v v' : Value} {n n' : Nat} {xs xs' : List Value} (h : w.ownsRow base e size v n xs) (hg : w.grownBy w' v'.ownBlock) (h' : w0.ownsRow base' e' size' v' n' xs') (hb : w0.heap.size ≤ base) : w'.ownsRow base e size v n xs := by
  refine h.kept hg ?_
  cases hv : v.ownBlock with
  | none => exact .inl rfl
  | some k =>
    refine .inr fun e => ?_
    have h1 := (h.lt k hv).1
    have h2 := (h'.lt k e.symm).2
    omega
end Go.Proofs.YtadfmenlpnibnaaGreat
end PkMS1_7
section PkMS1_8
/- Slices of things of any struct, as walks are told of them: wherever they lie; what a call owns; as a law's argument. -/
namespace Go.Proofs.YtadfmenlpnibnaaGreat
open Go.ChangeShapes Go.WideShapes Go.Deep Go.RowKit
set_option linter.unusedVariables false

theorem vflat_len {α : Type} (f : α → List Value) (K : Nat) (hK : ∀ x, (f x).length = K) : ∀ l : List α, (l.flatMap f).length = l.length * K
  | [] => by simp
  | x :: r => by rw [List.flatMap_cons, List.length_append, hK, vflat_len f K hK r, List.length_cons, Nat.succ_mul]; omega
theorem vflat_at {α : Type} (f : α → List Value) (K : Nat) (hK : ∀ x, (f x).length = K) (d : α) : ∀ (l : List α) (i j : Nat), i < l.length → j < K → (l.flatMap f)[i * K + j]? = (f (l.getD i d))[j]?
  | x :: r, 0, j, _, hj => by
    rw [List.flatMap_cons, Nat.zero_mul, Nat.zero_add, List.getElem?_append_left (by rw [hK]; exact hj)]; rfl
  | x :: r, i + 1, j, hi, hj => by
    rw [List.flatMap_cons, List.getElem?_append_right (by rw [hK, Nat.succ_mul]; omega), hK, show (i + 1) * K + j - K = i * K + j from by rw [Nat.succ_mul]; omega, vflat_at f K hK d r i j (by simpa using hi) hj]
    rfl
/-- things of K cells, and what else holds of them in a world -/
structure Sty (α : Type) where
  f : α → List Value
  K : Nat
  z : α
  ok : World → α → Prop
  pos : 0 < K
  wid : ∀ x, (f x).length = K
  one : ∀ x, ∀ u ∈ f x, u.oneCell' = true
  mono : ∀ {w w' : World} {x : α}, Below w.heap.size w w' → ok w x → ok w' x
def Sty.flat {α : Type} (S : Sty α) (l : List α) : List Value := l.flatMap S.f
structure VecAt {α : Type} (S : Sty α) (w : World) (a : Option Addr) (n c : Nat) (l : List α) : Prop where
  len : l.length = n
  cap : n ≤ c
  capm : c ≤ 9223372036854775807
  nl : a = none → c = 0
  all : ∀ x ∈ l, S.ok w x
  cells : 0 < n → ∃ b off, a = some ⟨b, off, none⟩ ∧ b < w.heap.size ∧ ∀ i, i < n → ∀ j u, (S.f (l.getD i S.z))[j]? = some u → w.cell? ⟨b, off + i * S.K + j, none⟩ = some u
section
variable {α : Type} {S : Sty α} {w w' : World} {a : Option Addr} {n c : Nat} {l : List α}
theorem VecAt.kept (h : VecAt S w a n c l) (hb : Below w.heap.size w w') : VecAt S w' a n c l :=
  ⟨h.len, h.cap, h.capm, h.nl, fun x hx => S.mono hb (h.all x hx), fun hn => by
    obtain ⟨b, off, ha, hlt, hc⟩ := h.cells hn
    exact ⟨b, off, ha, Nat.lt_of_lt_of_le hlt hb.size, fun i hi j u hu => (hb.cell (p := ⟨b, off + i * S.K + j, none⟩) hlt).trans (hc i hi j u hu)⟩⟩
theorem VecAt.empty (w : World) (a : Option Addr) (c : Nat) (hc : c ≤ 9223372036854775807) (ha : a = none → c = 0) : VecAt S w a 0 c [] :=
  ⟨rfl, Nat.zero_le _, hc, ha, (fun x hx => by cases hx), fun h => absurd h (Nat.lt_irrefl 0)⟩
theorem vec_mem {i : Nat} (h : i < l.length) : l.getD i S.z ∈ l := by
  have : l.getD i S.z = l[i] := by simp [h]
  rw [this]; exact List.getElem_mem h
theorem VecAt.get (h : VecAt S w a n c l) {i : Nat} (hi : i < n) : ∃ b off, a = some ⟨b, off, none⟩ ∧ b < w.heap.size ∧ S.ok w (l.getD i S.z) ∧ ∀ j u, (S.f (l.getD i S.z))[j]? = some u → w.cell? ⟨b, off + i * S.K + j, none⟩ = some u := by
  obtain ⟨b, off, ha, hlt, hc⟩ := h.cells (by omega)
  exact ⟨b, off, ha, hlt, h.all _ (vec_mem (by rw [h.len]; exact hi)), hc i hi⟩
theorem VecAt.ofOwn {base : Nat} {e : TypeId} (h : w.ownsRow base e S.K (.slice a n c) n (S.flat l)) (hl : l.length = n) (hok : ∀ x ∈ l, S.ok w x) : VecAt S w a n c l := by
  rcases h.2 with ⟨he, h0⟩ | ⟨g, cap, cur, he, hg, hh, hnc, hcap, hsz, htake⟩
  · cases he
    obtain rfl : l = [] := List.eq_nil_of_length_eq_zero hl
    exact VecAt.empty w none 0 (by omega) (fun _ => rfl)
  · cases he
    refine ⟨hl, hnc, by unfold maxLen at hcap; exact hcap, (fun e => by cases e), hok, fun hp => ⟨g, 0, rfl, (Array.getElem?_eq_some_iff.1 hh).1, fun i hi j u hu => ?_⟩⟩
    have hj : j < S.K := by rw [← S.wid (l.getD i S.z)]; exact (List.getElem?_eq_some_iff.1 hu).1
    have h2 : (S.flat l)[i * S.K + j]? = some u := by
      unfold Sty.flat
      rw [vflat_at S.f S.K S.wid S.z l i j (by omega) hj, hu]
    have hlt : i * S.K + j < n * S.K := by
      have := Nat.mul_le_mul_right S.K (show i + 1 ≤ n by omega)
      rw [Nat.succ_mul] at this; omega
    rw [Nat.zero_add, cell_of_row w _ _ _ _ (0, 0) hh, ← h2, ← htake, List.getElem?_take_of_lt hlt, Array.getElem?_toList]
theorem Sty.flat_len (S : Sty α) (l : List α) : (S.flat l).length = l.length * S.K := Go.Proofs.YtadfmenlpnibnaaGreat.vflat_len S.f S.K S.wid l
theorem Sty.flat_snoc (S : Sty α) (l : List α) (x : α) : S.flat (l ++ [x]) = S.flat l ++ S.f x := by unfold Sty.flat; simp
theorem Sty.flat_one (S : Sty α) (l : List α) : ∀ u ∈ S.flat l, u.oneCell' = true := by
  intro u hu
  obtain ⟨x, _, hx⟩ := List.mem_flatMap.1 hu
  exact S.one x u hx
theorem VecAt.src {ad : Addr} (h : VecAt S w (some ad) n c l) : ∀ j u, (S.flat l)[j]? = some u → w.cell? (ad.add j) = some u := by
  intro j u hu
  have hj : j < n * S.K := by rw [← h.len, ← S.flat_len]; exact (List.getElem?_eq_some_iff.1 hu).1
  have hn : 0 < n := by
    rcases Nat.eq_zero_or_pos n with e | e
    · rw [e, Nat.zero_mul] at hj; omega
    · exact e
  obtain ⟨b, off, he, hlt, hc⟩ := h.cells hn
  cases he
  have hdiv : j / S.K < n := (Nat.div_lt_iff_lt_mul S.pos).2 hj
  have hmod : j % S.K < S.K := Nat.mod_lt _ S.pos
  have e1 : j / S.K * S.K + j % S.K = j := by rw [Nat.mul_comm]; exact Nat.div_add_mod j S.K
  have h2 := vflat_at S.f S.K S.wid S.z l (j / S.K) (j % S.K) (by rw [h.len]; exact hdiv) hmod
  rw [e1] at h2
  have h3 := hc (j / S.K) hdiv (j % S.K) u (by rw [← h2]; exact hu)
  have h4 : (⟨b, off, none⟩ : Addr).add j = ⟨b, off + j, none⟩ := by unfold Addr.add; split <;> simp_all
  rw [h4, ← h3, Nat.add_assoc, e1]
end
/-- one thing, newly laid -/
theorem Sty.src {α : Type} (S : Sty α) (w : World) (x : α) (t : TypeId) {cs : Array Value} (hcs : cs = (S.f x).toArray) : ∀ j u, (S.f x)[j]? = some u → (w.alloc (.cells cs t)).cell? ((⟨w.heap.size, 0, none⟩ : Addr).add j) = some u := by
  intro j u hj
  have hblk := heap_alloc_new w (.cells cs t)
  have hadd : (⟨w.heap.size, 0, none⟩ : Addr).add j = ⟨w.heap.size, 0 + j, none⟩ := by unfold Addr.add; split <;> simp_all
  rw [hadd, Nat.zero_add, cell_of_row _ _ _ _ _ (0, 0) hblk, hcs, List.getElem?_toArray]
  exact hj
theorem vec_wadd {H : Type} {P : Program} {e : TypeId} {d : DataW H} {n : Nat} : ∀ {l : List (DataW H)}, d ∈ l → n ∈ DataW.weights P e d → n ∈ DataW.weightsAll P e l
  | [], h, _ => by cases h
  | x :: r, h, hn => by
    rw [DataW.weightsAll]
    rcases List.mem_cons.1 h with rfl | h
    · exact List.mem_append_left _ hn
    · exact List.mem_append_right _ (vec_wadd h hn)
/-- opened, as a law's argument -/
theorem open_vec {α : Type} (S : Sty α) {H : Type} {enc : TypeId × Value → H} {W : World} {fuel : Nat} {T e : TypeId} {a : Option Addr} {len cap : Nat} {x : DataW H × List MemPlace} (ht : Tryz.prog.underlying T = some (.slice e)) (hK : Tryz.prog.cellsOf e = S.K)
    (hfld : ∀ (fuel : Nat) (cs : List Value) (y : DataW H × List MemPlace), DataW.trod enc Tryz.prog W 0 (fun _ => true) true fuel e cs = some y → (∀ n, n ∈ DataW.weights Tryz.prog e y.1 → n ≤ reachBytes) → ∃ r : α, cs = S.f r ∧ S.ok W r)
    (hf : DataW.trod enc Tryz.prog W 0 (fun _ => true) true fuel T [.slice a len cap] = some x) (hw : ∀ n, n ∈ DataW.weights Tryz.prog T x.1 → n ≤ reachBytes) : ∃ l : List α, VecAt S W a len cap l := by
  rcases open_slice ht hf with ⟨hcs, _⟩ | ⟨x0, l, c, m, n, D, Pl, hcs, _, hl, hm, hmm, hx, hi⟩
  · simp at hcs
    obtain ⟨rfl, rfl, rfl⟩ := hcs
    exact ⟨[], VecAt.empty W none 0 (by omega) (fun _ => rfl)⟩
  · simp at hcs
    obtain ⟨rfl, rfl, rfl⟩ := hcs
    rw [hK] at hi
    have hm2 : m = cap := by rw [hmm]; simp
    have hone : ∀ i : Nat, ∃ r : α, i < len → (∀ j u, (S.f r)[j]? = some u → W.cell? (x0.add (i * S.K + j)) = some u) ∧ S.ok W r := by
      intro i
      by_cases hil : i < len
      · obtain ⟨cs, hcc, ht2⟩ := hi i (by omega)
        obtain ⟨r, rfl, hok⟩ := hfld _ _ _ ht2 (fun n hn => hw n (by
          rw [hx]
          simp only [DataW.weights, ht]
          exact List.mem_cons_of_mem _ (List.mem_append_left _ (vec_wadd (List.mem_map.2 ⟨i, List.mem_range.2 hil, rfl⟩) hn))))
        obtain ⟨_, hl9, hat⟩ := World.cells?_some hcc
        refine ⟨r, fun _ => ⟨fun j u hu => ?_, hok⟩⟩
        have := hat j (by rw [← hl9]; exact (List.getElem?_eq_some_iff.1 hu).1)
        rw [add_add, hu] at this
        exact this
      · exact ⟨S.z, fun h => absurd h hil⟩
    obtain ⟨f, hF⟩ := Classical.skolem.1 hone
    have hget : ∀ i, i < len → ((List.range len).map f).getD i S.z = f i := fun i h => by simp [h]
    refine ⟨(List.range len).map f, by simp, hl, by unfold maxLen at hm; exact hm, (fun e => by cases e), ?_, fun hp => ?_⟩
    · intro y hy
      obtain ⟨i, hi', rfl⟩ := List.mem_map.1 hy
      exact (hF i (List.mem_range.1 hi')).2
    · obtain ⟨b, off, spot⟩ := x0
      have h00 : 0 < (S.f (f 0)).length := by rw [S.wid]; exact S.pos
      have hc := (hF 0 hp).1 0 _ (List.getElem?_eq_getElem h00)
      have hspot : spot = none := by simpa [Addr.add] using World.cell?_spot hc
      subst hspot
      refine ⟨b, off, rfl, ?_, fun i hi' j u hu => ?_⟩
      · have := World.block_lt_of_cell? W _ hc
        simpa [Addr.add] using this
      · rw [hget i hi'] at hu
        have h0 := (hF i hi').1 j u hu
        have h4 : (⟨b, off, none⟩ : Addr).add (i * S.K + j) = ⟨b, off + (i * S.K + j), none⟩ := by unfold Addr.add; split <;> simp_all
        rw [h4, ← Nat.add_assoc] at h0
        exact h0
/-- integers, as things of one cell -/
def IntS : Sty Int := ⟨fun z => [.int .i64 z], 1, 0, fun _ z => (Lit.int .i64 z).wf = true, by decide, fun _ => rfl, (fun x u hu => by rw [List.mem_singleton.1 hu]; rfl), fun _ h => h⟩
end Go.Proofs.YtadfmenlpnibnaaGreat
end PkMS1_8
section PkMS1_9
/- Labels, plainly: names, sets, what is asked of them. No Go in sight. -/
namespace Go.Proofs.YtadfmenlpnibnaaGreat.LabPlain
open Go
set_option linter.unusedVariables false

/-- a text's byte -/
def at_ (s : ByteArray) (i : Nat) : Nat := (s.data.toList.getD i 0).toNat
theorem at_get (s : ByteArray) (i : Nat) (h : i < s.size) : at_ s i = (s[i]'h).toNat := by
  unfold at_
  have h2 : i < s.data.toList.length := by simpa using h
  rw [List.getD_eq_getElem?_getD, List.getElem?_eq_getElem h2]
  rfl
theorem at_lt (s : ByteArray) (i : Nat) : at_ s i < 256 := UInt8.toNat_lt _
/-- is it a small letter; may it stand in a name? -/
def isL (c : Nat) : Bool := decide (97 ≤ c) && decide (c ≤ 122)
def okC (c : Nat) : Bool := isL c || decide (c = 95) || (decide (48 ≤ c) && decide (c ≤ 57))
/-- are the first k bytes such? -/
def allC (s : ByteArray) : Nat → Bool
  | 0 => true
  | k + 1 => allC s k && okC (at_ s k)
theorem allC_no {s : ByteArray} {k : Nat} (h : okC (at_ s k) = false) : ∀ d, allC s (k + 1 + d) = false
  | 0 => by simp [allC, h]
  | d + 1 => by rw [← Nat.add_assoc, allC, allC_no h d]; rfl
/-- a name -/
def isNm (s : ByteArray) : Bool := decide (1 ≤ s.size) && decide (s.size ≤ 8) && isL (at_ s 0) && allC s s.size

/-- one text ahead of another one -/
def ltB (a b : ByteArray) : Bool := Op.bytesLess a.toList b.toList
theorem bl_irrefl : ∀ a : List UInt8, Op.bytesLess a a = false
  | [] => rfl
  | a :: x => by simp [Op.bytesLess, bl_irrefl x]
theorem bl_trans : ∀ a b c : List UInt8, Op.bytesLess a b = true → Op.bytesLess b c = true → Op.bytesLess a c = true
  | a, b, [], _, h2 => by cases b <;> simp [Op.bytesLess] at h2
  | a, [], c :: z, h1, _ => by cases a <;> simp [Op.bytesLess] at h1
  | [], b :: y, c :: z, _, _ => rfl
  | a :: x, b :: y, c :: z, h1, h2 => by
    simp only [Op.bytesLess, Bool.or_eq_true, decide_eq_true_eq, Bool.and_eq_true, beq_iff_eq] at h1 h2 ⊢
    rcases h1 with h1 | ⟨h1, h1'⟩
    · rcases h2 with h2 | ⟨h2, _⟩
      · exact .inl (UInt8.lt_trans h1 h2)
      · subst h2; exact .inl h1
    · subst h1
      rcases h2 with h2 | ⟨h2, h2'⟩
      · exact .inl h2
      · subst h2
        exact .inr ⟨rfl, bl_trans x y z h1' h2'⟩
theorem bl_total : ∀ a b : List UInt8, a ≠ b → Op.bytesLess a b = false → Op.bytesLess b a = true
  | [], [], h, _ => absurd rfl h
  | [], b :: y, _, h => by simp [Op.bytesLess] at h
  | a :: x, [], _, _ => rfl
  | a :: x, b :: y, hne, h => by
    simp only [Op.bytesLess, Bool.or_eq_false_iff, decide_eq_false_iff_not, Bool.and_eq_false_imp, beq_iff_eq] at h
    simp only [Op.bytesLess, Bool.or_eq_true, decide_eq_true_eq, Bool.and_eq_true, beq_iff_eq]
    by_cases e : a = b
    · subst e
      exact .inr ⟨rfl, bl_total x y (fun e => hne (by rw [e])) (h.2 rfl)⟩
    · refine .inl ?_
      have h1 := h.1
      rw [UInt8.not_lt] at h1
      rcases UInt8.lt_or_eq_of_le h1 with g | g
      · exact g
      · exact absurd g.symm e
theorem leq_not (a b : ByteArray) : (Op.bytesLess a.toList b.toList || a.toList == b.toList) = !ltB b a := by
  unfold ltB
  cases h : Op.bytesLess b.toList a.toList with
  | true =>
    rw [Bool.not_true, Bool.or_eq_false_iff]
    refine ⟨?_, ?_⟩
    · cases h2 : Op.bytesLess a.toList b.toList with
      | false => rfl
      | true => have := bl_trans _ _ _ h2 h; rw [bl_irrefl] at this; cases this
    · rw [beq_eq_false_iff_ne]; intro e; rw [e, bl_irrefl] at h; cases h
  | false =>
    rw [Bool.not_false]
    by_cases e : a.toList = b.toList
    · rw [e]; simp
    · rw [bl_total _ _ (fun e2 => e e2.symm) h]; rfl
theorem ltB_irrefl (a : ByteArray) : ltB a a = false := bl_irrefl _
theorem ltB_trans {a b c : ByteArray} (h1 : ltB a b = true) (h2 : ltB b c = true) : ltB a c = true := bl_trans _ _ _ h1 h2
theorem toList_inj {a b : ByteArray} (h : a.toList = b.toList) : a = b := by
  rw [ByteArray.toList_eq, ByteArray.toList_eq] at h
  cases a; cases b
  simpa using h
theorem eq_toList (a b : ByteArray) : (a.toList == b.toList) = decide (a = b) := by
  rw [Bool.eq_iff_iff, beq_iff_eq, decide_eq_true_eq]
  exact ⟨toList_inj, fun h => by rw [h]⟩

/-- a label: a name and a value -/
abbrev Lab := ByteArray × ByteArray
def lab0 : Lab := (ByteArray.empty, ByteArray.empty)
/-- are the first k right, each behind the one ahead of it? -/
def upTo (l : List Lab) : Nat → Bool
  | 0 => true
  | k + 1 => upTo l k && (isNm (l.getD k lab0).1 && decide ((l.getD k lab0).2.size ≤ 16) && (decide (k = 0) || ltB (l.getD (k - 1) lab0).1 (l.getD k lab0).1))
/-- a label set -/
def isSet (l : List Lab) : Bool := decide (l.length ≤ 4) && upTo l l.length
theorem upTo_no {l : List Lab} {k : Nat} (h : (isNm (l.getD k lab0).1 && decide ((l.getD k lab0).2.size ≤ 16) && (decide (k = 0) || ltB (l.getD (k - 1) lab0).1 (l.getD k lab0).1)) = false) : ∀ d, upTo l (k + 1 + d) = false
  | 0 => by rw [upTo, h, Bool.and_false]
  | d + 1 => by rw [← Nat.add_assoc, upTo, upTo_no h d]; rfl
theorem upTo_le {l : List Lab} {k : Nat} (h : upTo l k = true) {j : Nat} (hj : j < k) : isNm (l.getD j lab0).1 = true ∧ (l.getD j lab0).2.size ≤ 16 ∧ (j = 0 ∨ ltB (l.getD (j - 1) lab0).1 (l.getD j lab0).1 = true) := by
  obtain ⟨d, rfl⟩ : ∃ d, k = j + 1 + d := ⟨k - (j + 1), by omega⟩
  cases hc : (isNm (l.getD j lab0).1 && decide ((l.getD j lab0).2.size ≤ 16) && (decide (j = 0) || ltB (l.getD (j - 1) lab0).1 (l.getD j lab0).1)) with
  | false => rw [upTo_no hc d] at h; cases h
  | true => simpa [Bool.and_assoc] using hc
/-- names rise all along -/
theorem upTo_lt {l : List Lab} {k : Nat} (h : upTo l k = true) : ∀ d i, i + 1 + d < k → ltB (l.getD i lab0).1 (l.getD (i + 1 + d) lab0).1 = true
  | 0, i, hi => by
    rcases (upTo_le h (j := i + 1) (by omega)).2.2 with g | g
    · omega
    · exact g
  | d + 1, i, hi => by
    rcases (upTo_le h (j := i + 1 + (d + 1)) (by omega)).2.2 with g | g
    · omega
    · exact ltB_trans (upTo_lt h d i (by omega)) g
end Go.Proofs.YtadfmenlpnibnaaGreat.LabPlain
end PkMS1_9
section PkMS1_10
/- Manifests: entries, marks and owners where they lie; small functions, walked. Written by genmfa.py. -/
namespace Go.Proofs.YtadfmenlpnibnaaGreat
open Go.RowKit LabPlain
set_option linter.unusedVariables false

structure EntV where
  key : ByteArray
  win : Int
  part : ByteArray
  fst : Int
  lst : Int
  rows : Int
  size : Int
  sum : Int
  born : Int
def ent0 : EntV := ⟨ByteArray.empty, 0, ByteArray.empty, 0, 0, 0, 0, 0, 0⟩
def EntV.cells (x : EntV) : List Value := [.string x.key, .int .i64 x.win, .string x.part, .int .i64 x.fst, .int .i64 x.lst, .int .i64 x.rows, .int .i64 x.size, .int .u32 x.sum, .int .i64 x.born]
def EntS : Sty EntV := ⟨EntV.cells, 9, ent0, fun _ x => x.key.size ≤ 140737488355328 ∧ x.part.size ≤ 140737488355328 ∧ (0 ≤ x.sum ∧ x.sum ≤ 4294967295), by decide, fun _ => rfl, (fun x u hu => by simp [EntV.cells] at hu; rcases hu with rfl | rfl | rfl | rfl | rfl | rfl | rfl | rfl | rfl <;> rfl), fun _ h => h⟩
def MarkS : Sty (Int × Int) := ⟨fun x => [.int .i64 x.1, .int .i64 x.2], 2, (0, 0), fun _ _ => True, by decide, fun _ => rfl, (fun x u hu => by simp at hu; rcases hu with rfl | rfl <;> rfl), fun _ h => h⟩
def OwnS : Sty (Int × Int × Int) := ⟨fun x => [.int .i64 x.1, .int .i64 x.2.1, .int .i64 x.2.2], 3, (0, 0, 0), fun _ _ => True, by decide, fun _ => rfl, (fun x u hu => by simp at hu; rcases hu with rfl | rfl | rfl <;> rfl), fun _ h => h⟩

theorem within_yes {n a b : Int} (h1 : a ≤ n) (h2 : n ≤ b) (w : World) : Calls Tryz.prog 41 #[.int .i64 n, .int .i64 a, .int .i64 b] w fun e w' => e = .returned (.bool true) ∧ w' = w := by
  go_enter Tryz.func41, Tryz.ntmps41
  go_wp2_with fail
  go_ret
  exact ⟨rfl, rfl⟩
set_option maxRecDepth 100000 in
theorem rightMark_yes {a b : Int} (h1 : 1 ≤ a ∧ a ≤ 64) (h2 : 1 ≤ b ∧ b ≤ 1099511627775) (w : World) : Calls Tryz.prog 46 #[.agg #[.int .i64 a, .int .i64 b]] w fun e w' => e = .returned (.bool true) ∧ Below w.heap.size w w' := by
  have HB := Lib.hid ((Below.refl w.heap.size w).alloc (Nat.le_refl _) (.cells #[.int .i64 a, .int .i64 b] 44))
  have HW1 := Lib.hid (within_yes h1.1 h1.2 (w.alloc (.cells #[.int .i64 a, .int .i64 b] 44)))
  have HW2 := Lib.hid (within_yes h2.1 h2.2 (w.alloc (.cells #[.int .i64 a, .int .i64 b] 44)))
  clear h1 h2
  go_enter Tryz.func46, Tryz.ntmps46
  go_wp2_with fail
  refine HW1.out.mono ?_
  rintro e w1 ⟨rfl, rfl⟩
  go_wp2_with fail
  refine HW2.out.mono ?_
  rintro e w1 ⟨rfl, rfl⟩
  go_wp2_with fail
  go_ret
  exact ⟨rfl, HB.out⟩
set_option maxRecDepth 100000 in
theorem rightOwner_yes {a b c : Int} (h1 : 1 ≤ a ∧ a ≤ 8) (h2 : 1 ≤ b ∧ b ≤ 1099511627775) (h3 : 1 ≤ c ∧ c ≤ 1099511627775) (w : World) : Calls Tryz.prog 48 #[.agg #[.int .i64 a, .int .i64 b, .int .i64 c]] w fun e w' => e = .returned (.bool true) ∧ Below w.heap.size w w' := by
  have HB := Lib.hid ((Below.refl w.heap.size w).alloc (Nat.le_refl _) (.cells #[.int .i64 a, .int .i64 b, .int .i64 c] 29))
  have HW1 := Lib.hid (within_yes h1.1 h1.2 (w.alloc (.cells #[.int .i64 a, .int .i64 b, .int .i64 c] 29)))
  have HW2 := Lib.hid (within_yes h2.1 h2.2 (w.alloc (.cells #[.int .i64 a, .int .i64 b, .int .i64 c] 29)))
  have HW3 := Lib.hid (within_yes h3.1 h3.2 (w.alloc (.cells #[.int .i64 a, .int .i64 b, .int .i64 c] 29)))
  clear h1 h2 h3
  go_enter Tryz.func48, Tryz.ntmps48
  go_wp2_with fail
  refine HW1.out.mono ?_
  rintro e w1 ⟨rfl, rfl⟩
  go_wp2_with fail
  refine HW2.out.mono ?_
  rintro e w1 ⟨rfl, rfl⟩
  go_wp2_with fail
  refine HW3.out.mono ?_
  rintro e w1 ⟨rfl, rfl⟩
  go_wp2_with fail
  go_ret
  exact ⟨rfl, HB.out⟩

set_option maxRecDepth 100000 in
theorem rising_nilE (a : Option Addr) (c : Nat) (cf rf : Value) (w : World) : Calls Tryz.prog 44 #[.slice a 0 c, cf, rf] w fun e w' => e = .returned (.bool true) ∧ w' = w := by
  go_enter Tryz.func44, Tryz.ntmps44
  go_wp2_with fail
  refine wp_loop_rounds 1 ?_
  rw [rounds_succ]
  go_wp2_with fail
  go_ret
  exact ⟨rfl, rfl⟩

set_option maxRecDepth 100000 in
theorem rising_nilM (a : Option Addr) (c : Nat) (cf rf : Value) (w : World) : Calls Tryz.prog 45 #[.slice a 0 c, cf, rf] w fun e w' => e = .returned (.bool true) ∧ w' = w := by
  go_enter Tryz.func45, Tryz.ntmps45
  go_wp2_with fail
  refine wp_loop_rounds 1 ?_
  rw [rounds_succ]
  go_wp2_with fail
  go_ret
  exact ⟨rfl, rfl⟩

set_option maxRecDepth 100000 in
theorem rising_nilO (a : Option Addr) (c : Nat) (cf rf : Value) (w : World) : Calls Tryz.prog 47 #[.slice a 0 c, cf, rf] w fun e w' => e = .returned (.bool true) ∧ w' = w := by
  go_enter Tryz.func47, Tryz.ntmps47
  go_wp2_with fail
  refine wp_loop_rounds 1 ?_
  rw [rounds_succ]
  go_wp2_with fail
  go_ret
  exact ⟨rfl, rfl⟩

set_option maxRecDepth 100000 in
theorem rising_nilS (a : Option Addr) (c : Nat) (cf rf : Value) (w : World) : Calls Tryz.prog 52 #[.slice a 0 c, cf, rf] w fun e w' => e = .returned (.bool true) ∧ w' = w := by
  go_enter Tryz.func52, Tryz.ntmps52
  go_wp2_with fail
  refine wp_loop_rounds 1 ?_
  rw [rounds_succ]
  go_wp2_with fail
  go_ret
  exact ⟨rfl, rfl⟩

end Go.Proofs.YtadfmenlpnibnaaGreat
end PkMS1_10
