/- Texts put together by packtpl2.py: Kit, Twin, Own, Byl, NumsPlain, Gb, NumsPut, NumsZig, NPuti, MfEn, AnyOrd, AnyOrd0, G2, Vec, LabPlain, MfA, MfE1. -/
import Derived.Test.YtbdgcfimbblncaaGreatDoorRows
import Derived.WalkKit
import Derived.Lib.Hide
import Derived.Laws.BytesArg
import Derived.Lib.SlBytesRow
import Derived.Outline
import Derived.Laws.Strings
import Derived.Laws.AppendOwnNone
import Derived.WalkSpells
import Derived.WalkSmall
import Derived.Deep.QuietTactic
import Derived.BigQuiet
import Derived.Deep.RegionHeld3
import Derived.Laws.BitsAllLaws
import Derived.Deep.Onto
import Derived.Lib.AppendStr
import Derived.Deep.Upon
import Derived.Deep.AppendSrc
import Derived.Deep.Slices
import Derived.Deep.Fields
import Derived.SizedLaws
import Derived.Below
import Derived.OpenShut
import Derived.Laws.Cover1
section PkMC1_0
/- Small words for walks over slices of bytes: a slice of bytes wherever it lies, kept behind calls that leave old memory alone; its text; two of them compared. No condition beyond what each lemma names. -/
namespace Go.Proofs.YtbdgcfimbblncaaGreatDoor
open Go.RowKit
set_option linter.unusedVariables false

theorem info_u8 : (Tryz.prog.info? 5).map (fun i => (i.zero, i.size, i.bytes)) = some (some (.int .u8 0), 1, 1) := by kernel_rfl

/-- bytes as values -/
def bv (l : List Nat) : List Value := l.map fun (x : Nat) => Value.int .u8 (x : Int)
theorem bv_length (l : List Nat) : (bv l).length = l.length := by simp [bv]
theorem bv_append (l r : List Nat) : bv (l ++ r) = bv l ++ bv r := by simp [bv]
theorem bv_get (l : List Nat) (i : Nat) (h : i < l.length) : (bv l)[i]? = some (Value.int .u8 ((l.getD i 0 : Nat) : Int)) := by simp [bv, h]
theorem bv_oneCell (l : List Nat) : ∀ u ∈ bv l, u.oneCell' = true := by
  intro u hu
  simp only [bv, List.mem_map] at hu
  obtain ⟨x, _, rfl⟩ := hu
  rfl

theorem one_oneCell {v : Value} (h : v.oneCell' = true) : ∀ u ∈ [v], u.oneCell' = true := by
  intro u hu
  simp at hu
  subst hu
  exact h

theorem one_src (w : World) (x : Value) (t : TypeId) : ∀ j u, [x][j]? = some u → (w.alloc (.cells #[x] t)).cell? ((⟨w.heap.size, 0, none⟩ : Addr).add j) = some u := by
  intro j u hj
  match j, hj with
  | 0, hj =>
    simp at hj
    subst hj
    simp [Addr.add]

/-- a slice of bytes: whatever its address where it has none -/
structure BytesAt (w : World) (a : Option Addr) (n c : Nat) (xs : List Nat) : Prop where
  len : xs.length = n
  cap : n ≤ c
  byte : ∀ x ∈ xs, x < 256
  reach : n ≤ 140737488351232
  capm : c ≤ 9223372036854775807
  nl : a = none → c = 0
  cells : 0 < n → ∃ b off, a = some ⟨b, off, none⟩ ∧ b < w.heap.size ∧ ∀ i, i < n → w.cell? ⟨b, off + i, none⟩ = some (.int .u8 ((xs.getD i 0 : Nat) : Int))

theorem BytesAt.keep {w w' : World} {a : Option Addr} {n c : Nat} {xs : List Nat} (h : BytesAt w a n c xs) {B : Nat} (hb : Below B w w') (hB : w.heap.size ≤ B) : BytesAt w' a n c xs :=
  ⟨h.len, h.cap, h.byte, h.reach, h.capm, h.nl, fun hn => by
    obtain ⟨b, off, ha, hlt, hc⟩ := h.cells hn
    exact ⟨b, off, ha, Nat.lt_of_lt_of_le hlt hb.size, fun i hi => (hb.cell (p := ⟨b, off + i, none⟩) (Nat.lt_of_lt_of_le hlt hB)).trans (hc i hi)⟩⟩

theorem BytesAt.kept {w w' : World} {a : Option Addr} {n c : Nat} {xs : List Nat} (h : BytesAt w a n c xs) (hb : Below w.heap.size w w') : BytesAt w' a n c xs := h.keep hb (Nat.le_refl _)
theorem BytesAt.alloc {w : World} {a : Option Addr} {n c : Nat} {xs : List Nat} (h : BytesAt w a n c xs) (o : Obj) : BytesAt (w.alloc o) a n c xs := h.kept ((Below.refl _ _).alloc (Nat.le_refl _) o)

theorem BytesAt.empty (w : World) (a : Option Addr) (c : Nat) (hc : c ≤ 9223372036854775807) (ha : a = none → c = 0) : BytesAt w a 0 c [] :=
  ⟨rfl, Nat.zero_le _, (fun x hx => by cases hx), Nat.zero_le _, hc, ha, fun h => absurd h (Nat.lt_irrefl 0)⟩

theorem BytesAt.upto {w : World} {a : Option Addr} {n c : Nat} {xs : List Nat} (h : BytesAt w a n c xs) (k : Nat) (hk : k ≤ n) : BytesAt w a k c (xs.take k) := by
  have hl := h.len
  have hc := h.cap
  have hr := h.reach
  refine ⟨by simp; omega, by omega, fun x hx => h.byte x (List.mem_of_mem_take hx), by omega, h.capm, h.nl, fun hp => ?_⟩
  obtain ⟨b, off, ha, hlt, hcell⟩ := h.cells (by omega)
  refine ⟨b, off, ha, hlt, fun i hi => ?_⟩
  rw [hcell i (by omega)]
  have : i < xs.length := by omega
  simp [hi]

theorem BytesAt.src {w : World} {ad : Addr} {n c : Nat} {xs : List Nat} (h : BytesAt w (some ad) n c xs) : ∀ j u, (bv xs)[j]? = some u → w.cell? (ad.add j) = some u := by
  intro j u hj
  have hlt : j < xs.length := by
    rcases Nat.lt_or_ge j xs.length with g | g
    · exact g
    · rw [List.getElem?_eq_none (by rw [bv_length]; exact g)] at hj; cases hj
  have hl := h.len
  obtain ⟨b, off, ha, _, hc⟩ := h.cells (by omega)
  cases ha
  have h4 : (⟨b, off, none⟩ : Addr).add j = ⟨b, off + j, none⟩ := by unfold Addr.add; split <;> simp_all
  rw [h4, hc j (by omega), ← bv_get xs j hlt, hj]

/-- what the call owns -/
theorem BytesAt.own {w : World} {base n : Nat} {v : Value} {xs : List Nat} (h : w.ownsRow base 5 1 v n (bv xs)) (hb : ∀ x ∈ xs, x < 256) (hp : 0 < n) (hr : n ≤ 140737488351232) :
    ∃ g c, v = .slice (some ⟨g, 0, none⟩) n c ∧ base ≤ g ∧ g < w.heap.size ∧ BytesAt w (some ⟨g, 0, none⟩) n c xs := by
  rcases h.2 with ⟨_, h0⟩ | ⟨g, cap, cur, rfl, hg, hh, hn, hcap, hsz, htake⟩
  · omega
  · have hlt : g < w.heap.size := (Array.getElem?_eq_some_iff.1 hh).1
    have hl : xs.length = n := by have := h.1; simpa [bv_length] using this
    refine ⟨g, cap, rfl, hg, hlt, hl, hn, hb, hr, (by unfold maxLen at hcap; exact hcap), (fun e => by cases e), fun _ => ⟨g, 0, rfl, hlt, fun i hi => ?_⟩⟩
    have := h.cellAt i (by omega)
    rw [Nat.zero_add, this, bv_get _ _ (by omega)]

/-- bytes written out in a new block -/
theorem BytesAt.lit (w : World) (cs : Array Value) (l : List Nat) (hcs : cs.toList = bv l) (hl : ∀ x ∈ l, x < 256) (hp : 0 < l.length) (hr : l.length ≤ 140737488351232) :
    BytesAt (w.alloc (.cells cs 5)) (some ⟨w.heap.size, 0, none⟩) l.length l.length l := by
  have hsz : cs.size = l.length := by rw [← Array.length_toList, hcs, bv_length]
  have h := World.ownsRow_lit (base := w.heap.size) (e := 5) (size := 1) w cs l.length (Nat.le_refl _) (by unfold maxLen; omega) (by omega)
  rw [hcs] at h
  obtain ⟨g, c, hv, _, _, hb⟩ := BytesAt.own h hl hp hr
  simp only [Value.slice.injEq, Option.some.injEq, Addr.mk.injEq, and_true, true_and] at hv
  obtain ⟨rfl, rfl⟩ := hv
  exact hb

/-- append of bytes, wherever they lie, to bytes that the call owns -/
theorem wpList_append_bytes {w : World} {ops : Array Oper} {rest : List Oper} {o : Oper} {a : Act} {Q : Exit → Act → World → Prop} (hgd : o.guard = none) (s x : Operand)
    (ho : o.op = .call { callee := .builtin .append, args := #[s, x], argTypes := #[30, 30] })
    (base : Nat) (v : Value) (n : Nat) (xs : List Nat) (hs : a.eval s = v) (hown : w.ownsRow base 5 1 v n (bv xs))
    (src : Option Addr) (m c : Nat) (ys : List Nat) (hx : a.eval x = .slice src m c) (hb : BytesAt w src m c ys)
    (h63 : n + m ≤ 140737488355328) (hbase : base ≤ w.heap.size)
    (h : ∀ v' w', w'.ownsRow base 5 1 v' (n + m) (bv (xs ++ ys)) → w.grownBy w' v.ownBlock → wpList Tryz.prog ops Q rest (a.put o.dst v') w') : wpList Tryz.prog ops Q (o :: rest) a w := by
  obtain ⟨i0, hi, hz0, hz1, hz2⟩ := info_parts info_u8
  rcases src with _ | ad
  · have hc := hb.nl rfl
    have hm : m = 0 := by have := hb.cap; omega
    subst hm
    subst hc
    have hy : ys = [] := List.eq_nil_of_length_eq_zero hb.len
    subst hy
    refine wpList_append_own_none hgd s x 30 ho base 5 i0 1 Tryz.underlying30 hi v n (bv xs) hs hown hx ?_
    exact h v w (by simpa using hown) (World.grownBy.refl _ _)
  · refine wpList_append_own w hgd s x 30 ho base 5 i0 (.int .u8 0) 1 1 Tryz.underlying30 hi hz0 hz1 hz2 rfl (by decide) v n (bv xs) hs hown ad m c (bv ys) hx (by rw [bv_length, hb.len]; omega) hb.src (bv_oneCell _) (by unfold maxLen; omega) (by omega) hbase ?_
    intro v' w' h1 h2 _
    exact h v' w' (by rw [bv_append]; exact h1) h2

/-- the text of bytes -/
def bs (xs : List Nat) : ByteArray := strOfNums (xs.map fun (x : Nat) => (x : Int))

theorem bs_inj {xs ys : List Nat} (hx : ∀ x ∈ xs, x < 256) (hy : ∀ y ∈ ys, y < 256) (h : (bs xs).data.toList = (bs ys).data.toList) : xs = ys := by
  have e : ∀ l : List Nat, (∀ x ∈ l, x < 256) → (bs l).data.toList.map UInt8.toNat = l := by
    intro l hl
    simp only [bs, strOfNums_data, List.map_map]
    conv => rhs; rw [← List.map_id l]
    apply List.map_congr_left
    intro x hx
    have := hl x hx
    simp [Nat.mod_eq_of_lt this]
  rw [← e xs hx, ← e ys hy, h]

theorem bs_toList (xs : List Nat) : (bs xs).toList = (bs xs).data.toList := ByteArray.toList_eq _
theorem bs_eq {xs ys : List Nat} (hx : ∀ x ∈ xs, x < 256) (hy : ∀ y ∈ ys, y < 256) : ((bs xs).toList == (bs ys).toList) = (xs == ys) := by
  rw [Bool.eq_iff_iff]
  simp only [beq_iff_eq, bs_toList]
  exact ⟨fun h => bs_inj hx hy h, fun h => by rw [h]⟩

theorem BytesAt.conv {w : World} {a : Option Addr} {n c : Nat} {xs : List Nat} (h : BytesAt w a n c xs) :
    (convert 30 9 (.slice a n c)).run Tryz.prog w = .ok (.string (bs xs)) w := by
  rcases Nat.eq_zero_or_pos n with h0 | hp
  · subst h0
    have hx : xs = [] := List.eq_nil_of_length_eq_zero h.len
    subst hx
    rw [run_convert_bytes_string w 30 9 5 _ 0 c Tryz.underlying30 Tryz.underlying5 Tryz.underlying9]
    cases a <;> simp [Conv.bytesToString, loadCells] <;> rfl
  · obtain ⟨b, off, rfl, _, hc⟩ := h.cells hp
    exact run_convert_bytes_arg (P := Tryz.prog) w 30 5 Tryz.underlying30 Tryz.underlying5 b off n c (xs.map fun (x : Nat) => (x : Int)) (by simpa using h.len) (fun i hi => by
      rw [hc i hi]
      have : i < xs.length := by have := h.len; omega
      simp [this]) 9 Tryz.underlying9

set_option maxHeartbeats 400000 in
theorem same_any {a a' : Option Addr} {n n' c c' : Nat} {xs ys : List Nat} {w : World} (hx : BytesAt w a n c xs) (hy : BytesAt w a' n' c' ys) :
    Calls Tryz.prog 13 #[.slice a n c, .slice a' n' c'] w fun e w' => e = .returned (.bool (xs == ys)) ∧ w = w' := by
  have h1 := hx.conv
  have h2 := hy.conv
  have he := bs_eq hx.byte hy.byte
  clear hx hy
  go_enter Tryz.func13, Tryz.ntmps13
  go_wp2
  go_ret
  exact ⟨by rw [← he]; rfl, rfl⟩

/-- what a walk is told of a slice of integers that came in: nil; or it leads to a row of 'cap' cells, the numbers 'zs', each fitting its kind; it takes at most the reach -/
def IsRow (k : IntKind) (sz : Nat) (w : World) (a : Option Addr) (len cap : Nat) (zs : List Int) : Prop :=
  (a = none ∧ len = 0 ∧ cap = 0 ∧ zs = []) ∨
  ∃ x, a = some x ∧ len ≤ cap ∧ cap ≤ maxLen ∧ zs.length = cap ∧ (∀ i, i < zs.length → w.cell? (x.add i) = some (.int k (zs.getD i 0))) ∧ (∀ n ∈ zs, (Lit.int k n).wf = true) ∧ cap * sz ≤ 140737488351232

theorem byte_of_wf {n : Int} (h : (Lit.int .u8 n).wf = true) : 0 ≤ n ∧ n ≤ 255 := by
  simpa [Lit.wf, IntKind.min, IntKind.max, IntKind.signed, IntKind.bits] using h

theorem IsRow.bytes {w : World} {a : Option Addr} {len cap : Nat} {zs : List Int} (h : IsRow .u8 1 w a len cap zs) : ∃ xs : List Nat, BytesAt w a len cap xs := by
  rcases h with ⟨rfl, rfl, rfl, rfl⟩ | ⟨x, rfl, hl, hm, hz, hcell, hwz, hr⟩
  · exact ⟨[], BytesAt.empty w none 0 (by omega) (fun _ => rfl)⟩
  · refine ⟨(zs.take len).map Int.toNat, by simp; omega, hl, ?_, by omega, by omega, (fun e => by cases e), fun hp => ?_⟩
    · intro y hy
      simp only [List.mem_map] at hy
      obtain ⟨z, hzm, rfl⟩ := hy
      have := byte_of_wf (hwz z (List.mem_of_mem_take hzm))
      omega
    · obtain ⟨b, off, spot⟩ := x
      have hc := hcell 0 (by omega)
      have hspot : spot = none := by simpa [Addr.add] using World.cell?_spot hc
      subst hspot
      refine ⟨b, off, rfl, ?_, fun i hi => ?_⟩
      · have := World.block_lt_of_cell? w _ hc
        simpa [Addr.add] using this
      · have h1 := hcell i (by omega)
        have h2 : i < zs.length := by omega
        have h3 := byte_of_wf (hwz zs[i] (List.getElem_mem h2))
        have h4 : (⟨b, off, none⟩ : Addr).add i = ⟨b, off + i, none⟩ := by unfold Addr.add; split <;> simp_all
        rw [h4] at h1
        rw [h1]
        have e1 : zs.getD i 0 = zs[i] := by simp [h2]
        have e2 : (((zs.take len).map Int.toNat).getD i 0 : Nat) = zs[i].toNat := by
          simp [h2, hi]
        rw [e1, e2]
        congr 2
        omega
end Go.Proofs.YtbdgcfimbblncaaGreatDoor
end PkMC1_0
section PkMC1_1
/- Twin and bytes.Clone, walked; small words beside them. -/
namespace Go.Proofs.YtbdgcfimbblncaaGreatDoor
open Go.RowKit
set_option linter.unusedVariables false

theorem u32_of_wf' {n : Int} (h : (Lit.int .u32 n).wf = true) : ∃ m : Nat, n = (m : Int) ∧ m < 4294967296 := by
  have : 0 ≤ n ∧ n ≤ 4294967295 := by simpa [Lit.wf, IntKind.min, IntKind.max, IntKind.signed, IntKind.bits] using h
  exact ⟨n.toNat, by omega, by omega⟩
theorem u64_of_wf {n : Int} (h : (Lit.int .u64 n).wf = true) : ∃ m : Nat, n = (m : Int) ∧ m < 18446744073709551616 := by
  have : 0 ≤ n ∧ n ≤ 18446744073709551615 := by simpa [Lit.wf, IntKind.min, IntKind.max, IntKind.signed, IntKind.bits] using h
  exact ⟨n.toNat, by omega, by omega⟩

theorem i64_of_wf {n : Int} (h : (Lit.int .i64 n).wf = true) : -9223372036854775808 ≤ n ∧ n ≤ 9223372036854775807 := by
  simpa [Lit.wf, IntKind.min, IntKind.max, IntKind.signed, IntKind.bits] using h

theorem BytesAt.drew {w : World} {a : Option Addr} {n c : Nat} {xs : List Nat} (h : BytesAt w a n c xs) : BytesAt w.drew a n c xs :=
  ⟨h.len, h.cap, h.byte, h.reach, h.capm, h.nl, h.cells⟩

theorem BytesAt.drewN {w : World} {a : Option Addr} {n c : Nat} {xs : List Nat} (h : BytesAt w a n c xs) (k : Nat) : BytesAt (w.drewN k) a n c xs :=
  h.kept ⟨rfl, rfl, rfl, Nat.le_refl _, fun _ _ => rfl⟩

theorem grown_drewN (w : World) (k : Nat) (r : Option Nat) : w.grownBy (w.drewN k) r := ⟨rfl, rfl, rfl, Nat.le_refl _, fun _ _ _ => rfl⟩
theorem _root_.Go.World.grownBy.trans' {a b c : World} {r : Option Nat} (h : a.grownBy b r) (k : b.grownBy c r) : a.grownBy c r :=
  ⟨k.os.trans h.os, k.tape.trans h.tape, k.output.trans h.output, Nat.le_trans h.size k.size, fun i hi hr => (k.block i (Nat.lt_of_lt_of_le hi h.size) hr).trans (h.block i hi hr)⟩

/-- a row of integers that came in -/
structure RowAt (k : IntKind) (w : World) (a : Option Addr) (n c : Nat) (zs : List Int) : Prop where
  cap : n ≤ c
  capm : c ≤ 9223372036854775807
  nl : a = none → c = 0
  cells : 0 < n → ∃ b off, a = some ⟨b, off, none⟩ ∧ b < w.heap.size ∧ ∀ i, i < n → w.cell? ⟨b, off + i, none⟩ = some (.int k (zs.getD i 0)) ∧ (Lit.int k (zs.getD i 0)).wf = true

theorem IsRow.at_ {k : IntKind} {s : Nat} {w : World} {a : Option Addr} {len cap : Nat} {zs : List Int} (h : IsRow k s w a len cap zs) : RowAt k w a len cap zs := by
  rcases h with ⟨rfl, rfl, rfl, rfl⟩ | ⟨x, rfl, hl, hm, hz, hcell, hwz, hr⟩
  · exact ⟨Nat.le_refl _, by omega, fun _ => rfl, fun h => absurd h (Nat.lt_irrefl 0)⟩
  · refine ⟨hl, by unfold maxLen at hm; exact hm, (fun e => by cases e), fun hp => ?_⟩
    obtain ⟨b, off, spot⟩ := x
    have hc := hcell 0 (by omega)
    have hspot : spot = none := by simpa [Addr.add] using World.cell?_spot hc
    subst hspot
    refine ⟨b, off, rfl, ?_, fun i hi => ?_⟩
    · have := World.block_lt_of_cell? w _ hc
      simpa [Addr.add] using this
    · have h1 := hcell i (by omega)
      have h4 : (⟨b, off, none⟩ : Addr).add i = ⟨b, off + i, none⟩ := by unfold Addr.add; split <;> simp_all
      rw [h4] at h1
      have h2 : i < zs.length := by omega
      refine ⟨h1, hwz _ ?_⟩
      have : zs.getD i 0 = zs[i] := by simp [h2]
      rw [this]
      exact List.getElem_mem h2

theorem BytesAt.ofOwn {w : World} {base n : Nat} {v : Value} {xs : List Nat} (h : w.ownsRow base 5 1 v n (bv xs)) (hb : ∀ x ∈ xs, x < 256) (hr : n ≤ 140737488351232) :
    ∃ a c, v = .slice a n c ∧ BytesAt w a n c xs ∧ (∀ b off s, a = some ⟨b, off, s⟩ → base ≤ b) := by
  rcases Nat.eq_zero_or_pos n with h0 | hp
  · subst h0
    have hx : xs = [] := by
      have := h.1
      simp only [Nat.zero_mul, bv_length] at this
      exact List.eq_nil_of_length_eq_zero this
    subst hx
    rcases h.2 with ⟨h1, _⟩ | ⟨g, cap, cur, rfl, hg, hh, hn, hcap, hsz, htake⟩
    · subst h1
      exact ⟨none, 0, rfl, BytesAt.empty _ _ _ (by omega) (fun _ => rfl), fun _ _ _ e => by cases e⟩
    · exact ⟨some ⟨g, 0, none⟩, cap, rfl, BytesAt.empty _ _ _ (by unfold maxLen at hcap; exact hcap) (fun e => by cases e), fun b off s e => by cases e; exact hg⟩
  · obtain ⟨g, c, rfl, hg, hlt, hba⟩ := BytesAt.own h hb hp hr
    exact ⟨some ⟨g, 0, none⟩, c, rfl, hba, fun b off s e => by cases e; exact hg⟩

set_option maxRecDepth 100000 in
set_option maxHeartbeats 1000000 in
theorem twin_any {a : Option Addr} {n c : Nat} {xs : List Nat} {w : World} (h : BytesAt w a n c xs) :
    Calls Tryz.prog 15 #[.slice a n c] w fun e w' => ∃ v, e = .returned v ∧ w'.ownsRow w.heap.size 5 1 v n (bv xs) ∧ v ≠ .slice none 0 0 ∧ Below w.heap.size w w' := by
  obtain ⟨i0, hi, hz0, hz1, hz2⟩ := info_parts info_u8
  have hown0 := World.ownsRow_lit (base := w.heap.size) (e := 5) (size := 1) w #[] 0 (Nat.le_refl _) (by unfold maxLen; omega) rfl
  have hreach := h.reach
  have hlen := h.len
  rcases a with _ | ad
  · have hc0 := h.nl rfl
    have hn0 : n = 0 := by have := h.cap; omega
    subst hn0
    subst hc0
    obtain rfl : xs = [] := List.eq_nil_of_length_eq_zero hlen
    clear h
    go_enter Tryz.func15, Tryz.ntmps15
    go_wp2_with (at_builtin; refine wpList_append_own_none rfl (.tmp 3) (.tmp 4) 30 rfl w.heap.size 5 i0 1 Tryz.underlying30 hi _ _ _ rfl hown0 rfl ?_)
    go_ret
    exact ⟨_, rfl, hown0, (fun e => by cases e), (Below.refl _ _).alloc (Nat.le_refl _) _⟩
  · have hsrc := (h.alloc (.cells #[] 5)).src
    have HS := Lib.hid hsrc
    clear hsrc h
    go_enter Tryz.func15, Tryz.ntmps15
    go_wp2_with (at_builtin; refine wpList_append_own _ rfl (.tmp 3) (.tmp 4) 30 rfl w.heap.size 5 i0 (.int .u8 0) 1 1 Tryz.underlying30 hi hz0 hz1 hz2 rfl (by decide) _ _ _ rfl hown0 ad n c (bv xs) rfl ?c1 HS.out (bv_oneCell _) ?c3 ?c4 (by simp) ?_)
    case c1 => simp [bv_length, hlen]
    case c3 => unfold maxLen; omega
    case c4 => omega
    intro v' w1 hown' hgrow hnil
    go_wp2
    go_ret
    refine ⟨v', rfl, ?_, ?_, ?_⟩
    · simpa using hown'
    · exact hnil
    · exact ((Below.refl _ _).alloc (Nat.le_refl _) _).grown hgrow (by simp) (fun k hk => by simp [Value.ownBlock] at hk; omega)

/-- as a slice of bytes wherever -/
theorem twin {a : Option Addr} {n c : Nat} {xs : List Nat} {w : World} (h : BytesAt w a n c xs) :
    Calls Tryz.prog 15 #[.slice a n c] w fun e w' => ∃ g k, e = .returned (.slice (some ⟨g, 0, none⟩) n k) ∧ w.heap.size ≤ g ∧ g < w'.heap.size ∧
      w'.ownsRow w.heap.size 5 1 (.slice (some ⟨g, 0, none⟩) n k) n (bv xs) ∧ BytesAt w' (some ⟨g, 0, none⟩) n k xs ∧ Below w.heap.size w w' := by
  refine (twin_any h).mono ?_
  rintro e w' ⟨v, rfl, hown, hnn, hb⟩
  rcases hown.2 with ⟨h0, _⟩ | ⟨g, cap, cur, rfl, hg, hh, hn, hcap, hsz, htake⟩
  · exact absurd h0 hnn
  · have hlt : g < w'.heap.size := (Array.getElem?_eq_some_iff.1 hh).1
    refine ⟨g, cap, rfl, hg, hlt, hown, ⟨h.len, hn, h.byte, h.reach, (by unfold maxLen at hcap; exact hcap), (fun e => by cases e), fun hp => ⟨g, 0, rfl, hlt, fun i hi => ?_⟩⟩, hb⟩
    have := hown.cellAt i (by omega)
    rw [Nat.zero_add, this, bv_get _ _ (by have := h.len; omega)]

set_option maxRecDepth 100000 in
set_option maxHeartbeats 1000000 in
theorem clone_any {a : Option Addr} {n c : Nat} {xs : List Nat} {w : World} (h : BytesAt w a n c xs) :
    Calls Tryz.prog 89 #[.slice a n c] w fun e w' => ∃ a' c', e = .returned (.slice a' n c') ∧ BytesAt w' a' n c' xs ∧ Below w.heap.size w w' ∧ (∀ b off s, a' = some ⟨b, off, s⟩ → w.heap.size ≤ b) := by
  have q : ∀ (w : World) (a : Option Addr) (n c n' c' : Nat), (binOp .eql 30 (.slice a n c) (.slice none n' c')).run Tryz.prog w = .ok (.bool a.isNone) w := fun w a n c n' c' => Lib.run_eql_slice_nil w _ _ a n c n' c' Tryz.underlying30
  have hown0 := World.ownsRow_lit (base := w.heap.size) (e := 5) (size := 1) w #[] 0 (Nat.le_refl _) (by unfold maxLen; omega) rfl
  have hreach := h.reach
  have hlen := h.len
  rcases a with _ | ad
  · have hc0 := h.nl rfl
    have hn0 : n = 0 := by have := h.cap; omega
    subst hn0
    subst hc0
    have HH := Lib.hid h
    clear h hlen
    go_enter Tryz.func89, Tryz.ntmps89
    go_wp2_with fail
    go_ret
    exact ⟨none, 0, rfl, HH.out, Below.refl _ _, fun _ _ _ e => by cases e⟩
  · have HH := Lib.hid h
    have ha := h.alloc (.cells #[] 5)
    have HA := Lib.hid ha
    clear h ha
    go_enter Tryz.func89, Tryz.ntmps89
    go_wp2_with (at_builtin; refine wpList_append_bytes rfl (.tmp 5) (.tmp 6) rfl w.heap.size _ _ [] rfl hown0 _ _ _ _ rfl HA.out (by omega) (by simp) ?_)
    intro v' w1 hown' hgrow
    have hown2 : w1.ownsRow w.heap.size 5 1 v' n (bv xs) := by simpa using hown'
    clear hown'
    have hb : Below w.heap.size w w1 := ((Below.refl _ _).alloc (Nat.le_refl _) _).grown hgrow (by simp) (fun k hk => by simp [Value.ownBlock] at hk; omega)
    go_wp2_with fail
    go_ret
    rcases hown2.2 with ⟨h0, h1⟩ | ⟨g, cap, cur, rfl, hg, hh, hn, hcap, hsz, htake⟩
    · subst h0
      subst h1
      obtain rfl : xs = [] := List.eq_nil_of_length_eq_zero hlen
      exact ⟨none, 0, rfl, BytesAt.empty _ _ _ (by omega) (fun _ => rfl), hb, fun _ _ _ e => by cases e⟩
    · have hlt : g < w1.heap.size := (Array.getElem?_eq_some_iff.1 hh).1
      refine ⟨some ⟨g, 0, none⟩, cap, rfl, ⟨hlen, hn, HH.out.byte, hreach, (by unfold maxLen at hcap; exact hcap), (fun e => by cases e), fun hp => ⟨g, 0, rfl, hlt, fun i hi => ?_⟩⟩, hb, fun b off s e => by cases e; exact hg⟩
      have := hown2.cellAt i (by omega)
      rw [Nat.zero_add, this, bv_get _ _ (by omega)]

end Go.Proofs.YtbdgcfimbblncaaGreatDoor
end PkMC1_1
section PkMC1_2
/- Bytes that the call owns, kept behind calls that leave old memory alone; bytes.Clone gives such ones. -/
namespace Go.Proofs.YtbdgcfimbblncaaGreatDoor
open Go.RowKit
set_option linter.unusedVariables false

theorem own_below {w w' : World} {base : Nat} {e : TypeId} {size : Nat} {v : Value} {n : Nat} {xs : List Value} (h : w.ownsRow base e size v n xs) (hb : Below w.heap.size w w') : w'.ownsRow base e size v n xs :=
  h.kept (row := none) ⟨hb.os, hb.tape, hb.output, hb.size, fun k hk _ => hb.block k hk⟩ (by cases hv : v.ownBlock <;> simp)

theorem own_nil_bytes (w : World) (base : Nat) : w.ownsRow base 5 1 (.slice none 0 0) 0 (bv []) := World.ownsRow_nil w base _ _

/-- what is appended to what a call owns: the frame stays below -/
theorem below_own {w w' : World} {B base : Nat} {e : TypeId} {size : Nat} {v : Value} {n : Nat} {xs : List Value} {w0 : World} (hb : Below B w0 w) (hown : w.ownsRow base e size v n xs) (hg : w.grownBy w' v.ownBlock) (hB : B ≤ base) (hs : B ≤ w.heap.size) : Below B w0 w' :=
  hb.grown hg hs (fun k hk => Nat.le_trans hB (hown.lt k hk).1)
/-- what a call owns of one type, and of another: not in one block -/
theorem own_ne2 {w : World} {base base' : Nat} {e e' : TypeId} {size size' : Nat} {v v' : Value} {n n' : Nat} {xs xs' : List Value} (h : w.ownsRow base e size v n xs) (h' : w.ownsRow base' e' size' v' n' xs') (hne : e ≠ e') : v.ownBlock = none ∨ v.ownBlock ≠ v'.ownBlock := by
  rcases h.2 with ⟨rfl, _⟩ | ⟨g, cap, cur, rfl, _, hg, _⟩
  · exact .inl rfl
  · rcases h'.2 with ⟨rfl, _⟩ | ⟨g', cap', cur', rfl, _, hg', _⟩
    · exact .inr (by simp [Value.ownBlock])
    · refine .inr fun e1 => ?_
      simp [Value.ownBlock] at e1
      subst e1
      rw [hg] at hg'
      simp at hg'
      exact hne hg'.2

/-- what was made later than another one's row is kept when that one is appended to -/
theorem own_other {w w' w0 : World} {base base' : Nat} {e e' : TypeId} {size size' : Nat} {v v' : Value} {n n' : Nat} {xs xs' : List Value} (h : w.ownsRow base e size v n xs) (hg : w.grownBy w' v'.ownBlock) (h' : w0.ownsRow base' e' size' v' n' xs') (hb : w0.heap.size ≤ base) : w'.ownsRow base e size v n xs := by
  refine h.kept hg ?_
  cases hv : v.ownBlock with
  | none => exact .inl rfl
  | some k =>
    refine .inr fun e => ?_
    have h1 := (h.lt k hv).1
    have h2 := (h'.lt k e.symm).2
    omega

set_option maxRecDepth 100000 in
set_option maxHeartbeats 1000000 in
theorem clone_own {a : Option Addr} {n c : Nat} {xs : List Nat} {w : World} (h : BytesAt w a n c xs) :
    Calls Tryz.prog 89 #[.slice a n c] w fun e w' => ∃ v, e = .returned v ∧ w'.ownsRow w.heap.size 5 1 v n (bv xs) ∧ Below w.heap.size w w' := by
  have q : ∀ (w : World) (a : Option Addr) (n c n' c' : Nat), (binOp .eql 30 (.slice a n c) (.slice none n' c')).run Tryz.prog w = .ok (.bool a.isNone) w := fun w a n c n' c' => Lib.run_eql_slice_nil w _ _ a n c n' c' Tryz.underlying30
  have hown0 := World.ownsRow_lit (base := w.heap.size) (e := 5) (size := 1) w #[] 0 (Nat.le_refl _) (by unfold maxLen; omega) rfl
  have hreach := h.reach
  have hlen := h.len
  rcases a with _ | ad
  · have hc0 := h.nl rfl
    have hn0 : n = 0 := by have := h.cap; omega
    subst hn0
    subst hc0
    obtain rfl : xs = [] := List.eq_nil_of_length_eq_zero hlen
    have HH := Lib.hid h
    clear h hlen
    go_enter Tryz.func89, Tryz.ntmps89
    go_wp2_with fail
    go_ret
    exact ⟨_, rfl, own_nil_bytes _ _, Below.refl _ _⟩
  · have HH := Lib.hid h
    have ha := h.alloc (.cells #[] 5)
    have HA := Lib.hid ha
    clear h ha
    go_enter Tryz.func89, Tryz.ntmps89
    go_wp2_with (at_builtin; refine wpList_append_bytes rfl (.tmp 5) (.tmp 6) rfl w.heap.size _ _ [] rfl hown0 _ _ _ _ rfl HA.out (by omega) (by simp) ?_)
    intro v' w1 hown' hgrow
    have hown2 : w1.ownsRow w.heap.size 5 1 v' n (bv xs) := by simpa using hown'
    clear hown'
    have hb : Below w.heap.size w w1 := ((Below.refl _ _).alloc (Nat.le_refl _) _).grown hgrow (by simp) (fun k hk => by simp [Value.ownBlock] at hk; omega)
    go_wp2_with fail
    go_ret
    exact ⟨v', rfl, hown2, hb⟩
end Go.Proofs.YtbdgcfimbblncaaGreatDoor
end PkMC1_2
section PkMC1_3
/- A text's bytes, as numbers. -/
namespace Go.Proofs.YtbdgcfimbblncaaGreatDoor
open Go.RowKit
set_option linter.unusedVariables false

/-- a text's bytes -/
def byl (s : ByteArray) : List Nat := s.data.toList.map UInt8.toNat
theorem byl_len (s : ByteArray) : (byl s).length = s.size := by unfold byl; rw [List.length_map, Array.length_toList]; rfl
theorem byl_byte (s : ByteArray) : ∀ x ∈ byl s, x < 256 := by
  intro x hx
  unfold byl at hx
  obtain ⟨y, _, rfl⟩ := List.mem_map.1 hx
  exact y.toNat_lt
theorem byl_cells (s : ByteArray) : Lib.strCells s = bv (byl s) := by
  unfold Lib.strCells bv byl
  rw [List.map_map]
  rfl
theorem bs_byl (s : ByteArray) : bs (byl s) = s := by
  apply ByteArray.ext
  apply Array.toList_inj.1
  unfold bs byl
  rw [strOfNums_data, List.map_map, List.map_map]
  conv => rhs; rw [← List.map_id s.data.toList]
  apply List.map_congr_left
  intro x _
  simp
end Go.Proofs.YtbdgcfimbblncaaGreatDoor
end PkMC1_3
section PkMC1_4
/- Plain facts on numbers as few bytes: what PutU and U compute, on lists of naturals. No Go in sight. -/
namespace Go.Proofs.YtbdgcfimbblncaaGreatDoor.NumsPlain

/-- the bytes of a number -/
def pu (n : Nat) : List Nat := if n < 128 then [n] else (128 + n % 128) :: pu (n / 128)
termination_by n
decreasing_by omega

theorem pu_small {n : Nat} (h : n < 128) : pu n = [n] := by rw [pu, if_pos h]
theorem pu_big {n : Nat} (h : 128 ≤ n) : pu n = (128 + n % 128) :: pu (n / 128) := by rw [pu, if_neg (by omega)]

theorem pu_pos (n : Nat) : 1 ≤ (pu n).length := by
  by_cases h : n < 128
  · simp [pu_small h]
  · simp [pu_big (show 128 ≤ n by omega)]

/-- a number below 128 to the k has at most k bytes -/
theorem pu_le : ∀ (k n : Nat), n < 128 ^ (k + 1) → (pu n).length ≤ k + 1
  | 0, n, h => by simp [pu_small (show n < 128 by simpa using h)]
  | k + 1, n, h => by
    by_cases hs : n < 128
    · simp [pu_small hs]
    · rw [pu_big (by omega)]
      have h2 : n / 128 < 128 ^ (k + 1) := by
        rw [Nat.div_lt_iff_lt_mul (by omega)]
        rw [Nat.pow_succ 128 (k + 1)] at h
        exact h
      have := pu_le k (n / 128) h2
      simp; omega

theorem pu_ten {n : Nat} (h : n < 18446744073709551616) : (pu n).length ≤ 10 :=
  pu_le 9 n (Nat.lt_of_lt_of_le h (by decide))

theorem pu_mono : ∀ (k m n : Nat), n < 128 ^ (k + 1) → m ≤ n → (pu m).length ≤ (pu n).length
  | 0, m, n, h, hmn => by
    have h1 : n < 128 := by simpa using h
    rw [pu_small h1, pu_small (show m < 128 by omega)]
    simp
  | k + 1, m, n, h, hmn => by
    by_cases hs : m < 128
    · rw [pu_small hs]; exact pu_pos n
    · have hn : 128 ≤ n := by omega
      rw [pu_big hn, pu_big (show 128 ≤ m by omega)]
      have h2 : n / 128 < 128 ^ (k + 1) := by
        rw [Nat.div_lt_iff_lt_mul (by omega)]
        rw [Nat.pow_succ 128 (k + 1)] at h
        exact h
      have := pu_mono k (m / 128) (n / 128) h2 (Nat.div_le_div_right hmn)
      simp; omega

theorem pu_grows {m n : Nat} (h : n < 18446744073709551616) (hmn : m ≤ n) : (pu m).length ≤ (pu n).length :=
  pu_mono 9 m n (Nat.lt_of_lt_of_le h (by decide)) hmn

/-- each is a byte -/
theorem pu_byte : ∀ (k n : Nat), n < 128 ^ (k + 1) → ∀ x ∈ pu n, x < 256
  | 0, n, h, x, hx => by
    have h1 : n < 128 := by simpa using h
    rw [pu_small h1] at hx
    simp at hx; omega
  | k + 1, n, h, x, hx => by
    by_cases hs : n < 128
    · rw [pu_small hs] at hx
      simp at hx; omega
    · rw [pu_big (by omega)] at hx
      rcases List.mem_cons.1 hx with e | e
      · omega
      · have h2 : n / 128 < 128 ^ (k + 1) := by
          rw [Nat.div_lt_iff_lt_mul (by omega)]
          rw [Nat.pow_succ 128 (k + 1)] at h
          exact h
        exact pu_byte k (n / 128) h2 x e
theorem pu_bytes {n : Nat} (h : n < 18446744073709551616) : ∀ x ∈ pu n, x < 256 := pu_byte 9 n (Nat.lt_of_lt_of_le h (by decide))

/-- what reading a number comes to: the value so far, how many bytes are behind, the bytes ahead; the value, how many bytes, the error (0; 3: ErrShort; 4: ErrForm) -/
def uu : Nat → Nat → List Nat → Nat × Nat × Nat
  | _, _, [] => (0, 0, 3)
  | acc, i, x :: xs =>
    if i = 9 ∧ 1 < x then (0, 0, 4)
    else if 128 ≤ x then uu (acc + x % 128 * 128 ^ i) (i + 1) xs
    else if x = 0 ∧ 0 < i then (0, 0, 4)
    else (acc + x % 128 * 128 ^ i, i + 1, 0)

/-- what was put is read, whatever stands behind it -/
theorem uu_pu : ∀ (k acc i n : Nat) (rest : List Nat), k + i = 9 → n < 128 ^ (k + 1) → (i = 0 ∨ 0 < n) → (n * 128 ^ i < 18446744073709551616) →
    uu acc i (pu n ++ rest) = (acc + n * 128 ^ i, i + (pu n).length, 0)
  | 0, acc, i, n, rest, hki, h, h0, hb => by
    have h1 : n < 128 := by simpa using h
    obtain rfl : i = 9 := by omega
    have hn : n ≤ 1 := by
      rcases Nat.lt_or_ge 1 n with g | g
      · have : 2 * 128 ^ 9 ≤ n * 128 ^ 9 := Nat.mul_le_mul_right _ g
        have e : (2 : Nat) * 128 ^ 9 = 18446744073709551616 := by decide
        omega
      · exact g
    rw [pu_small h1]
    have hpos : 0 < n := by omega
    simp only [List.cons_append, List.nil_append, uu, List.length_cons, List.length_nil]
    rw [if_neg (by omega), if_neg (by omega), if_neg (by omega), Nat.mod_eq_of_lt h1]
  | k + 1, acc, i, n, rest, hki, h, h0, hb => by
    by_cases hs : n < 128
    · rw [pu_small hs]
      simp only [List.cons_append, List.nil_append, uu, List.length_cons, List.length_nil]
      rw [if_neg (by omega), if_neg (by omega), if_neg (by omega), Nat.mod_eq_of_lt hs]
    · have hn : 128 ≤ n := by omega
      rw [pu_big hn]
      simp only [List.cons_append, uu, List.length_cons]
      rw [if_neg (by omega), if_pos (by omega)]
      have h2 : n / 128 < 128 ^ (k + 1) := by
        rw [Nat.div_lt_iff_lt_mul (by omega)]
        rw [Nat.pow_succ 128 (k + 1)] at h
        exact h
      have hd : n / 128 * 128 + n % 128 = n := by omega
      have e1 : n / 128 * 128 ^ (i + 1) + n % 128 * 128 ^ i = n * 128 ^ i := by
        rw [Nat.pow_succ]
        calc n / 128 * (128 ^ i * 128) + n % 128 * 128 ^ i = (n / 128 * 128 + n % 128) * 128 ^ i := by
              rw [Nat.add_mul, Nat.mul_assoc, Nat.mul_comm 128 (128 ^ i)]
          _ = n * 128 ^ i := by rw [hd]
      have hb2 : n / 128 * 128 ^ (i + 1) < 18446744073709551616 := by omega
      rw [uu_pu k _ (i + 1) (n / 128) rest (by omega) h2 (.inr (by omega)) hb2]
      have e2 : (128 + n % 128) % 128 = n % 128 := by omega
      rw [e2]
      have e3 : acc + n % 128 * 128 ^ i + n / 128 * 128 ^ (i + 1) = acc + n * 128 ^ i := by omega
      rw [e3]
      congr 2
      omega

theorem uu_back {n : Nat} (h : n < 18446744073709551616) (rest : List Nat) : uu 0 0 (pu n ++ rest) = (n, (pu n).length, 0) := by
  have := uu_pu 9 0 0 n rest rfl (Nat.lt_of_lt_of_le h (by decide)) (.inl rfl) (by simpa using h)
  simpa using this

/-- none begins another -/
theorem pu_inj {m n : Nat} (hm : m < 18446744073709551616) (hn : n < 18446744073709551616) (h : ∃ r, pu n = pu m ++ r) : m = n := by
  obtain ⟨r, hr⟩ := h
  have h1 := uu_back hm r
  have h2 := uu_back hn []
  rw [List.append_nil, hr, h1] at h2
  exact congrArg Prod.fst h2
end Go.Proofs.YtbdgcfimbblncaaGreatDoor.NumsPlain
end PkMC1_4
section PkMC1_5
/- Bytes that a call makes piece by piece: what it may turn meanwhile; numbers and texts one behind the other, plainly. -/
namespace Go.Proofs.YtbdgcfimbblncaaGreatDoor
open Go.ChangeShapes Go.WideShapes Go.RowKit NumsPlain
set_option linter.unusedVariables false

/-- only what lies from base on has turned, and of that only bytes and what is new -/
structure Gb (base : Nat) (w w' : World) : Prop where
  below : Below base w w'
  other : ∀ (k : Nat) (cur : Array Value) (t : TypeId), w.heap[k]? = some (.cells cur t (0, 0)) → t ≠ 5 → w'.heap[k]? = some (.cells cur t (0, 0))
theorem Gb.refl (base : Nat) (w : World) : Gb base w w := ⟨Below.refl _ _, fun _ _ _ h _ => h⟩
theorem Gb.trans {base : Nat} {w w1 w2 : World} (h : Gb base w w1) (k : Gb base w1 w2) : Gb base w w2 :=
  ⟨h.below.trans k.below, fun i c t a b => k.other i c t (h.other i c t a b) b⟩
theorem Gb.size {base : Nat} {w w' : World} (h : Gb base w w') : w.heap.size ≤ w'.heap.size := h.below.size
theorem Gb.mono {base base' : Nat} {w w' : World} (h : Gb base w w') (hb : base' ≤ base) : Gb base' w w' := ⟨h.below.mono hb, h.other⟩
theorem Gb.of {base : Nat} {w w' : World} (hb : Below w.heap.size w w') (hs : base ≤ w.heap.size) : Gb base w w' :=
  ⟨hb.mono hs, fun k cur t h _ => (hb.block k (Array.getElem?_eq_some_iff.1 h).1).trans h⟩
theorem Gb.alloc {base : Nat} (w : World) (o : Obj) (hs : base ≤ w.heap.size) : Gb base w (w.alloc o) := Gb.of ((Below.refl _ _).alloc (Nat.le_refl _) o) hs
theorem Gb.grow {base n : Nat} {w w' : World} {v : Value} {xs : List Value} (ho : w.ownsRow base 5 1 v n xs) (hs : base ≤ w.heap.size) (hg : w.grownBy w' v.ownBlock) : Gb base w w' :=
  ⟨below_own (Below.refl base w) ho hg (Nat.le_refl _) hs, fun k cur t h hne => by
    refine (hg.block k (Array.getElem?_eq_some_iff.1 h).1 (fun e => ?_)).trans h
    rcases ho.2 with ⟨rfl, _⟩ | ⟨g, cap, cu, rfl, _, hh, _⟩
    · simp [Value.ownBlock] at e
    · simp [Value.ownBlock] at e
      subst e
      rw [h] at hh
      simp at hh
      exact hne hh.2⟩
/-- bytes that a call owns, as a slice -/
theorem own_slice {base n : Nat} {w : World} {e : TypeId} {k : Nat} {v : Value} {xs : List Value} (ho : w.ownsRow base e k v n xs) : ∃ a c, v = .slice a n c := by
  rcases ho.2 with ⟨rfl, h0⟩ | ⟨g, cap, cu, rfl, _⟩
  · exact ⟨none, 0, by rw [h0]⟩
  · exact ⟨_, _, rfl⟩
theorem own_gb {base base' n : Nat} {w w' : World} {e : TypeId} {k : Nat} {v : Value} {xs : List Value} (ho : w.ownsRow base' e k v n xs) (hg : Gb base w w') (hne : e ≠ 5) : w'.ownsRow base' e k v n xs := by
  refine ⟨ho.1, ?_⟩
  rcases ho.2 with h | ⟨g, cap, cu, rfl, hb, hh, hr⟩
  · exact .inl h
  · exact .inr ⟨g, cap, cu, rfl, hb, hg.other _ _ _ hh hne, hr⟩

theorem take_snoc {α : Type} (l : List α) (k : Nat) (d : α) (h : k < l.length) : l.take (k + 1) = l.take k ++ [l.getD k d] := by
  rw [List.take_add_one]
  congr 1
  simp [h]
/-- bytes that may be appended to: a call's own, or a slice that has no room left -/
def ApB (base : Nat) (w : World) (v : Value) (n : Nat) (xs : List Nat) : Prop := w.ownsRow base 5 1 v n (bv xs) ∨ ∃ a, v = .slice a n n ∧ BytesAt w a n n xs
theorem ApB.slice {base n : Nat} {w : World} {v : Value} {xs : List Nat} (h : ApB base w v n xs) : ∃ a c, v = .slice a n c := by
  rcases h with h | ⟨a, rfl, _⟩
  · exact own_slice h
  · exact ⟨_, _, rfl⟩
theorem ApB.below {base n : Nat} {w w' : World} {v : Value} {xs : List Nat} (h : ApB base w v n xs) (hb : Below w.heap.size w w') : ApB base w' v n xs := by
  rcases h with h | ⟨a, e, h⟩
  · exact .inl (own_below h hb)
  · exact .inr ⟨a, e, h.kept hb⟩
theorem bytes_srcOf {w : World} {a : Option Addr} {n c : Nat} {zs : List Nat} (h : BytesAt w a n c zs) : Src Tryz.prog 1 30 (.slice a n c) n (bv zs) w := by
  rcases a with _ | ad
  · have hc := h.nl rfl
    have hn := h.cap
    obtain rfl : n = 0 := by omega
    obtain rfl : zs = [] := List.eq_nil_of_length_eq_zero h.len
    exact Src.ofNil w Tryz.underlying30 c
  · exact Src.ofSlice w Tryz.underlying30 ad n c (bv zs) (by rw [bv_length, h.len]; omega) h.src (bv_oneCell _)
theorem run_append_bytes_full (w : World) (ty : TypeId) {base : Nat} {a b : Option Addr} {n m c : Nat} {xs ys : List Nat} (hx : BytesAt w a n n xs) (hy : BytesAt w b m c ys) (hm : 0 < m) (hn : n + m ≤ 1000000000) (hbs : base ≤ w.heap.size) :
    ∃ v' w', (Builtin.append_ #[30, 30] ty #[.slice a n n, .slice b m c]).run Tryz.prog w = .ok v' w' ∧ w'.ownsRow base 5 1 v' (n + m) (bv (xs ++ ys)) ∧ Below w.heap.size w w' := by
  obtain ⟨i0, hi, hz0, hz1, hz2⟩ := info_parts info_u8
  have hsx := bytes_srcOf hx
  have hsy := bytes_srcOf hy
  rw [← hz1] at hsx hsy
  have hr := run_append_grow_src w 30 30 ty 5 i0 _ Tryz.underlying30 hi hz0 a n n (bv xs) hsx.cellsD _ m (bv ys) hsy (by omega) (by omega) (growslice_fits (by omega) (by rw [hz2]; omega))
  have hge := grownCap_ge w (n + m) n 5
  have hle := grownCap_le_maxLen w (n + m) n 5 (by unfold maxLen; omega)
  have hlx : (bv xs ++ bv ys).length = n + m := by rw [List.length_append, bv_length, bv_length, hx.len, hy.len]
  have hzl : (Builtin.zeroCells (Value.int .u8 0).cells (grownCap w (n + m) n 5 - (n + m))).size = grownCap w (n + m) n 5 - (n + m) := by simp [Builtin.zeroCells, Value.cells]
  have hb : Below w.heap.size w (w.drew.alloc (.cells ((bv xs ++ bv ys).toArray ++ Builtin.zeroCells (Value.int .u8 0).cells (grownCap w (n + m) n 5 - (n + m))) 5)) := ((Below.refl w.heap.size w).drew).alloc (Nat.le_refl _) _
  refine ⟨_, _, hr, ⟨by rw [bv_length, List.length_append, hx.len, hy.len, Nat.mul_one], .inr ⟨w.heap.size, _, _, rfl, hbs, heap_alloc_new w.drew _, hge, hle, ?_, ?_⟩⟩, hb⟩
  · rw [Array.size_append, hzl, List.size_toArray, hlx]; omega
  · rw [Array.toList_append, List.toList_toArray, Nat.mul_one, List.take_append_of_le_length (by omega), ← hlx, List.take_length, bv_append]
/-- append of bytes, to bytes that may be appended to -/
theorem wpList_append_ap {w : World} {ops : Array Oper} {rest : List Oper} {o : Oper} {a : Act} {Q : Exit → Act → World → Prop} (hgd : o.guard = none) (s x : Operand)
    (ho : o.op = .call { callee := .builtin .append, args := #[s, x], argTypes := #[30, 30] })
    (base : Nat) (v : Value) (n : Nat) (xs : List Nat) (hs : a.eval s = v) (hap : ApB base w v n xs)
    (src : Option Addr) (m c : Nat) (ys : List Nat) (hx : a.eval x = .slice src m c) (hb : BytesAt w src m c ys) (hm : 0 < m)
    (hn : n + m ≤ 1000000000) (hbs : base ≤ w.heap.size)
    (h : ∀ v' w', w'.ownsRow base 5 1 v' (n + m) (bv (xs ++ ys)) → Gb base w w' → wpList Tryz.prog ops Q rest (a.put o.dst v') w') : wpList Tryz.prog ops Q (o :: rest) a w := by
  rcases hap with hown | ⟨ad, rfl, hat⟩
  · refine wpList_append_bytes hgd s x ho base v n xs hs hown src m c ys hx hb (by omega) hbs ?_
    intro v' w' h1 h2
    exact h v' w' h1 (Gb.grow hown hbs h2)
  · refine wpList_plain hgd fun K hK => ?_
    obtain ⟨v', w', hr, h2, h3⟩ := run_append_bytes_full w o.type hat hb hm hn hbs
    unfold Oper.wp execOp
    simp only [ho, resolve, invoke, builtin, Sem.run_bind, Sem.run_pure, Result.andThen_ok, List.map_toArray, List.map_cons, List.map_nil, hs, hx, hr]
    exact hK _ _ (h v' w' h2 (Gb.of h3 hbs))

/-- numbers, one behind the other -/
def nI (l : List Nat) : List Nat := l.flatMap pu
theorem nI_nil : nI [] = [] := rfl
theorem nI_cons (z : Nat) (l : List Nat) : nI (z :: l) = pu z ++ nI l := by unfold nI; rw [List.flatMap_cons]
theorem nI_app (l r : List Nat) : nI (l ++ r) = nI l ++ nI r := by unfold nI; rw [List.flatMap_append]
theorem nI_take (l : List Nat) (k : Nat) (h : k < l.length) : nI (l.take (k + 1)) = nI (l.take k) ++ pu (l.getD k 0) := by
  rw [take_snoc l k 0 h, nI_app, nI_cons, nI_nil, List.append_nil]
theorem nI_len : ∀ (l : List Nat), (∀ z ∈ l, z < 9223372036854775808) → (nI l).length ≤ 10 * l.length
  | [], _ => Nat.zero_le _
  | z :: l, h => by
    have h1 := nI_len l (fun y hy => h y (List.mem_cons_of_mem _ hy))
    have h2 := pu_ten (n := z) (by have := h z (List.mem_cons_self ..); omega)
    rw [nI_cons, List.length_append, List.length_cons]
    omega
theorem nI_byte : ∀ (l : List Nat), (∀ z ∈ l, z < 9223372036854775808) → ∀ x ∈ nI l, x < 256
  | [], _, x, hx => by cases hx
  | z :: l, h, x, hx => by
    rw [nI_cons] at hx
    rcases List.mem_append.1 hx with g | g
    · exact pu_bytes (by have := h z (List.mem_cons_self ..); omega) x g
    · exact nI_byte l (fun y hy => h y (List.mem_cons_of_mem _ hy)) x g
theorem nI_one (z : Nat) : nI [z] = pu z := by rw [nI_cons, nI_nil, List.append_nil]
/-- a text behind its length -/
def txC (s : ByteArray) : List Nat := pu s.size ++ byl s
theorem txC_len (s : ByteArray) (h : s.size < 9223372036854775808) : (txC s).length ≤ 10 + s.size := by
  have := pu_ten (n := s.size) (by omega)
  unfold txC; rw [List.length_append, byl_len]; omega
theorem txC_byte (s : ByteArray) (h : s.size < 9223372036854775808) : ∀ x ∈ txC s, x < 256 := by
  intro x hx
  rcases List.mem_append.1 hx with g | g
  · exact pu_bytes (by omega) x g
  · exact byl_byte s x g
/-- the first k things of a list, one behind the other -/
def sqC {α : Type} (f : α → List Nat) (d : α) (l : List α) : Nat → List Nat
  | 0 => []
  | k + 1 => sqC f d l k ++ f (l.getD k d)
theorem sqC_byte {α : Type} {f : α → List Nat} {d : α} {l : List α} (h : ∀ x ∈ l, ∀ y ∈ f x, y < 256) : ∀ k, k ≤ l.length → ∀ y ∈ sqC f d l k, y < 256
  | 0, _, y, hy => by cases hy
  | k + 1, hk, y, hy => by
    rcases List.mem_append.1 hy with g | g
    · exact sqC_byte h k (by omega) y g
    · exact h _ (by rw [show l.getD k d = l[k] from by simp [show k < l.length from by omega]]; exact List.getElem_mem _) y g
theorem sqC_len {α : Type} {f : α → List Nat} {d : α} {l : List α} {m : Nat} (h : ∀ x ∈ l, (f x).length ≤ m) : ∀ k, k ≤ l.length → (sqC f d l k).length ≤ k * m
  | 0, _ => by simp [sqC]
  | k + 1, hk => by
    have h1 := sqC_len (d := d) h k (by omega)
    have h2 := h (l.getD k d) (by rw [show l.getD k d = l[k] from by simp [show k < l.length from by omega]]; exact List.getElem_mem _)
    rw [sqC, List.length_append, Nat.succ_mul]
    omega
theorem sqC_flat {α : Type} (f : α → List Nat) (d : α) (l : List α) : ∀ k, k ≤ l.length → sqC f d l k = (l.take k).flatMap f
  | 0, _ => rfl
  | k + 1, hk => by
    rw [sqC, sqC_flat f d l k (by omega), take_snoc l k d (by omega), List.flatMap_append]
    simp
end Go.Proofs.YtbdgcfimbblncaaGreatDoor
end PkMC1_5
section PkMC1_6
/- PutU of package nums, walked: the bytes that it makes are the plain function's, in memory of its own. Condition: the number fits 64 bits. -/
namespace Go.Proofs.YtbdgcfimbblncaaGreatDoor
open Go.RowKit NumsPlain
set_option linter.unusedVariables false

theorem or128_fin : ∀ x : Fin 256, bits .or .u8 ((x.val : Nat) : Int) 128 = ((128 + x.val % 128 : Nat) : Int) := by decide +kernel
theorem or128 (m : Nat) : bits .or .u8 ((m : Int) % 256) 128 = ((128 + m % 128 : Nat) : Int) := by
  have h := or128_fin ⟨m % 256, by omega⟩
  simp only at h
  have e1 : ((m % 256 : Nat) : Int) = (m : Int) % 256 := by omega
  have e2 : m % 256 % 128 = m % 128 := by omega
  rw [e1, e2] at h
  exact h

set_option maxRecDepth 100000 in
set_option maxHeartbeats 1000000 in
theorem putu_any (n : Nat) (hn : n < 18446744073709551616) (w : World) :
    Calls Tryz.prog 77 #[.int .u64 n] w fun e w' => ∃ v, e = .returned v ∧ w'.ownsRow w.heap.size 5 1 v (pu n).length (bv (pu n)) ∧ Below w.heap.size w w' := by
  obtain ⟨i0, hi, hz0, hz1, hz2⟩ := info_parts info_u8
  go_enter Tryz.func77, Tryz.ntmps77
  go_wp2_with (at_make; refine wpList_make_own _ rfl _ _ 30 rfl w.heap.size 5 i0 (.int .u8 0) 1 Tryz.underlying30 hi hz0 hz1 _ _ _ 10 rfl rfl (by omega) ?b2 ?b3 (Nat.le_refl _) ?_)
  case b2 => rw [hz2]; omega
  case b3 => unfold maxLen; omega
  intro w0 hown0 hgrow0
  go_wp2
  go_loopw [0, 3] (fun sn b wr => ∃ (m : Nat) (xs : List Nat), m < 18446744073709551616 ∧ sn = .int .u64 m ∧ wr.ownsRow w.heap.size 5 1 b xs.length (bv xs) ∧ xs ++ pu m = pu n ∧ Below w.heap.size w wr) (fun sn _ _ => (intOf sn).toNat)
  case atStart => exact ⟨n, [], hn, rfl, hown0, rfl, (Below.refl _ _).grown hgrow0 (Nat.le_refl _) (fun k h => by cases h)⟩
  case round =>
    obtain ⟨m, xs, hm, rfl, hown, hx, hnx⟩ := hrel
    have hl : xs.length ≤ 9 := by
      have h1 := congrArg List.length hx
      rw [List.length_append] at h1
      have h2 := pu_pos m
      have h3 := pu_ten hn
      omega
    have hB := hnx.size
    have HX := Lib.hid hx
    have HM := Lib.hid hm
    have HN := Lib.hid hn
    by_cases hlt : m < 128
    · clear hx hm hn
      go_wp2_with (at_builtin; refine wpList_append_own _ rfl (.tmp 15) (.tmp 18) 30 rfl w.heap.size 5 i0 (.int .u8 0) 1 1 Tryz.underlying30 hi hz0 hz1 hz2 rfl (by decide) _ _ _ rfl (hown.alloc _) ⟨wr.heap.size, 0, none⟩ 1 1 [.int .u8 m] rfl rfl ?c1 ?c2 ?c3 ?c4 ?c5 ?_)
      case c1 =>
        intro j u hj
        match j, hj with
        | 0, hj => simp at hj; subst hj; simp [Addr.add]
      case c2 => intro u hu; simp at hu; subst hu; rfl
      case c3 => unfold maxLen; omega
      case c4 => omega
      case c5 => simp; omega
      intro v' w1 hown' hgrow _
      go_wp2
      go_ret
      have hs := pu_small hlt
      have e1 : pu n = xs ++ [m] := by rw [← HX.out, hs]
      refine ⟨v', rfl, ?_, ?_⟩
      · rw [e1]; simpa [bv] using hown'
      · exact (hnx.alloc hnx.size _).grown hgrow (by simp; omega) (fun k hk => (hown.lt k hk).1)
    · clear hx hm hn
      go_wp2_with (at_builtin; refine wpList_append_own _ rfl (.tmp 7) (.tmp 11) 30 rfl w.heap.size 5 i0 (.int .u8 0) 1 1 Tryz.underlying30 hi hz0 hz1 hz2 rfl (by decide) _ _ _ rfl (hown.alloc _) ⟨wr.heap.size, 0, none⟩ 1 1 [.int .u8 (bits .or .u8 ((m : Int) % 256) 128)] rfl rfl ?d1 ?d2 ?d3 ?d4 ?d5 ?_)
      case d1 =>
        intro j u hj
        match j, hj with
        | 0, hj => simp at hj; subst hj; simp [Addr.add]
      case d2 => intro u hu; simp at hu; subst hu; rfl
      case d3 => unfold maxLen; omega
      case d4 => omega
      case d5 => simp; omega
      intro v' w1 hown' hgrow _
      go_wp2
      have hs := pu_big (show 128 ≤ m by omega)
      have hm' := HM.out
      go_roundw
      case rel =>
        refine ⟨m / 128, xs ++ [128 + m % 128], by omega, by go_num, ?_, ?_, ?_⟩
        · rw [or128] at hown'; simpa [bv] using hown'
        · rw [← HX.out, hs]; simp
        · exact (hnx.alloc hnx.size _).grown hgrow (by simp; omega) (fun k hk => (hown.lt k hk).1)
      case measure => simp [intOf]; omega

/-- as a slice of bytes wherever -/
theorem putu (n : Nat) (hn : n < 18446744073709551616) (w : World) :
    Calls Tryz.prog 77 #[.int .u64 n] w fun e w' => ∃ g c, e = .returned (.slice (some ⟨g, 0, none⟩) (pu n).length c) ∧ w.heap.size ≤ g ∧ BytesAt w' (some ⟨g, 0, none⟩) (pu n).length c (pu n) ∧ Below w.heap.size w w' := by
  refine (putu_any n hn w).mono ?_
  rintro e w' ⟨v, rfl, hown, hb⟩
  obtain ⟨g, c, rfl, h1, _, h2⟩ := BytesAt.own hown (pu_bytes hn) (pu_pos n) (by have := pu_ten hn; omega)
  exact ⟨g, c, rfl, h1, h2, hb⟩
end Go.Proofs.YtbdgcfimbblncaaGreatDoor
end PkMC1_6
section PkMC1_7
/- Signed numbers as unsigned ones and back: package nums' Zig, Zag and the document's. Condition: each number fits its 64 bits. -/
namespace Go.Proofs.YtbdgcfimbblncaaGreatDoor
open Go.RowKit
set_option linter.unusedVariables false

theorem xor_ones_u64 (x : Int) : bits .xor .u64 x 18446744073709551615 = IntKind.u64.wrap (-1 - x) := by
  have h : BitVec.ofInt 64 18446744073709551615 = BitVec.allOnes 64 := by decide
  show IntKind.u64.wrap ((BitVec.ofInt 64 x ^^^ BitVec.ofInt 64 18446744073709551615).toNat : Int) = _
  rw [h, BitVec.xor_allOnes, BitVec.toNat_not, BitVec.toNat_ofInt, IntKind.wrap_u64, IntKind.wrap_u64]
  omega
theorem xor_zero_u64 (x : Int) : bits .xor .u64 x 0 = IntKind.u64.wrap x := by
  show IntKind.u64.wrap ((BitVec.ofInt 64 x ^^^ BitVec.ofInt 64 0).toNat : Int) = _
  have h : BitVec.ofInt 64 0 = 0#64 := by decide
  rw [h, BitVec.xor_zero, BitVec.toNat_ofInt, IntKind.wrap_u64, IntKind.wrap_u64]
  omega
theorem xor_ones_i64 (x : Int) : bits .xor .i64 x (-1) = IntKind.i64.wrap (-1 - x) := by
  have h : BitVec.ofInt 64 (-1) = BitVec.allOnes 64 := by decide
  show IntKind.i64.wrap ((BitVec.ofInt 64 x ^^^ BitVec.ofInt 64 (-1)).toNat : Int) = _
  rw [h, BitVec.xor_allOnes, BitVec.toNat_not, BitVec.toNat_ofInt, IntKind.wrap_i64, IntKind.wrap_i64]
  omega
theorem xor_zero_i64 (x : Int) : bits .xor .i64 x 0 = IntKind.i64.wrap x := by
  show IntKind.i64.wrap ((BitVec.ofInt 64 x ^^^ BitVec.ofInt 64 0).toNat : Int) = _
  have h : BitVec.ofInt 64 0 = 0#64 := by decide
  rw [h, BitVec.xor_zero, BitVec.toNat_ofInt, IntKind.wrap_i64, IntKind.wrap_i64]
  omega

/-- a signed number as an unsigned one -/
def zig (m : Int) : Nat := if m < 0 then (2 * -(m + 1) + 1).toNat else (2 * m).toNat
/-- and back -/
def zag (n : Nat) : Int := if n % 2 = 1 then -((n : Int) / 2) - 1 else (n : Int) / 2
theorem zig_neg {m : Int} (h : m < 0) : (zig m : Int) = 2 * -(m + 1) + 1 := by unfold zig; rw [if_pos h]; omega
theorem zig_pos {m : Int} (h : ¬ m < 0) : (zig m : Int) = 2 * m := by unfold zig; rw [if_neg h]; omega
theorem zag_odd {n : Nat} (h : n % 2 = 1) : zag n = -((n : Int) / 2) - 1 := by unfold zag; rw [if_pos h]
theorem zag_even {n : Nat} (h : ¬ n % 2 = 1) : zag n = (n : Int) / 2 := by unfold zag; rw [if_neg h]
theorem zag_zig (m : Int) : zag (zig m) = m := by
  by_cases h : m < 0
  · have h1 := zig_neg h
    rw [zag_odd (by omega), h1]; omega
  · have h1 := zig_pos h
    rw [zag_even (by omega), h1]; omega
theorem zig_lt {m : Int} (hlo : -9223372036854775808 ≤ m) (hhi : m ≤ 9223372036854775807) : zig m < 18446744073709551616 := by
  by_cases h : m < 0
  · have h1 := zig_neg h; omega
  · have h1 := zig_pos h; omega
theorem zag_lo {n : Nat} (h : n < 18446744073709551616) : -9223372036854775808 ≤ zag n := by
  unfold zag; split <;> omega
theorem zag_hi {n : Nat} (h : n < 18446744073709551616) : zag n ≤ 9223372036854775807 := by
  unfold zag; split <;> omega

end Go.Proofs.YtbdgcfimbblncaaGreatDoor
end PkMC1_7
section PkMC1_8
/- PutI and the document's PutU, walked. -/
namespace Go.Proofs.YtbdgcfimbblncaaGreatDoor
open Go.RowKit NumsPlain
set_option linter.unusedVariables false


set_option maxRecDepth 100000 in
set_option maxHeartbeats 1000000 in
theorem rputu_any (n : Nat) (hn : n < 18446744073709551616) (w : World) :
    Calls Tryz.prog 86 #[.int .u64 n] w fun e w' => ∃ v, e = .returned v ∧ w'.ownsRow w.heap.size 5 1 v (pu n).length (bv (pu n)) ∧ Below w.heap.size w w' := by
  obtain ⟨i0, hi, hz0, hz1, hz2⟩ := info_parts info_u8
  have hown0 := World.ownsRow_lit (base := w.heap.size) (e := 5) (size := 1) w #[] 0 (Nat.le_refl _) (by unfold maxLen; omega) rfl
  have h3 := pu_ten hn
  have HN := Lib.hid hn
  clear hn
  go_enter Tryz.func86, Tryz.ntmps86
  go_wp2
  go_loopw [0, 3] (fun sn b wr => ∃ (m : Nat) (xs : List Nat), Hid (m < 18446744073709551616) ∧ sn = .int .u64 m ∧ wr.ownsRow w.heap.size 5 1 b xs.length (bv xs) ∧ Hid (xs ++ pu m = pu n) ∧ Below w.heap.size w wr) (fun sn _ _ => (intOf sn).toNat)
  case atStart => exact ⟨n, [], HN, rfl, hown0, Lib.hid rfl, (Below.refl _ _).alloc (Nat.le_refl _) _⟩
  case round =>
    obtain ⟨m, xs, HM, rfl, hown, HX, hnx⟩ := hrel
    have hl : xs.length ≤ 9 := by
      have h1 := congrArg List.length HX.out
      rw [List.length_append] at h1
      have h2 := pu_pos m
      omega
    have hB := hnx.size
    have hmm : m ≤ 18446744073709551615 := by have := HM.out; omega
    by_cases hlt : m < 128
    · have hq : ¬ (0 : Int) < (m : Int) / 128 := by omega
      go_wp2_with (at_builtin; refine wpList_append_own _ rfl (.tmp 17) (.tmp 20) 30 rfl w.heap.size 5 i0 (.int .u8 0) 1 1 Tryz.underlying30 hi hz0 hz1 hz2 rfl (by decide) _ _ _ rfl (hown.alloc _) ⟨wr.heap.size, 0, none⟩ 1 1 [.int .u8 m] rfl rfl (one_src _ _ _) (one_oneCell rfl) (by unfold maxLen; omega) (by omega) (by simp; omega) ?_)
      intro v' w1 hown' hgrow _
      go_wp2
      go_ret
      have hs := pu_small hlt
      have e1 : pu n = xs ++ [m] := by rw [← HX.out, hs]
      refine ⟨v', rfl, ?_, ?_⟩
      · rw [e1]; simpa [bv] using hown'
      · exact (hnx.alloc hnx.size _).grown hgrow (by simp; omega) (fun k hk => (hown.lt k hk).1)
    · have hq : (0 : Int) < (m : Int) / 128 := by omega
      go_wp2_with (at_builtin; refine wpList_append_own _ rfl (.tmp 8) (.tmp 13) 30 rfl w.heap.size 5 i0 (.int .u8 0) 1 1 Tryz.underlying30 hi hz0 hz1 hz2 rfl (by decide) _ _ _ rfl (hown.alloc _) ⟨wr.heap.size, 0, none⟩ 1 1 [.int .u8 (128 + (m : Int) % 128)] rfl rfl (one_src _ _ _) (one_oneCell rfl) (by unfold maxLen; omega) (by omega) (by simp; omega) ?_)
      intro v' w1 hown' hgrow _
      go_wp2
      have hs := pu_big (show 128 ≤ m by omega)
      have hm' := HM.out
      go_roundw
      case rel =>
        refine ⟨m / 128, xs ++ [128 + m % 128], Lib.hid (by omega), by go_num, ?_, ?_, ?_⟩
        · simpa [bv] using hown'
        · exact Lib.hid (by rw [← HX.out, hs]; simp)
        · exact (hnx.alloc hnx.size _).grown hgrow (by simp; omega) (fun k hk => (hown.lt k hk).1)
      case measure => simp [intOf]; omega

/-- as a slice of bytes wherever -/
theorem rputu (n : Nat) (hn : n < 18446744073709551616) (w : World) :
    Calls Tryz.prog 86 #[.int .u64 n] w fun e w' => ∃ g c, e = .returned (.slice (some ⟨g, 0, none⟩) (pu n).length c) ∧ w.heap.size ≤ g ∧ BytesAt w' (some ⟨g, 0, none⟩) (pu n).length c (pu n) ∧ Below w.heap.size w w' := by
  refine (rputu_any n hn w).mono ?_
  rintro e w' ⟨v, rfl, hown, hb⟩
  obtain ⟨g, c, rfl, h1, _, h2⟩ := BytesAt.own hown (pu_bytes hn) (pu_pos n) (by have := pu_ten hn; omega)
  exact ⟨g, c, rfl, h1, h2, hb⟩
end Go.Proofs.YtbdgcfimbblncaaGreatDoor
end PkMC1_8
section PkMC1_9
/- Manifests: numbers and texts put behind bytes, walked. Written by genmfenc.py. -/
namespace Go.Proofs.YtbdgcfimbblncaaGreatDoor
open Go.RowKit NumsPlain
set_option linter.unusedVariables false

set_option maxRecDepth 100000 in
set_option maxHeartbeats 2000000 in
theorem mnums_any {w : World} {base n g k : Nat} {v : Value} {xs zs : List Nat} {cs : Array Value} (ho : ApB base w v n xs) (hbs : base ≤ w.heap.size) (hg : w.heap[g]? = some (.cells cs 3 (0, 0))) (hcs : cs.toList = zs.map fun z => Value.int .i64 ((z : Nat) : Int)) (hk : k = zs.length) (hz : ∀ z ∈ zs, z < 9223372036854775808) (hk20 : k ≤ 20) (hk0 : 0 < k) (hn : n ≤ 100000000) :
    Calls Tryz.prog 21 #[v, .slice (some ⟨g, 0, none⟩) k k] w fun e w' => ∃ v', e = .returned v' ∧ w'.ownsRow base 5 1 v' (n + (nI zs).length) (bv (xs ++ nI zs)) ∧ Gb base w w' := by
  obtain ⟨a, c, rfl⟩ := ho.slice
  have hcell : ∀ j, j < k → cs[j]? = some (.int .i64 ((zs.getD j 0 : Nat) : Int)) := fun j hj => by
    rw [← Array.getElem?_toList, hcs]
    simp [show j < zs.length by omega]
  have h63 : ∀ j, j < k → zs.getD j 0 < 9223372036854775808 := fun j hj => hz _ (by rw [show zs.getD j 0 = zs[j] from by simp [show j < zs.length by omega]]; exact List.getElem_mem _)
  have hlen : ∀ j, (nI (zs.take j)).length ≤ 10 * k := fun j => by
    have := nI_len (zs.take j) (fun z hz2 => hz z (List.mem_of_mem_take hz2))
    have h2 : (zs.take j).length ≤ zs.length := by simp; omega
    omega
  have HC := Lib.hid hcell
  have H63 := Lib.hid h63
  have HL := Lib.hid hlen
  have HO := Lib.hid ho
  have HG := Lib.hid hg
  have HK := Lib.hid hk
  have HBS := Lib.hid hbs
  clear ho hg hcs hcell h63 hlen hz hk hbs
  go_enter Tryz.func21, Tryz.ntmps21
  go_wp2_with fail
  go_loopw [0, 6, 9] (fun s0 _ s9 wr => ∃ (j m c9 : Nat) (a9 : Option Addr), j ≤ k ∧ s9 = .int .i64 (j : Int) ∧ s0 = .slice a9 m c9 ∧ Hid (m = n + (nI (zs.take j)).length) ∧ Hid (ApB base wr (.slice a9 m c9) m (xs ++ nI (zs.take j))) ∧ Hid (0 < j → wr.ownsRow base 5 1 (.slice a9 m c9) m (bv (xs ++ nI (zs.take j)))) ∧ Hid (Gb base w wr)) (fun _ _ s9 _ => k - (intOf s9).toNat)
  case atStart => exact ⟨0, n, c, a, by omega, rfl, rfl, Lib.hid (by simp [nI_nil]), Lib.hid (by simpa [nI_nil] using HO.out), Lib.hid (fun h => absurd h (Nat.lt_irrefl 0)), Lib.hid (Gb.refl _ _)⟩
  case round =>
    clear HO
    obtain ⟨j, m, c9, a9, hj, rfl, rfl, HM, HO, HOW, HGB⟩ := hrel
    rename World => wr
    by_cases hjk : j < k
    · have hji : (j : Int) < (k : Int) := by omega
      obtain ⟨z, hz⟩ : ∃ z, z = zs.getD j 0 := ⟨_, rfl⟩
      have c0 : wr.cell? ⟨g, j, none⟩ = some (.int .i64 (z : Int)) := by
        rw [cell_of_row wr g j _ _ (0, 0) (HGB.out.other _ _ _ HG.out (by decide)), hz]; exact HC.out j hjk
      have hz63 : z < 9223372036854775808 := by rw [hz]; exact H63.out j hjk
      have hm : m ≤ 100000200 := by have h1 := HM.out; have h2 := HL.out j; omega
      have HZ := Lib.hid (show nI (zs.take (j + 1)) = nI (zs.take j) ++ pu z from by rw [hz]; exact nI_take zs j (by have := HK.out; omega))
      have HP := Lib.hid (putu z (by omega) wr)
      have h10 := pu_ten (n := z) (by omega)
      have HSZ := Lib.hid (Nat.le_trans HBS.out HGB.out.size)
      clear hz
      go_wp2_with fail
      refine HP.out.mono ?_
      rintro e w1 ⟨g1, c1, rfl, hg1, hb1, hbel⟩
      have HB1 := Lib.hid hbel
      have H1 := Lib.hid hb1
      have HS := Lib.hid (Nat.le_trans HSZ.out hbel.size)
      have HO1 := Lib.hid (HO.out.below hbel)
      have HPP := Lib.hid (pu_pos z)
      clear hb1 hbel hg1 c0
      go_wp2_with (at_builtin; refine wpList_append_ap rfl (.tmp 13) (.tmp 16) rfl base _ m _ rfl HO1.out _ _ _ (pu z) rfl H1.out HPP.out (by omega) HS.out ?_)
      intro v2 w2 ho2 hg2
      have HG2 := Lib.hid ((HGB.out.trans (Gb.of HB1.out HSZ.out)).trans hg2)
      rw [← HZ.out] at ho2
      have HM2 := Lib.hid (show m + (pu z).length = n + (nI (zs.take (j + 1))).length from by rw [HZ.out, List.length_append, HM.out]; omega)
      obtain ⟨a3, c3, rfl⟩ := own_slice ho2
      have HO2 := Lib.hid ho2
      clear ho2 hg2
      go_wp2_with fail
      go_roundw
      case rel => exact ⟨j + 1, _, c3, a3, by omega, by go_num, rfl, HM2, Lib.hid (.inl HO2.out), Lib.hid (fun _ => HO2.out), HG2⟩
      case measure => simp [intOf]; omega
    · obtain rfl : j = k := by omega
      have e9 : zs.take j = zs := by rw [HK.out, List.take_length]
      have hm := HM.out
      have ho := HOW.out (by omega)
      rw [e9] at ho hm
      have HOF := Lib.hid (show wr.ownsRow base 5 1 (.slice a9 m c9) (n + (nI zs).length) (bv (xs ++ nI zs)) from by rw [← hm]; exact ho)
      clear hjk e9 hm ho
      go_wp2_with fail
      go_ret
      exact ⟨_, rfl, HOF.out, HGB.out⟩
/-- the numbers written out just ahead -/
theorem mnums_lit {w : World} {base n : Nat} {v : Value} {xs : List Nat} (ho : ApB base w v n xs) (hbs : base ≤ w.heap.size) (hn : n ≤ 100000000) (zs : List Nat) (cs : Array Value) (k : Nat) (hcs : cs.toList = zs.map fun z => Value.int .i64 ((z : Nat) : Int)) (hk : k = zs.length) (hz : ∀ z ∈ zs, z < 9223372036854775808) (hk20 : k ≤ 20) (hk0 : 0 < k) :
    Calls Tryz.prog 21 #[v, .slice (some ⟨w.heap.size, 0, none⟩) k k] (w.alloc (.cells cs 3)) fun e w' => ∃ v', e = .returned v' ∧ w'.ownsRow base 5 1 v' (n + (nI zs).length) (bv (xs ++ nI zs)) ∧ Gb base w w' := by
  refine (mnums_any (ho.below ((Below.refl _ _).alloc (Nat.le_refl _) _)) (Nat.le_trans hbs (Gb.alloc w (.cells cs 3) hbs).size) (heap_alloc_new _ _) hcs hk hz hk20 hk0 hn).mono ?_
  rintro e w' ⟨v', rfl, ho2, hg⟩
  exact ⟨v', rfl, ho2, (Gb.alloc w _ hbs).trans hg⟩

set_option maxRecDepth 100000 in
set_option maxHeartbeats 2000000 in
theorem rnums_any {w : World} {base n g k : Nat} {v : Value} {xs zs : List Nat} {cs : Array Value} (ho : ApB base w v n xs) (hbs : base ≤ w.heap.size) (hg : w.heap[g]? = some (.cells cs 3 (0, 0))) (hcs : cs.toList = zs.map fun z => Value.int .i64 ((z : Nat) : Int)) (hk : k = zs.length) (hz : ∀ z ∈ zs, z < 9223372036854775808) (hk20 : k ≤ 20) (hk0 : 0 < k) (hn : n ≤ 100000000) :
    Calls Tryz.prog 45 #[v, .slice (some ⟨g, 0, none⟩) k k] w fun e w' => ∃ v', e = .returned v' ∧ w'.ownsRow base 5 1 v' (n + (nI zs).length) (bv (xs ++ nI zs)) ∧ Gb base w w' := by
  obtain ⟨a, c, rfl⟩ := ho.slice
  have hcell : ∀ j, j < k → cs[j]? = some (.int .i64 ((zs.getD j 0 : Nat) : Int)) := fun j hj => by
    rw [← Array.getElem?_toList, hcs]
    simp [show j < zs.length by omega]
  have h63 : ∀ j, j < k → zs.getD j 0 < 9223372036854775808 := fun j hj => hz _ (by rw [show zs.getD j 0 = zs[j] from by simp [show j < zs.length by omega]]; exact List.getElem_mem _)
  have hlen : ∀ j, (nI (zs.take j)).length ≤ 10 * k := fun j => by
    have := nI_len (zs.take j) (fun z hz2 => hz z (List.mem_of_mem_take hz2))
    have h2 : (zs.take j).length ≤ zs.length := by simp; omega
    omega
  have HC := Lib.hid hcell
  have H63 := Lib.hid h63
  have HL := Lib.hid hlen
  have HO := Lib.hid ho
  have HG := Lib.hid hg
  have HK := Lib.hid hk
  have HBS := Lib.hid hbs
  clear ho hg hcs hcell h63 hlen hz hk hbs
  go_enter Tryz.func45, Tryz.ntmps45
  go_wp2_with fail
  go_loopw [0, 6, 9] (fun s0 _ s9 wr => ∃ (j m c9 : Nat) (a9 : Option Addr), j ≤ k ∧ s9 = .int .i64 (j : Int) ∧ s0 = .slice a9 m c9 ∧ Hid (m = n + (nI (zs.take j)).length) ∧ Hid (ApB base wr (.slice a9 m c9) m (xs ++ nI (zs.take j))) ∧ Hid (0 < j → wr.ownsRow base 5 1 (.slice a9 m c9) m (bv (xs ++ nI (zs.take j)))) ∧ Hid (Gb base w wr)) (fun _ _ s9 _ => k - (intOf s9).toNat)
  case atStart => exact ⟨0, n, c, a, by omega, rfl, rfl, Lib.hid (by simp [nI_nil]), Lib.hid (by simpa [nI_nil] using HO.out), Lib.hid (fun h => absurd h (Nat.lt_irrefl 0)), Lib.hid (Gb.refl _ _)⟩
  case round =>
    clear HO
    obtain ⟨j, m, c9, a9, hj, rfl, rfl, HM, HO, HOW, HGB⟩ := hrel
    rename World => wr
    by_cases hjk : j < k
    · have hji : (j : Int) < (k : Int) := by omega
      obtain ⟨z, hz⟩ : ∃ z, z = zs.getD j 0 := ⟨_, rfl⟩
      have c0 : wr.cell? ⟨g, j, none⟩ = some (.int .i64 (z : Int)) := by
        rw [cell_of_row wr g j _ _ (0, 0) (HGB.out.other _ _ _ HG.out (by decide)), hz]; exact HC.out j hjk
      have hz63 : z < 9223372036854775808 := by rw [hz]; exact H63.out j hjk
      have hm : m ≤ 100000200 := by have h1 := HM.out; have h2 := HL.out j; omega
      have HZ := Lib.hid (show nI (zs.take (j + 1)) = nI (zs.take j) ++ pu z from by rw [hz]; exact nI_take zs j (by have := HK.out; omega))
      have HP := Lib.hid (rputu z (by omega) wr)
      have h10 := pu_ten (n := z) (by omega)
      have HSZ := Lib.hid (Nat.le_trans HBS.out HGB.out.size)
      clear hz
      go_wp2_with fail
      refine HP.out.mono ?_
      rintro e w1 ⟨g1, c1, rfl, hg1, hb1, hbel⟩
      have HB1 := Lib.hid hbel
      have H1 := Lib.hid hb1
      have HS := Lib.hid (Nat.le_trans HSZ.out hbel.size)
      have HO1 := Lib.hid (HO.out.below hbel)
      have HPP := Lib.hid (pu_pos z)
      clear hb1 hbel hg1 c0
      go_wp2_with (at_builtin; refine wpList_append_ap rfl (.tmp 13) (.tmp 16) rfl base _ m _ rfl HO1.out _ _ _ (pu z) rfl H1.out HPP.out (by omega) HS.out ?_)
      intro v2 w2 ho2 hg2
      have HG2 := Lib.hid ((HGB.out.trans (Gb.of HB1.out HSZ.out)).trans hg2)
      rw [← HZ.out] at ho2
      have HM2 := Lib.hid (show m + (pu z).length = n + (nI (zs.take (j + 1))).length from by rw [HZ.out, List.length_append, HM.out]; omega)
      obtain ⟨a3, c3, rfl⟩ := own_slice ho2
      have HO2 := Lib.hid ho2
      clear ho2 hg2
      go_wp2_with fail
      go_roundw
      case rel => exact ⟨j + 1, _, c3, a3, by omega, by go_num, rfl, HM2, Lib.hid (.inl HO2.out), Lib.hid (fun _ => HO2.out), HG2⟩
      case measure => simp [intOf]; omega
    · obtain rfl : j = k := by omega
      have e9 : zs.take j = zs := by rw [HK.out, List.take_length]
      have hm := HM.out
      have ho := HOW.out (by omega)
      rw [e9] at ho hm
      have HOF := Lib.hid (show wr.ownsRow base 5 1 (.slice a9 m c9) (n + (nI zs).length) (bv (xs ++ nI zs)) from by rw [← hm]; exact ho)
      clear hjk e9 hm ho
      go_wp2_with fail
      go_ret
      exact ⟨_, rfl, HOF.out, HGB.out⟩
/-- the numbers written out just ahead -/
theorem rnums_lit {w : World} {base n : Nat} {v : Value} {xs : List Nat} (ho : ApB base w v n xs) (hbs : base ≤ w.heap.size) (hn : n ≤ 100000000) (zs : List Nat) (cs : Array Value) (k : Nat) (hcs : cs.toList = zs.map fun z => Value.int .i64 ((z : Nat) : Int)) (hk : k = zs.length) (hz : ∀ z ∈ zs, z < 9223372036854775808) (hk20 : k ≤ 20) (hk0 : 0 < k) :
    Calls Tryz.prog 45 #[v, .slice (some ⟨w.heap.size, 0, none⟩) k k] (w.alloc (.cells cs 3)) fun e w' => ∃ v', e = .returned v' ∧ w'.ownsRow base 5 1 v' (n + (nI zs).length) (bv (xs ++ nI zs)) ∧ Gb base w w' := by
  refine (rnums_any (ho.below ((Below.refl _ _).alloc (Nat.le_refl _) _)) (Nat.le_trans hbs (Gb.alloc w (.cells cs 3) hbs).size) (heap_alloc_new _ _) hcs hk hz hk20 hk0 hn).mono ?_
  rintro e w' ⟨v', rfl, ho2, hg⟩
  exact ⟨v', rfl, ho2, (Gb.alloc w _ hbs).trans hg⟩


set_option maxRecDepth 100000 in
set_option maxHeartbeats 2000000 in
theorem mtext_any {w : World} {base n : Nat} {v : Value} {xs : List Nat} (ho : w.ownsRow base 5 1 v n (bv xs)) (hbs : base ≤ w.heap.size) (hn : n ≤ 90000000) (s : ByteArray) (hs : s.size ≤ 100000) :
    Calls Tryz.prog 24 #[v, .string s] w fun e w' => ∃ v', e = .returned v' ∧ w'.ownsRow base 5 1 v' (n + (txC s).length) (bv (xs ++ txC s)) ∧ Gb base w w' := by
  obtain ⟨i0, hi, hz0, hz1, hz2⟩ := info_parts info_u8
  have HN := Lib.hid (mnums_lit (.inl ho) hbs (by omega) [s.size] #[.int .i64 (s.size : Int)] 1 rfl rfl (fun z hz => by rw [List.mem_singleton.1 hz]; omega) (by decide) (by decide))
  have h10 := pu_ten (n := s.size) (by omega)
  have HBS := Lib.hid hbs
  clear ho hbs
  go_enter Tryz.func24, Tryz.ntmps24
  go_wp2_with fail
  refine HN.out.mono ?_
  rintro e w1 ⟨v1, rfl, ho1, hg1⟩
  rw [nI_one] at ho1
  have HO1 := Lib.hid ho1
  have HG1 := Lib.hid hg1
  have HS := Lib.hid (Nat.le_trans HBS.out hg1.size)
  clear ho1 hg1
  go_wp2_with (at_builtin; refine Lib.wpList_append_own_string _ rfl (.tmp 9) (.tmp 10) 30 9 rfl base 5 i0 Tryz.underlying30 Tryz.underlying9 hi hz0 hz1 hz2 _ (n + (pu s.size).length) _ rfl HO1.out s rfl (by unfold maxLen; omega) (by omega) HS.out ?_)
  intro v3 w3 ho3 hg3 _
  have HG3 := Lib.hid (HG1.out.trans (Gb.grow HO1.out HS.out hg3))
  rw [byl_cells, ← bv_append, Nat.add_assoc, List.append_assoc, show (pu s.size).length + s.size = (txC s).length from by unfold txC; rw [List.length_append, byl_len]] at ho3
  have HO3 := Lib.hid ho3
  clear ho3 hg3
  go_wp2_with fail
  go_ret
  exact ⟨_, rfl, HO3.out, HG3.out⟩
end Go.Proofs.YtbdgcfimbblncaaGreatDoor
end PkMC1_9
section PkMC1_10
/- A region whose operations come up in any order: walked once for each operation, not once for each order. -/
namespace Go.Proofs.YtbdgcfimbblncaaGreatDoor
open Go.RowKit
set_option linter.unusedVariables false

def slotOf (ops : Array Oper) (i : Nat) : Option Tmp := (ops[i]?).bind (·.dst)
def upd (v : Nat → Value) (i : Nat) (x : Value) : Nat → Value := fun j => if j = i then x else v j
/-- a state in which the first k operations have left these values -/
def fill (ops : Array Oper) (a : Act) (v : Nat → Value) : Nat → Act
  | 0 => a
  | k + 1 => (fill ops a v k).put (slotOf ops k) (v k)
theorem put_put (a : Act) (d : Option Tmp) (x y : Value) : (a.put d x).put d y = a.put d y := by
  cases d with
  | none => rfl
  | some d => simp [Act.put]
theorem put_self (a : Act) (d : Tmp) : a.put (some d) (a.tmps.getD d undef) = a := by
  obtain ⟨t, f⟩ := a
  show (⟨t.setIfInBounds d (t.getD d undef), f⟩ : Act) = ⟨t, f⟩
  congr 1
  apply Array.ext
  · simp
  · intro i h1 h2
    rw [Array.getElem_setIfInBounds]
    split
    · rename_i e; subst e; simp [h2]
    · rfl
theorem fill_ext {ops : Array Oper} {a : Act} {v u : Nat → Value} : ∀ k, (∀ j, j < k → v j = u j) → fill ops a v k = fill ops a u k
  | 0, _ => rfl
  | k + 1, h => by rw [fill, fill, fill_ext k (fun j hj => h j (by omega)), h k (by omega)]
theorem fill_self {ops : Array Oper} {a : Act} : ∀ k, fill ops a (fun i => match slotOf ops i with | some d => a.tmps.getD d undef | none => undef) k = a
  | 0 => rfl
  | k + 1 => by
    rw [fill, fill_self k]
    cases h : slotOf ops k with
    | none => rfl
    | some d => exact put_self a d
theorem fill_upd {ops : Array Oper} {a : Act} {v : Nat → Value} {n : Nat} (hne : ∀ i j d, i < n → j < n → slotOf ops i = some d → slotOf ops j = some d → i = j) {i : Nat} (x : Value) :
    ∀ k, i < k → k ≤ n → (fill ops a v k).put (slotOf ops i) x = fill ops a (upd v i x) k
  | 0, h, _ => by omega
  | k + 1, h, hk => by
    rcases Nat.lt_or_ge i k with g | g
    · have hx : upd v i x k = v k := by unfold upd; rw [if_neg (by omega)]
      rw [fill, fill, ← fill_upd hne x k g (by omega), hx, Act.put_comm _ _ _ (fun d hd hd2 => by have := hne i k d (by omega) (by omega) hd2 hd; omega)]
    · obtain rfl : i = k := by omega
      have hx : upd v i x i = x := by unfold upd; rw [if_pos rfl]
      rw [fill, fill, put_put, hx, show fill ops a (upd v i x) i = fill ops a v i from fill_ext i (fun j hj => by unfold upd; rw [if_neg (by omega)])]

theorem filter_less {α : Type} {p q : α → Bool} (h : ∀ x, q x = true → p x = true) {y : α} (hy : p y = true) (hn : q y = false) : ∀ l : List α, y ∈ l → (l.filter q).length < (l.filter p).length
  | [], hm => by cases hm
  | x :: l, hm => by
    have hle : (l.filter q).length ≤ (l.filter p).length := by
      clear hm
      induction l with
      | nil => exact Nat.le_refl _
      | cons z l ih =>
        cases hq : q z with
        | true => rw [List.filter_cons_of_pos hq, List.filter_cons_of_pos (h z hq)]; simpa using ih
        | false =>
          rw [List.filter_cons_of_neg (by simp [hq])]
          cases hp : p z with
          | true => rw [List.filter_cons_of_pos hp, List.length_cons]; omega
          | false => rw [List.filter_cons_of_neg (by simp [hp])]; exact ih
    rcases List.mem_cons.1 hm with rfl | hm
    · rw [List.filter_cons_of_neg (by simp [hn]), List.filter_cons_of_pos hy, List.length_cons]; omega
    · have ih := filter_less h hy hn l hm
      cases hq : q x with
      | true => rw [List.filter_cons_of_pos hq, List.filter_cons_of_pos (h x hq), List.length_cons, List.length_cons]; omega
      | false =>
        rw [List.filter_cons_of_neg (by simp [hq])]
        cases hp : p x with
        | true => rw [List.filter_cons_of_pos hp, List.length_cons]; omega
        | false => rw [List.filter_cons_of_neg (by simp [hp])]; exact ih

/-- The law. J: what is held of the world all along; F i x w: what is known of operation i's value once it has come up. -/
theorem wp_region_fill {P : Program} {ops : Array Oper} {Q : Exit → Act → World → Prop} {id : Nat} {a : Act} {w : World} (hm : P.follows .mixedOrders = true)
    (hne : ((List.range ops.size).all fun i => (List.range ops.size).all fun j => decide (i = j) || (slotOf ops i == none) || !(slotOf ops i == slotOf ops j)) = true)
    (hac : ((List.range ops.size).all fun i => (ops[i]?).all fun (o : Oper) => o.after.all fun (e : Edge) => !Region.binds .any e || decide (e.on < i)) = true)
    (J : World → Prop) (F : Nat → Value → World → Prop) (hJ : J w.drew)
    (step : ∀ (i : Nat) (o : Oper), ops[i]? = some o → ∀ (v : Nat → Value) (w1 : World) (K : Act → World → Prop), J w1 → (∀ e : Edge, e ∈ o.after → Region.binds .any e = true → F e.on (v e.on) w1) →
      (∀ x w2, J w2 → F i x w2 → (∀ j y, F j y w1 → F j y w2) → ∀ a2, a2 = (fill ops a v ops.size).put o.dst x → K a2 w2) →
      if Region.wanted o (yielded ops (fill ops a v ops.size).tmps) = true then Oper.wp P o (fill ops a v ops.size) w1 K Q else K ((fill ops a v ops.size).put o.dst undef) w1)
    (last : ∀ (v : Nat → Value) (w1 : World), J w1 → (∀ i, i < ops.size → F i (v i) w1) → Q .normal (fill ops a v ops.size) w1) : (Code.region id ops true).wp P Q a w := by
  have hne2 : ∀ i j d, i < ops.size → j < ops.size → slotOf ops i = some d → slotOf ops j = some d → i = j := by
    intro i j d hi hj h1 h2
    have := List.all_eq_true.1 (List.all_eq_true.1 hne i (List.mem_range.2 hi)) j (List.mem_range.2 hj)
    rw [h1, h2] at this
    simpa using this
  have hac2 : ∀ (i : Nat) (o : Oper), ops[i]? = some o → ∀ e : Edge, e ∈ o.after → Region.binds .any e = true → e.on < i := by
    intro i o ho e he hb
    have hlt := (Array.getElem?_eq_some_iff.1 ho).1
    have := List.all_eq_true.1 hac i (List.mem_range.2 hlt)
    rw [ho] at this
    have h3 : (o.after.all fun (e : Edge) => !Region.binds .any e || decide (e.on < i)) = true := this
    have h2 := Array.all_eq_true_iff_forall_mem.1 h3 e he
    rw [hb] at h2
    simpa using h2
  refine wp_region_any hm ?_
  have key : ∀ (fuel : Nat) (listed : Array Bool) (v : Nat → Value) (w1 : World), listed.size = ops.size → J w1 → (∀ i, listed.getD i false = true → F i (v i) w1) →
      ((List.range ops.size).filter fun i => !listed.getD i true).length ≤ fuel → wpAny P .any ops Q fuel listed (fill ops a v ops.size) w1 := by
    intro fuel
    induction fuel with
    | zero =>
      intro listed v w1 hsz hj hf hc
      have hall : ∀ i, i < ops.size → listed.getD i true = true := by
        intro i hi
        cases hl : listed.getD i true with
        | true => rfl
        | false =>
          have : i ∈ (List.range ops.size).filter fun i => !listed.getD i true := List.mem_filter.2 ⟨List.mem_range.2 hi, by rw [hl]; rfl⟩
          rw [List.eq_nil_of_length_eq_zero (by omega : ((List.range ops.size).filter fun i => !listed.getD i true).length = 0)] at this
          cases this
      have hr : Region.ready .any ops listed = [] := by
        rw [List.eq_nil_iff_forall_not_mem]
        intro i hi
        obtain ⟨h1, o, ho, _⟩ := mem_ready.1 hi
        rw [hall i (Array.getElem?_eq_some_iff.1 ho).1] at h1
        cases h1
      refine ⟨hr, last v w1 hj fun i hi => hf i ?_⟩
      have := hall i hi
      simpa [hsz, hi] using this
    | succ fuel ih =>
      intro listed v w1 hsz hj hf hc
      refine ⟨fun hr => last v w1 hj fun i hi => hf i ?_, fun i hi => ?_⟩
      · have : ∀ k, k < ops.size → listed.getD k false = true := by
          intro k
          induction k using Nat.strongRecOn with
          | _ k ihk =>
            intro hk
            cases hl : listed.getD k false with
            | true => rfl
            | false =>
              exfalso
              have hmem : k ∈ Region.ready .any ops listed := mem_ready.2 ⟨by simpa [hsz, hk] using hl, ops[k], by simp [hk], fun e he hb => ihk e.on (hac2 k _ (by simp [hk]) e he hb) (by have := hac2 k _ (by simp [hk] : ops[k]? = some ops[k]) e he hb; omega)⟩
              rw [hr] at hmem
              cases hmem
        exact this i hi
      · obtain ⟨h1, o, ho, h2⟩ := mem_ready.1 hi
        have hlt : i < ops.size := (Array.getElem?_eq_some_iff.1 ho).1
        have hst := step i o ho v w1 (wpAny P .any ops Q fuel (listed.setIfInBounds i true)) hj (fun e he hb => hf e.on (h2 e he hb)) (fun x w2 hj2 hF hmono a2 ha2 => by
          have hso : slotOf ops i = o.dst := by unfold slotOf; rw [ho]; rfl
          rw [ha2, ← hso, fill_upd hne2 x ops.size hlt (Nat.le_refl _)]
          refine ih (listed.setIfInBounds i true) (upd v i x) w2 (by simpa using hsz) hj2 (fun j hjl => ?_) ?_
          · unfold upd
            by_cases e : j = i
            · rw [if_pos e, e]; exact hF
            · rw [if_neg e]
              refine hmono j _ (hf j ?_)
              have hji : ¬ i = j := fun h => e h.symm
              simpa [Array.getD_eq_getD_getElem?, Array.getElem?_setIfInBounds, hji] using hjl
          · have hlt3 := filter_less (p := fun i => !listed.getD i true) (q := fun j => !(listed.setIfInBounds i true).getD j true) (y := i) (fun j hjq => by
              by_cases e : i = j
              · subst e; simpa using h1
              · simpa [Array.getD_eq_getD_getElem?, Array.getElem?_setIfInBounds, e] using hjq) (by simpa using h1) (by simp [Array.getD_eq_getD_getElem?, hsz, hlt]) (List.range ops.size) (List.mem_range.2 hlt)
            omega)
        unfold wpOp
        rw [ho]
        show if Region.wanted o (yielded ops (fill ops a v ops.size).tmps) = true then _ else _
        split at hst
        · rename_i hw; rw [if_pos hw]; exact .inl hst
        · rename_i hw; rw [if_neg hw]; exact hst
  have h0 := key ops.size (Array.replicate ops.size false) (fun i => match slotOf ops i with | some d => a.tmps.getD d undef | none => undef) w.drew (by simp) hJ (fun i hi => by
    exfalso
    by_cases hlt : i < ops.size <;> simp [Array.getD_eq_getD_getElem?, hlt] at hi) (Nat.le_trans (List.length_filter_le _ _) (by simp))
  rw [fill_self] at h0
  exact h0

/-- The law at its widest: I L v w: what holds when the operations of L have come up and left the values v. -/
theorem wp_region_inv {P : Program} {ops : Array Oper} {Q : Exit → Act → World → Prop} {id : Nat} {a : Act} {w : World} (hm : P.follows .mixedOrders = true)
    (hne : ((List.range ops.size).all fun i => (List.range ops.size).all fun j => decide (i = j) || (slotOf ops i == none) || !(slotOf ops i == slotOf ops j)) = true)
    (hac : ((List.range ops.size).all fun i => (ops[i]?).all fun (o : Oper) => o.after.all fun (e : Edge) => !Region.binds .any e || decide (e.on < i)) = true)
    (I : (Nat → Bool) → (Nat → Value) → World → Prop) (h0 : ∀ v, I (fun _ => false) v w.drew)
    (step : ∀ (i : Nat) (o : Oper), ops[i]? = some o → ∀ (L : Nat → Bool) (v : Nat → Value) (w1 : World) (K : Act → World → Prop), I L v w1 → L i = false → (∀ e : Edge, e ∈ o.after → Region.binds .any e = true → L e.on = true) →
      (∀ x w2, I (fun j => L j || decide (j = i)) (upd v i x) w2 → ∀ a2, a2 = (fill ops a v ops.size).put o.dst x → K a2 w2) →
      if Region.wanted o (yielded ops (fill ops a v ops.size).tmps) = true then Oper.wp P o (fill ops a v ops.size) w1 K Q else K ((fill ops a v ops.size).put o.dst undef) w1)
    (last : ∀ (L : Nat → Bool) (v : Nat → Value) (w1 : World), I L v w1 → (∀ i, i < ops.size → L i = true) → Q .normal (fill ops a v ops.size) w1) : (Code.region id ops true).wp P Q a w := by
  have hne2 : ∀ i j d, i < ops.size → j < ops.size → slotOf ops i = some d → slotOf ops j = some d → i = j := by
    intro i j d hi hj h1 h2
    have := List.all_eq_true.1 (List.all_eq_true.1 hne i (List.mem_range.2 hi)) j (List.mem_range.2 hj)
    rw [h1, h2] at this
    simpa using this
  have hac2 : ∀ (i : Nat) (o : Oper), ops[i]? = some o → ∀ e : Edge, e ∈ o.after → Region.binds .any e = true → e.on < i := by
    intro i o ho e he hb
    have hlt := (Array.getElem?_eq_some_iff.1 ho).1
    have := List.all_eq_true.1 hac i (List.mem_range.2 hlt)
    rw [ho] at this
    have h3 : (o.after.all fun (e : Edge) => !Region.binds .any e || decide (e.on < i)) = true := this
    have h2 := Array.all_eq_true_iff_forall_mem.1 h3 e he
    rw [hb] at h2
    simpa using h2
  refine wp_region_any hm ?_
  have key : ∀ (fuel : Nat) (listed : Array Bool) (v : Nat → Value) (w1 : World), listed.size = ops.size → I (fun i => listed.getD i false) v w1 →
      ((List.range ops.size).filter fun i => !listed.getD i true).length ≤ fuel → wpAny P .any ops Q fuel listed (fill ops a v ops.size) w1 := by
    intro fuel
    induction fuel with
    | zero =>
      intro listed v w1 hsz hI hc
      have hall : ∀ i, i < ops.size → listed.getD i true = true := by
        intro i hi
        cases hl : listed.getD i true with
        | true => rfl
        | false =>
          have : i ∈ (List.range ops.size).filter fun i => !listed.getD i true := List.mem_filter.2 ⟨List.mem_range.2 hi, by rw [hl]; rfl⟩
          rw [List.eq_nil_of_length_eq_zero (by omega : ((List.range ops.size).filter fun i => !listed.getD i true).length = 0)] at this
          cases this
      have hr : Region.ready .any ops listed = [] := by
        rw [List.eq_nil_iff_forall_not_mem]
        intro i hi
        obtain ⟨h1, o, ho, _⟩ := mem_ready.1 hi
        rw [hall i (Array.getElem?_eq_some_iff.1 ho).1] at h1
        cases h1
      refine ⟨hr, last _ v w1 hI fun i hi => ?_⟩
      have := hall i hi
      simpa [hsz, hi] using this
    | succ fuel ih =>
      intro listed v w1 hsz hI hc
      refine ⟨fun hr => last _ v w1 hI fun i hi => ?_, fun i hi => ?_⟩
      · have : ∀ k, k < ops.size → listed.getD k false = true := by
          intro k
          induction k using Nat.strongRecOn with
          | _ k ihk =>
            intro hk
            cases hl : listed.getD k false with
            | true => rfl
            | false =>
              exfalso
              have hmem : k ∈ Region.ready .any ops listed := mem_ready.2 ⟨by simpa [hsz, hk] using hl, ops[k], by simp [hk], fun e he hb => ihk e.on (hac2 k _ (by simp [hk]) e he hb) (by have := hac2 k _ (by simp [hk] : ops[k]? = some ops[k]) e he hb; omega)⟩
              rw [hr] at hmem
              cases hmem
        exact this i hi
      · obtain ⟨h1, o, ho, h2⟩ := mem_ready.1 hi
        have hlt : i < ops.size := (Array.getElem?_eq_some_iff.1 ho).1
        have hst := step i o ho (fun i => listed.getD i false) v w1 (wpAny P .any ops Q fuel (listed.setIfInBounds i true)) hI (by simpa [hsz, hlt] using h1) h2 (fun x w2 hI2 a2 ha2 => by
          have hso : slotOf ops i = o.dst := by unfold slotOf; rw [ho]; rfl
          rw [ha2, ← hso, fill_upd hne2 x ops.size hlt (Nat.le_refl _)]
          refine ih (listed.setIfInBounds i true) (upd v i x) w2 (by simpa using hsz) ?_ ?_
          · have he : (fun j => (listed.setIfInBounds i true).getD j false) = fun j => listed.getD j false || decide (j = i) := by
              funext j
              by_cases e : j = i
              · subst e; simp [Array.getD_eq_getD_getElem?, hsz, hlt]
              · have e2 : ¬ i = j := fun h => e h.symm
                simp [Array.getD_eq_getD_getElem?, e, e2]
            rw [he]; exact hI2
          · have hlt3 := filter_less (p := fun i => !listed.getD i true) (q := fun j => !(listed.setIfInBounds i true).getD j true) (y := i) (fun j hjq => by
              by_cases e : i = j
              · subst e; simpa using h1
              · simpa [Array.getD_eq_getD_getElem?, Array.getElem?_setIfInBounds, e] using hjq) (by simpa using h1) (by simp [Array.getD_eq_getD_getElem?, hsz, hlt]) (List.range ops.size) (List.mem_range.2 hlt)
            omega)
        unfold wpOp
        rw [ho]
        show if Region.wanted o (yielded ops (fill ops a v ops.size).tmps) = true then _ else _
        split at hst
        · rename_i hw; rw [if_pos hw]; exact .inl hst
        · rename_i hw; rw [if_neg hw]; exact hst
  have hk := key ops.size (Array.replicate ops.size false) (fun i => match slotOf ops i with | some d => a.tmps.getD d undef | none => undef) w.drew (by simp) (by
    have he : (fun i => (Array.replicate ops.size false).getD i false) = fun _ => false := by
      funext i
      by_cases hlt : i < ops.size <;> simp [Array.getD_eq_getD_getElem?, hlt]
    rw [he]; exact h0 _) (Nat.le_trans (List.length_filter_le _ _) (by simp))
  rw [fill_self] at hk
  exact hk
end Go.Proofs.YtbdgcfimbblncaaGreatDoor
end PkMC1_10
section PkMC1_11
/- A region whose operations come up in any order, as wp_region_inv, and told of the values at its start (XHpOrd, for seats with XAnyOrd). -/
namespace Go.Proofs.YtbdgcfimbblncaaGreatDoor
open Go.RowKit
set_option linter.unusedVariables false

/-- the values at the start -/
def was (ops : Array Oper) (a : Act) (i : Nat) : Value := match slotOf ops i with | some d => a.tmps.getD d undef | none => undef
theorem fill_was {ops : Array Oper} {a : Act} : ∀ k, fill ops a (was ops a) k = a
  | 0 => rfl
  | k + 1 => by
    rw [fill, fill_was k]
    unfold was
    cases h : slotOf ops k with
    | none => rfl
    | some d => exact put_self a d
theorem wp_region_inv0 {P : Program} {ops : Array Oper} {Q : Exit → Act → World → Prop} {id : Nat} {a : Act} {w : World} (hm : P.follows .mixedOrders = true)
    (hne : ((List.range ops.size).all fun i => (List.range ops.size).all fun j => decide (i = j) || (slotOf ops i == none) || !(slotOf ops i == slotOf ops j)) = true)
    (hac : ((List.range ops.size).all fun i => (ops[i]?).all fun (o : Oper) => o.after.all fun (e : Edge) => !Region.binds .any e || decide (e.on < i)) = true)
    (I : (Nat → Bool) → (Nat → Value) → World → Prop) (h0 : I (fun _ => false) (was ops a) w.drew)
    (step : ∀ (i : Nat) (o : Oper), ops[i]? = some o → ∀ (L : Nat → Bool) (v : Nat → Value) (w1 : World) (K : Act → World → Prop), I L v w1 → L i = false → (∀ e : Edge, e ∈ o.after → Region.binds .any e = true → L e.on = true) →
      (∀ x w2, I (fun j => L j || decide (j = i)) (upd v i x) w2 → ∀ a2, a2 = (fill ops a v ops.size).put o.dst x → K a2 w2) →
      if Region.wanted o (yielded ops (fill ops a v ops.size).tmps) = true then Oper.wp P o (fill ops a v ops.size) w1 K Q else K ((fill ops a v ops.size).put o.dst undef) w1)
    (last : ∀ (L : Nat → Bool) (v : Nat → Value) (w1 : World), I L v w1 → (∀ i, i < ops.size → L i = true) → Q .normal (fill ops a v ops.size) w1) : (Code.region id ops true).wp P Q a w := by
  have hne2 : ∀ i j d, i < ops.size → j < ops.size → slotOf ops i = some d → slotOf ops j = some d → i = j := by
    intro i j d hi hj h1 h2
    have := List.all_eq_true.1 (List.all_eq_true.1 hne i (List.mem_range.2 hi)) j (List.mem_range.2 hj)
    rw [h1, h2] at this
    simpa using this
  have hac2 : ∀ (i : Nat) (o : Oper), ops[i]? = some o → ∀ e : Edge, e ∈ o.after → Region.binds .any e = true → e.on < i := by
    intro i o ho e he hb
    have hlt := (Array.getElem?_eq_some_iff.1 ho).1
    have := List.all_eq_true.1 hac i (List.mem_range.2 hlt)
    rw [ho] at this
    have h3 : (o.after.all fun (e : Edge) => !Region.binds .any e || decide (e.on < i)) = true := this
    have h2 := Array.all_eq_true_iff_forall_mem.1 h3 e he
    rw [hb] at h2
    simpa using h2
  refine wp_region_any hm ?_
  have key : ∀ (fuel : Nat) (listed : Array Bool) (v : Nat → Value) (w1 : World), listed.size = ops.size → I (fun i => listed.getD i false) v w1 →
      ((List.range ops.size).filter fun i => !listed.getD i true).length ≤ fuel → wpAny P .any ops Q fuel listed (fill ops a v ops.size) w1 := by
    intro fuel
    induction fuel with
    | zero =>
      intro listed v w1 hsz hI hc
      have hall : ∀ i, i < ops.size → listed.getD i true = true := by
        intro i hi
        cases hl : listed.getD i true with
        | true => rfl
        | false =>
          have : i ∈ (List.range ops.size).filter fun i => !listed.getD i true := List.mem_filter.2 ⟨List.mem_range.2 hi, by rw [hl]; rfl⟩
          rw [List.eq_nil_of_length_eq_zero (by omega : ((List.range ops.size).filter fun i => !listed.getD i true).length = 0)] at this
          cases this
      have hr : Region.ready .any ops listed = [] := by
        rw [List.eq_nil_iff_forall_not_mem]
        intro i hi
        obtain ⟨h1, o, ho, _⟩ := mem_ready.1 hi
        rw [hall i (Array.getElem?_eq_some_iff.1 ho).1] at h1
        cases h1
      refine ⟨hr, last _ v w1 hI fun i hi => ?_⟩
      have := hall i hi
      simpa [hsz, hi] using this
    | succ fuel ih =>
      intro listed v w1 hsz hI hc
      refine ⟨fun hr => last _ v w1 hI fun i hi => ?_, fun i hi => ?_⟩
      · have : ∀ k, k < ops.size → listed.getD k false = true := by
          intro k
          induction k using Nat.strongRecOn with
          | _ k ihk =>
            intro hk
            cases hl : listed.getD k false with
            | true => rfl
            | false =>
              exfalso
              have hmem : k ∈ Region.ready .any ops listed := mem_ready.2 ⟨by simpa [hsz, hk] using hl, ops[k], by simp [hk], fun e he hb => ihk e.on (hac2 k _ (by simp [hk]) e he hb) (by have := hac2 k _ (by simp [hk] : ops[k]? = some ops[k]) e he hb; omega)⟩
              rw [hr] at hmem
              cases hmem
        exact this i hi
      · obtain ⟨h1, o, ho, h2⟩ := mem_ready.1 hi
        have hlt : i < ops.size := (Array.getElem?_eq_some_iff.1 ho).1
        have hst := step i o ho (fun i => listed.getD i false) v w1 (wpAny P .any ops Q fuel (listed.setIfInBounds i true)) hI (by simpa [hsz, hlt] using h1) h2 (fun x w2 hI2 a2 ha2 => by
          have hso : slotOf ops i = o.dst := by unfold slotOf; rw [ho]; rfl
          rw [ha2, ← hso, fill_upd hne2 x ops.size hlt (Nat.le_refl _)]
          refine ih (listed.setIfInBounds i true) (upd v i x) w2 (by simpa using hsz) ?_ ?_
          · have he : (fun j => (listed.setIfInBounds i true).getD j false) = fun j => listed.getD j false || decide (j = i) := by
              funext j
              by_cases e : j = i
              · subst e; simp [Array.getD_eq_getD_getElem?, hsz, hlt]
              · have e2 : ¬ i = j := fun h => e h.symm
                simp [Array.getD_eq_getD_getElem?, e, e2]
            rw [he]; exact hI2
          · have hlt3 := filter_less (p := fun i => !listed.getD i true) (q := fun j => !(listed.setIfInBounds i true).getD j true) (y := i) (fun j hjq => by
              by_cases e : i = j
              · subst e; simpa using h1
              · simpa [Array.getD_eq_getD_getElem?, Array.getElem?_setIfInBounds, e] using hjq) (by simpa using h1) (by simp [Array.getD_eq_getD_getElem?, hsz, hlt]) (List.range ops.size) (List.mem_range.2 hlt)
            omega)
        unfold wpOp
        rw [ho]
        show if Region.wanted o (yielded ops (fill ops a v ops.size).tmps) = true then _ else _
        split at hst
        · rename_i hw; rw [if_pos hw]; exact .inl hst
        · rename_i hw; rw [if_neg hw]; exact hst
  have hk := key ops.size (Array.replicate ops.size false) (was ops a) w.drew (by simp) (by
    have he : (fun i => (Array.replicate ops.size false).getD i false) = fun _ => false := by
      funext i
      by_cases hlt : i < ops.size <;> simp [Array.getD_eq_getD_getElem?, hlt]
    rw [he]; exact h0) (Nat.le_trans (List.length_filter_le _ _) (by simp))
  rw [fill_was] at hk
  exact hk
end Go.Proofs.YtbdgcfimbblncaaGreatDoor
end PkMC1_11
section PkMC1_12
/- A region that draws its order and makes bytes in two steps, one behind the other, reading meanwhile, with numbers written out for one of them: walked operation by operation. -/
namespace Go.Proofs.YtbdgcfimbblncaaGreatDoor
open Go.RowKit
set_option linter.unusedVariables false

/-- what has come up: values that are told; the numbers written out; the bytes as they were, behind the first step, behind the second; what was assigned last -/
structure G2 (base : Nat) (w0 : World) (vals : Nat → Option Value) (il k : Nat) (cs : Array Value) (c0 c1 c2 c3 : Nat) (vi v : Value) (n0 n1 n2 : Nat) (x0 x1 x2 : List Nat) (L : Nat → Bool) (V : Nat → Value) (w : World) : Prop where
  val : ∀ i u, L i = true → vals i = some u → V i = u
  lit : L il = true → ∃ g, V il = .slice (some ⟨g, 0, none⟩) k k ∧ w.heap[g]? = some (.cells cs 3 (0, 0))
  gb : Gb base w0 w
  o0 : L c1 = false → w.ownsRow base 5 1 v n0 (bv x0)
  o1 : L c1 = true → L c2 = false → w.ownsRow base 5 1 (V c1) n1 (bv x1)
  o2 : L c2 = true → w.ownsRow base 5 1 (V c2) n2 (bv x2)
  od : L c2 = true → L c1 = true
  ag : L c3 = true → L c2 = true ∧ V c3 = V c2
  mv : L c1 = true → L c0 = true
  ini : L c3 = false → V c3 = vi
theorem G2.old {base : Nat} {w0 w : World} {vals : Nat → Option Value} {il k : Nat} {cs : Array Value} {c0 c1 c2 c3 : Nat} {vi v : Value} {n0 n1 n2 : Nat} {x0 x1 x2 : List Nat} {L : Nat → Bool} {V : Nat → Value} (h : G2 base w0 vals il k cs c0 c1 c2 c3 vi v n0 n1 n2 x0 x1 x2 L V w) (hL : L c0 = false) : V c3 = vi := by
  refine h.ini ?_
  cases e : L c3 with
  | false => rfl
  | true => have := h.mv (h.od (h.ag e).1); rw [hL] at this; cases this
section
variable {base : Nat} {w0 w w2 : World} {vals : Nat → Option Value} {il k : Nat} {cs : Array Value} {c0 c1 c2 c3 : Nat} {vi v : Value} {n0 n1 n2 : Nat} {x0 x1 x2 : List Nat} {L : Nat → Bool} {V : Nat → Value}
theorem upd_ne {V : Nat → Value} {j i : Nat} (u : Value) (h : ¬ i = j) : upd V j u i = V i := by unfold upd; rw [if_neg h]
theorem upd_eq {V : Nat → Value} {j : Nat} (u : Value) : upd V j u j = u := by unfold upd; rw [if_pos rfl]
theorem G2.start (ho : w0.ownsRow base 5 1 v n0 (bv x0)) (hb : base ≤ w0.heap.size) {V : Nat → Value} (hV : V c3 = vi) : G2 base w0 vals il k cs c0 c1 c2 c3 vi v n0 n1 n2 x0 x1 x2 (fun _ => false) V w0.drew :=
  ⟨fun _ _ h => Bool.noConfusion h, fun h => Bool.noConfusion h, Gb.of ((Below.refl _ _).drew) hb, fun _ => own_below ho ((Below.refl _ _).drew), fun h => Bool.noConfusion h, fun h => Bool.noConfusion h, fun h => Bool.noConfusion h, fun h => Bool.noConfusion h, fun h => Bool.noConfusion h, fun _ => hV⟩
theorem G2.size (h : G2 base w0 vals il k cs c0 c1 c2 c3 vi v n0 n1 n2 x0 x1 x2 L V w) : w0.heap.size ≤ w.heap.size := h.gb.size
theorem G2.vals' (h : G2 base w0 vals il k cs c0 c1 c2 c3 vi v n0 n1 n2 x0 x1 x2 L V w) {j : Nat} {u : Value} (hv : ∀ y, vals j = some y → u = y) : ∀ i y, (L i || decide (i = j)) = true → vals i = some y → upd V j u i = y := by
  intro i y hi he
  by_cases e : i = j
  · subst e; rw [upd_eq]; exact hv y he
  · rw [upd_ne u e]
    rw [decide_eq_false e, Bool.or_false] at hi
    exact h.val i y hi he
/-- an operation that only reads -/
theorem G2.put (h : G2 base w0 vals il k cs c0 c1 c2 c3 vi v n0 n1 n2 x0 x1 x2 L V w) (j : Nat) (u : Value) (ha : (decide (il = j) || (decide (c1 = j) || (decide (c2 = j) || decide (c3 = j)))) = false) (hv : ∀ y, vals j = some y → u = y) : G2 base w0 vals il k cs c0 c1 c2 c3 vi v n0 n1 n2 x0 x1 x2 (fun i => L i || decide (i = j)) (upd V j u) w := by
  simp only [Bool.or_eq_false_iff, decide_eq_false_iff_not] at ha
  refine ⟨h.vals' hv, ?_, h.gb, ?_, ?_, ?_, ?_, ?_, ?_, ?_⟩ <;> simp only [decide_eq_false ha.1, decide_eq_false ha.2.1, decide_eq_false ha.2.2.1, decide_eq_false ha.2.2.2, Bool.or_false, upd_ne u ha.1, upd_ne u ha.2.1, upd_ne u ha.2.2.1, upd_ne u ha.2.2.2]
  · exact h.lit
  · exact h.o0
  · exact h.o1
  · exact h.o2
  · exact h.od
  · exact h.ag
  · intro e; rw [h.mv e]; rfl
  · exact h.ini
/-- the numbers are written out -/
theorem G2.putl (h : G2 base w0 vals il k cs c0 c1 c2 c3 vi v n0 n1 n2 x0 x1 x2 L V w) (hb : base ≤ w.heap.size) (ha : (decide (c1 = il) || (decide (c2 = il) || decide (c3 = il))) = false) (hv : vals il = none) : G2 base w0 vals il k cs c0 c1 c2 c3 vi v n0 n1 n2 x0 x1 x2 (fun i => L i || decide (i = il)) (upd V il (.slice (some ⟨w.heap.size, 0, none⟩) k k)) (w.alloc (.cells cs 3)) := by
  simp only [Bool.or_eq_false_iff, decide_eq_false_iff_not] at ha
  refine ⟨h.vals' (fun y e => by rw [hv] at e; cases e), fun _ => ⟨_, upd_eq _, heap_alloc_new _ _⟩, h.gb.trans (Gb.alloc w _ hb), ?_, ?_, ?_, ?_, ?_, ?_, ?_⟩ <;> simp only [decide_eq_false ha.1, decide_eq_false ha.2.1, decide_eq_false ha.2.2, Bool.or_false, upd_ne _ ha.1, upd_ne _ ha.2.1, upd_ne _ ha.2.2]
  · exact fun e => (h.o0 e).alloc _
  · exact fun e e2 => (h.o1 e e2).alloc _
  · exact fun e => (h.o2 e).alloc _
  · exact h.od
  · exact h.ag
  · intro e; rw [h.mv e]; rfl
  · exact h.ini
/-- the first step -/
theorem G2.put1 (h : G2 base w0 vals il k cs c0 c1 c2 c3 vi v n0 n1 n2 x0 x1 x2 L V w) (hL0 : L c0 = true) (hL : L c1 = false) (u : Value) (ha : (decide (il = c1) || (decide (c2 = c1) || decide (c3 = c1))) = false) (hv : vals c1 = none) (ho : w2.ownsRow base 5 1 u n1 (bv x1)) (hg : Gb base w w2) : G2 base w0 vals il k cs c0 c1 c2 c3 vi v n0 n1 n2 x0 x1 x2 (fun i => L i || decide (i = c1)) (upd V c1 u) w2 := by
  simp only [Bool.or_eq_false_iff, decide_eq_false_iff_not] at ha
  have h2 : L c2 = false := by
    cases e : L c2 with
    | false => rfl
    | true => rw [h.od e] at hL; cases hL
  refine ⟨h.vals' (fun y e => by rw [hv] at e; cases e), ?_, h.gb.trans hg, ?_, ?_, ?_, ?_, ?_, ?_, ?_⟩ <;> simp only [decide_eq_false ha.1, decide_eq_false ha.2.1, decide_eq_false ha.2.2, Bool.or_false, upd_ne _ ha.1, upd_ne _ ha.2.1, upd_ne _ ha.2.2, upd_eq]
  · exact fun e => by obtain ⟨g, e1, e2⟩ := h.lit e; exact ⟨g, e1, hg.other _ _ _ e2 (by decide)⟩
  · intro e; simp at e
  · exact fun _ _ => ho
  · rw [h2]; intro e; cases e
  · intro _; simp
  · intro e; have := (h.ag e).1; rw [h2] at this; cases this
  · intro _; rw [hL0]; rfl
  · exact h.ini
/-- the second step -/
theorem G2.put2 (h : G2 base w0 vals il k cs c0 c1 c2 c3 vi v n0 n1 n2 x0 x1 x2 L V w) (hL1 : L c1 = true) (hL : L c2 = false) (u : Value) (ha : (decide (il = c2) || (decide (c1 = c2) || decide (c3 = c2))) = false) (hv : vals c2 = none) (ho : w2.ownsRow base 5 1 u n2 (bv x2)) (hg : Gb base w w2) : G2 base w0 vals il k cs c0 c1 c2 c3 vi v n0 n1 n2 x0 x1 x2 (fun i => L i || decide (i = c2)) (upd V c2 u) w2 := by
  simp only [Bool.or_eq_false_iff, decide_eq_false_iff_not] at ha
  refine ⟨h.vals' (fun y e => by rw [hv] at e; cases e), ?_, h.gb.trans hg, ?_, ?_, ?_, ?_, ?_, ?_, ?_⟩ <;> simp only [decide_eq_false ha.1, decide_eq_false ha.2.1, decide_eq_false ha.2.2, Bool.or_false, upd_ne _ ha.1, upd_ne _ ha.2.1, upd_ne _ ha.2.2, upd_eq]
  · exact fun e => by obtain ⟨g, e1, e2⟩ := h.lit e; exact ⟨g, e1, hg.other _ _ _ e2 (by decide)⟩
  · rw [hL1]; intro e; cases e
  · intro _ e; simp at e
  · exact fun _ => ho
  · intro _; exact hL1
  · intro e; have := (h.ag e).1; rw [hL] at this; cases this
  · intro e; rw [h.mv e]; rfl
  · exact h.ini
/-- what the second step gave is assigned -/
theorem G2.put3 (h : G2 base w0 vals il k cs c0 c1 c2 c3 vi v n0 n1 n2 x0 x1 x2 L V w) (hL : L c2 = true) (ha : (decide (il = c3) || (decide (c1 = c3) || decide (c2 = c3))) = false) (hv : vals c3 = none) : G2 base w0 vals il k cs c0 c1 c2 c3 vi v n0 n1 n2 x0 x1 x2 (fun i => L i || decide (i = c3)) (upd V c3 (V c2)) w := by
  simp only [Bool.or_eq_false_iff, decide_eq_false_iff_not] at ha
  refine ⟨h.vals' (fun y e => by rw [hv] at e; cases e), ?_, h.gb, ?_, ?_, ?_, ?_, ?_, ?_, ?_⟩ <;> simp only [decide_eq_false ha.1, decide_eq_false ha.2.1, decide_eq_false ha.2.2, Bool.or_false, upd_ne _ ha.1, upd_ne _ ha.2.1, upd_ne _ ha.2.2, upd_eq]
  · exact h.lit
  · exact h.o0
  · exact h.o1
  · exact h.o2
  · exact h.od
  · exact fun _ => ⟨hL, trivial⟩
  · intro e; rw [h.mv e]; rfl
  · intro e; simp at e
end

/-- append of a text's bytes, in a region that draws its order -/
theorem step_append_str {o : Oper} {bb : Bool} {a : Act} {w : World} {K : Act → World → Prop} {Q : Exit → Act → World → Prop} {E : Prop}
    (hgd : bb = true) (s x : Operand) (ho : o.op = .call { callee := .builtin .append, args := #[s, x], argTypes := #[30, 9] })
    (base : Nat) (v : Value) (n : Nat) (xs : List Nat) (hs : a.eval s = v) (hown : w.ownsRow base 5 1 v n (bv xs)) (t : ByteArray) (hx : a.eval x = .string t)
    (h63 : n + t.size ≤ 100000000) (hbase : base ≤ w.heap.size)
    (h : ∀ v' w', w'.ownsRow base 5 1 v' (n + t.size) (bv (xs ++ byl t)) → Gb base w w' → K (a.put o.dst v') w') :
    if bb = true then Oper.wp Tryz.prog o a w K Q else E := by
  obtain ⟨i0, hi, hz0, hz1, hz2⟩ := info_parts info_u8
  rw [if_pos hgd]
  obtain ⟨v', w', hr, h2, h3, h4⟩ := Lib.run_append_own_string (P := Tryz.prog) w base 30 9 o.type 5 i0 Tryz.underlying30 Tryz.underlying9 hi hz0 hz1 hz2 v n _ hown t (by unfold maxLen; omega) (by omega) hbase
  unfold Oper.wp execOp
  simp only [ho, resolve, invoke, builtin, Sem.run_bind, Sem.run_pure, Result.andThen_ok, List.map_toArray, List.map_cons, List.map_nil, hs, hx, hr]
  exact h v' w' (by rw [bv_append, ← byl_cells]; exact h2) (Gb.grow hown hbase h3)
end Go.Proofs.YtbdgcfimbblncaaGreatDoor
end PkMC1_12
section PkMC1_13
/- Slices of things of any struct, as walks are told of them: wherever they lie; what a call owns; as a law's argument. -/
namespace Go.Proofs.YtbdgcfimbblncaaGreatDoor
open Go.ChangeShapes Go.WideShapes Go.Deep Go.RowKit
set_option linter.unusedVariables false

theorem vflat_len {α : Type} (f : α → List Value) (K : Nat) (hK : ∀ x, (f x).length = K) : ∀ l : List α, (l.flatMap f).length = l.length * K
  | [] => by simp
  | x :: r => by rw [List.flatMap_cons, List.length_append, hK, vflat_len f K hK r, List.length_cons, Nat.succ_mul]; omega
theorem vflat_at {α : Type} (f : α → List Value) (K : Nat) (hK : ∀ x, (f x).length = K) (d : α) : ∀ (l : List α) (i j : Nat), i < l.length → j < K → (l.flatMap f)[i * K + j]? = (f (l.getD i d))[j]?
  | x :: r, 0, j, _, hj => by
    rw [List.flatMap_cons, Nat.zero_mul, Nat.zero_add, List.getElem?_append_left (by rw [hK]; exact hj)]; rfl
  | x :: r, i + 1, j, hi, hj => by
    rw [List.flatMap_cons, List.getElem?_append_right (by rw [hK, Nat.succ_mul]; omega), hK, show (i + 1) * K + j - K = i * K + j from by rw [Nat.succ_mul]; omega, vflat_at f K hK d r i j (by simpa using hi) hj]
    rfl
/-- things of K cells, and what else holds of them in a world -/
structure Sty (α : Type) where
  f : α → List Value
  K : Nat
  z : α
  ok : World → α → Prop
  pos : 0 < K
  wid : ∀ x, (f x).length = K
  one : ∀ x, ∀ u ∈ f x, u.oneCell' = true
  mono : ∀ {w w' : World} {x : α}, Below w.heap.size w w' → ok w x → ok w' x
def Sty.flat {α : Type} (S : Sty α) (l : List α) : List Value := l.flatMap S.f
structure VecAt {α : Type} (S : Sty α) (w : World) (a : Option Addr) (n c : Nat) (l : List α) : Prop where
  len : l.length = n
  cap : n ≤ c
  capm : c ≤ 9223372036854775807
  nl : a = none → c = 0
  all : ∀ x ∈ l, S.ok w x
  cells : 0 < n → ∃ b off, a = some ⟨b, off, none⟩ ∧ b < w.heap.size ∧ ∀ i, i < n → ∀ j u, (S.f (l.getD i S.z))[j]? = some u → w.cell? ⟨b, off + i * S.K + j, none⟩ = some u
section
variable {α : Type} {S : Sty α} {w w' : World} {a : Option Addr} {n c : Nat} {l : List α}
theorem VecAt.kept (h : VecAt S w a n c l) (hb : Below w.heap.size w w') : VecAt S w' a n c l :=
  ⟨h.len, h.cap, h.capm, h.nl, fun x hx => S.mono hb (h.all x hx), fun hn => by
    obtain ⟨b, off, ha, hlt, hc⟩ := h.cells hn
    exact ⟨b, off, ha, Nat.lt_of_lt_of_le hlt hb.size, fun i hi j u hu => (hb.cell (p := ⟨b, off + i * S.K + j, none⟩) hlt).trans (hc i hi j u hu)⟩⟩
theorem VecAt.empty (w : World) (a : Option Addr) (c : Nat) (hc : c ≤ 9223372036854775807) (ha : a = none → c = 0) : VecAt S w a 0 c [] :=
  ⟨rfl, Nat.zero_le _, hc, ha, (fun x hx => by cases hx), fun h => absurd h (Nat.lt_irrefl 0)⟩
theorem vec_mem {i : Nat} (h : i < l.length) : l.getD i S.z ∈ l := by
  have : l.getD i S.z = l[i] := by simp [h]
  rw [this]; exact List.getElem_mem h
theorem VecAt.get (h : VecAt S w a n c l) {i : Nat} (hi : i < n) : ∃ b off, a = some ⟨b, off, none⟩ ∧ b < w.heap.size ∧ S.ok w (l.getD i S.z) ∧ ∀ j u, (S.f (l.getD i S.z))[j]? = some u → w.cell? ⟨b, off + i * S.K + j, none⟩ = some u := by
  obtain ⟨b, off, ha, hlt, hc⟩ := h.cells (by omega)
  exact ⟨b, off, ha, hlt, h.all _ (vec_mem (by rw [h.len]; exact hi)), hc i hi⟩
theorem VecAt.ofOwn {base : Nat} {e : TypeId} (h : w.ownsRow base e S.K (.slice a n c) n (S.flat l)) (hl : l.length = n) (hok : ∀ x ∈ l, S.ok w x) : VecAt S w a n c l := by
  rcases h.2 with ⟨he, h0⟩ | ⟨g, cap, cur, he, hg, hh, hnc, hcap, hsz, htake⟩
  · cases he
    obtain rfl : l = [] := List.eq_nil_of_length_eq_zero hl
    exact VecAt.empty w none 0 (by omega) (fun _ => rfl)
  · cases he
    refine ⟨hl, hnc, by unfold maxLen at hcap; exact hcap, (fun e => by cases e), hok, fun hp => ⟨g, 0, rfl, (Array.getElem?_eq_some_iff.1 hh).1, fun i hi j u hu => ?_⟩⟩
    have hj : j < S.K := by rw [← S.wid (l.getD i S.z)]; exact (List.getElem?_eq_some_iff.1 hu).1
    have h2 : (S.flat l)[i * S.K + j]? = some u := by
      unfold Sty.flat
      rw [vflat_at S.f S.K S.wid S.z l i j (by omega) hj, hu]
    have hlt : i * S.K + j < n * S.K := by
      have := Nat.mul_le_mul_right S.K (show i + 1 ≤ n by omega)
      rw [Nat.succ_mul] at this; omega
    rw [Nat.zero_add, cell_of_row w _ _ _ _ (0, 0) hh, ← h2, ← htake, List.getElem?_take_of_lt hlt, Array.getElem?_toList]
theorem Sty.flat_len (S : Sty α) (l : List α) : (S.flat l).length = l.length * S.K := Go.Proofs.YtbdgcfimbblncaaGreatDoor.vflat_len S.f S.K S.wid l
theorem Sty.flat_snoc (S : Sty α) (l : List α) (x : α) : S.flat (l ++ [x]) = S.flat l ++ S.f x := by unfold Sty.flat; simp
theorem Sty.flat_one (S : Sty α) (l : List α) : ∀ u ∈ S.flat l, u.oneCell' = true := by
  intro u hu
  obtain ⟨x, _, hx⟩ := List.mem_flatMap.1 hu
  exact S.one x u hx
theorem VecAt.src {ad : Addr} (h : VecAt S w (some ad) n c l) : ∀ j u, (S.flat l)[j]? = some u → w.cell? (ad.add j) = some u := by
  intro j u hu
  have hj : j < n * S.K := by rw [← h.len, ← S.flat_len]; exact (List.getElem?_eq_some_iff.1 hu).1
  have hn : 0 < n := by
    rcases Nat.eq_zero_or_pos n with e | e
    · rw [e, Nat.zero_mul] at hj; omega
    · exact e
  obtain ⟨b, off, he, hlt, hc⟩ := h.cells hn
  cases he
  have hdiv : j / S.K < n := (Nat.div_lt_iff_lt_mul S.pos).2 hj
  have hmod : j % S.K < S.K := Nat.mod_lt _ S.pos
  have e1 : j / S.K * S.K + j % S.K = j := by rw [Nat.mul_comm]; exact Nat.div_add_mod j S.K
  have h2 := vflat_at S.f S.K S.wid S.z l (j / S.K) (j % S.K) (by rw [h.len]; exact hdiv) hmod
  rw [e1] at h2
  have h3 := hc (j / S.K) hdiv (j % S.K) u (by rw [← h2]; exact hu)
  have h4 : (⟨b, off, none⟩ : Addr).add j = ⟨b, off + j, none⟩ := by unfold Addr.add; split <;> simp_all
  rw [h4, ← h3, Nat.add_assoc, e1]
end
/-- one thing, newly laid -/
theorem Sty.src {α : Type} (S : Sty α) (w : World) (x : α) (t : TypeId) {cs : Array Value} (hcs : cs = (S.f x).toArray) : ∀ j u, (S.f x)[j]? = some u → (w.alloc (.cells cs t)).cell? ((⟨w.heap.size, 0, none⟩ : Addr).add j) = some u := by
  intro j u hj
  have hblk := heap_alloc_new w (.cells cs t)
  have hadd : (⟨w.heap.size, 0, none⟩ : Addr).add j = ⟨w.heap.size, 0 + j, none⟩ := by unfold Addr.add; split <;> simp_all
  rw [hadd, Nat.zero_add, cell_of_row _ _ _ _ _ (0, 0) hblk, hcs, List.getElem?_toArray]
  exact hj
theorem vec_wadd {H : Type} {P : Program} {e : TypeId} {d : DataW H} {n : Nat} : ∀ {l : List (DataW H)}, d ∈ l → n ∈ DataW.weights P e d → n ∈ DataW.weightsAll P e l
  | [], h, _ => by cases h
  | x :: r, h, hn => by
    rw [DataW.weightsAll]
    rcases List.mem_cons.1 h with rfl | h
    · exact List.mem_append_left _ hn
    · exact List.mem_append_right _ (vec_wadd h hn)
/-- opened, as a law's argument -/
theorem open_vec {α : Type} (S : Sty α) {H : Type} {enc : TypeId × Value → H} {W : World} {fuel : Nat} {T e : TypeId} {a : Option Addr} {len cap : Nat} {x : DataW H × List MemPlace} (ht : Tryz.prog.underlying T = some (.slice e)) (hK : Tryz.prog.cellsOf e = S.K)
    (hfld : ∀ (fuel : Nat) (cs : List Value) (y : DataW H × List MemPlace), DataW.trod enc Tryz.prog W 0 (fun _ => true) true fuel e cs = some y → (∀ n, n ∈ DataW.weights Tryz.prog e y.1 → n ≤ reachBytes) → ∃ r : α, cs = S.f r ∧ S.ok W r)
    (hf : DataW.trod enc Tryz.prog W 0 (fun _ => true) true fuel T [.slice a len cap] = some x) (hw : ∀ n, n ∈ DataW.weights Tryz.prog T x.1 → n ≤ reachBytes) : ∃ l : List α, VecAt S W a len cap l := by
  rcases open_slice ht hf with ⟨hcs, _⟩ | ⟨x0, l, c, m, n, D, Pl, hcs, _, hl, hm, hmm, hx, hi⟩
  · simp at hcs
    obtain ⟨rfl, rfl, rfl⟩ := hcs
    exact ⟨[], VecAt.empty W none 0 (by omega) (fun _ => rfl)⟩
  · simp at hcs
    obtain ⟨rfl, rfl, rfl⟩ := hcs
    rw [hK] at hi
    have hm2 : m = cap := by rw [hmm]; simp
    have hone : ∀ i : Nat, ∃ r : α, i < len → (∀ j u, (S.f r)[j]? = some u → W.cell? (x0.add (i * S.K + j)) = some u) ∧ S.ok W r := by
      intro i
      by_cases hil : i < len
      · obtain ⟨cs, hcc, ht2⟩ := hi i (by omega)
        obtain ⟨r, rfl, hok⟩ := hfld _ _ _ ht2 (fun n hn => hw n (by
          rw [hx]
          simp only [DataW.weights, ht]
          exact List.mem_cons_of_mem _ (List.mem_append_left _ (vec_wadd (List.mem_map.2 ⟨i, List.mem_range.2 hil, rfl⟩) hn))))
        obtain ⟨_, hl9, hat⟩ := World.cells?_some hcc
        refine ⟨r, fun _ => ⟨fun j u hu => ?_, hok⟩⟩
        have := hat j (by rw [← hl9]; exact (List.getElem?_eq_some_iff.1 hu).1)
        rw [add_add, hu] at this
        exact this
      · exact ⟨S.z, fun h => absurd h hil⟩
    obtain ⟨f, hF⟩ := Classical.skolem.1 hone
    have hget : ∀ i, i < len → ((List.range len).map f).getD i S.z = f i := fun i h => by simp [h]
    refine ⟨(List.range len).map f, by simp, hl, by unfold maxLen at hm; exact hm, (fun e => by cases e), ?_, fun hp => ?_⟩
    · intro y hy
      obtain ⟨i, hi', rfl⟩ := List.mem_map.1 hy
      exact (hF i (List.mem_range.1 hi')).2
    · obtain ⟨b, off, spot⟩ := x0
      have h00 : 0 < (S.f (f 0)).length := by rw [S.wid]; exact S.pos
      have hc := (hF 0 hp).1 0 _ (List.getElem?_eq_getElem h00)
      have hspot : spot = none := by simpa [Addr.add] using World.cell?_spot hc
      subst hspot
      refine ⟨b, off, rfl, ?_, fun i hi' j u hu => ?_⟩
      · have := World.block_lt_of_cell? W _ hc
        simpa [Addr.add] using this
      · rw [hget i hi'] at hu
        have h0 := (hF i hi').1 j u hu
        have h4 : (⟨b, off, none⟩ : Addr).add (i * S.K + j) = ⟨b, off + (i * S.K + j), none⟩ := by unfold Addr.add; split <;> simp_all
        rw [h4, ← Nat.add_assoc] at h0
        exact h0
/-- integers, as things of one cell -/
def IntS : Sty Int := ⟨fun z => [.int .i64 z], 1, 0, fun _ z => (Lit.int .i64 z).wf = true, by decide, fun _ => rfl, (fun x u hu => by rw [List.mem_singleton.1 hu]; rfl), fun _ h => h⟩
end Go.Proofs.YtbdgcfimbblncaaGreatDoor
end PkMC1_13
section PkMC1_14
/- Labels, plainly: names, sets, what is asked of them. No Go in sight. -/
namespace Go.Proofs.YtbdgcfimbblncaaGreatDoor.LabPlain
open Go
set_option linter.unusedVariables false

/-- a text's byte -/
def at_ (s : ByteArray) (i : Nat) : Nat := (s.data.toList.getD i 0).toNat
theorem at_get (s : ByteArray) (i : Nat) (h : i < s.size) : at_ s i = (s[i]'h).toNat := by
  unfold at_
  have h2 : i < s.data.toList.length := by simpa using h
  rw [List.getD_eq_getElem?_getD, List.getElem?_eq_getElem h2]
  rfl
theorem at_lt (s : ByteArray) (i : Nat) : at_ s i < 256 := UInt8.toNat_lt _
/-- is it a small letter; may it stand in a name? -/
def isL (c : Nat) : Bool := decide (97 ≤ c) && decide (c ≤ 122)
def okC (c : Nat) : Bool := isL c || decide (c = 95) || (decide (48 ≤ c) && decide (c ≤ 57))
/-- are the first k bytes such? -/
def allC (s : ByteArray) : Nat → Bool
  | 0 => true
  | k + 1 => allC s k && okC (at_ s k)
theorem allC_no {s : ByteArray} {k : Nat} (h : okC (at_ s k) = false) : ∀ d, allC s (k + 1 + d) = false
  | 0 => by simp [allC, h]
  | d + 1 => by rw [← Nat.add_assoc, allC, allC_no h d]; rfl
/-- a name -/
def isNm (s : ByteArray) : Bool := decide (1 ≤ s.size) && decide (s.size ≤ 8) && isL (at_ s 0) && allC s s.size

/-- one text ahead of another one -/
def ltB (a b : ByteArray) : Bool := Op.bytesLess a.toList b.toList
theorem bl_irrefl : ∀ a : List UInt8, Op.bytesLess a a = false
  | [] => rfl
  | a :: x => by simp [Op.bytesLess, bl_irrefl x]
theorem bl_trans : ∀ a b c : List UInt8, Op.bytesLess a b = true → Op.bytesLess b c = true → Op.bytesLess a c = true
  | a, b, [], _, h2 => by cases b <;> simp [Op.bytesLess] at h2
  | a, [], c :: z, h1, _ => by cases a <;> simp [Op.bytesLess] at h1
  | [], b :: y, c :: z, _, _ => rfl
  | a :: x, b :: y, c :: z, h1, h2 => by
    simp only [Op.bytesLess, Bool.or_eq_true, decide_eq_true_eq, Bool.and_eq_true, beq_iff_eq] at h1 h2 ⊢
    rcases h1 with h1 | ⟨h1, h1'⟩
    · rcases h2 with h2 | ⟨h2, _⟩
      · exact .inl (UInt8.lt_trans h1 h2)
      · subst h2; exact .inl h1
    · subst h1
      rcases h2 with h2 | ⟨h2, h2'⟩
      · exact .inl h2
      · subst h2
        exact .inr ⟨rfl, bl_trans x y z h1' h2'⟩
theorem bl_total : ∀ a b : List UInt8, a ≠ b → Op.bytesLess a b = false → Op.bytesLess b a = true
  | [], [], h, _ => absurd rfl h
  | [], b :: y, _, h => by simp [Op.bytesLess] at h
  | a :: x, [], _, _ => rfl
  | a :: x, b :: y, hne, h => by
    simp only [Op.bytesLess, Bool.or_eq_false_iff, decide_eq_false_iff_not, Bool.and_eq_false_imp, beq_iff_eq] at h
    simp only [Op.bytesLess, Bool.or_eq_true, decide_eq_true_eq, Bool.and_eq_true, beq_iff_eq]
    by_cases e : a = b
    · subst e
      exact .inr ⟨rfl, bl_total x y (fun e => hne (by rw [e])) (h.2 rfl)⟩
    · refine .inl ?_
      have h1 := h.1
      rw [UInt8.not_lt] at h1
      rcases UInt8.lt_or_eq_of_le h1 with g | g
      · exact g
      · exact absurd g.symm e
theorem leq_not (a b : ByteArray) : (Op.bytesLess a.toList b.toList || a.toList == b.toList) = !ltB b a := by
  unfold ltB
  cases h : Op.bytesLess b.toList a.toList with
  | true =>
    rw [Bool.not_true, Bool.or_eq_false_iff]
    refine ⟨?_, ?_⟩
    · cases h2 : Op.bytesLess a.toList b.toList with
      | false => rfl
      | true => have := bl_trans _ _ _ h2 h; rw [bl_irrefl] at this; cases this
    · rw [beq_eq_false_iff_ne]; intro e; rw [e, bl_irrefl] at h; cases h
  | false =>
    rw [Bool.not_false]
    by_cases e : a.toList = b.toList
    · rw [e]; simp
    · rw [bl_total _ _ (fun e2 => e e2.symm) h]; rfl
theorem ltB_irrefl (a : ByteArray) : ltB a a = false := bl_irrefl _
theorem ltB_trans {a b c : ByteArray} (h1 : ltB a b = true) (h2 : ltB b c = true) : ltB a c = true := bl_trans _ _ _ h1 h2
theorem toList_inj {a b : ByteArray} (h : a.toList = b.toList) : a = b := by
  rw [ByteArray.toList_eq, ByteArray.toList_eq] at h
  cases a; cases b
  simpa using h
theorem eq_toList (a b : ByteArray) : (a.toList == b.toList) = decide (a = b) := by
  rw [Bool.eq_iff_iff, beq_iff_eq, decide_eq_true_eq]
  exact ⟨toList_inj, fun h => by rw [h]⟩

/-- a label: a name and a value -/
abbrev Lab := ByteArray × ByteArray
def lab0 : Lab := (ByteArray.empty, ByteArray.empty)
/-- are the first k right, each behind the one ahead of it? -/
def upTo (l : List Lab) : Nat → Bool
  | 0 => true
  | k + 1 => upTo l k && (isNm (l.getD k lab0).1 && decide ((l.getD k lab0).2.size ≤ 16) && (decide (k = 0) || ltB (l.getD (k - 1) lab0).1 (l.getD k lab0).1))
/-- a label set -/
def isSet (l : List Lab) : Bool := decide (l.length ≤ 4) && upTo l l.length
theorem upTo_no {l : List Lab} {k : Nat} (h : (isNm (l.getD k lab0).1 && decide ((l.getD k lab0).2.size ≤ 16) && (decide (k = 0) || ltB (l.getD (k - 1) lab0).1 (l.getD k lab0).1)) = false) : ∀ d, upTo l (k + 1 + d) = false
  | 0 => by rw [upTo, h, Bool.and_false]
  | d + 1 => by rw [← Nat.add_assoc, upTo, upTo_no h d]; rfl
theorem upTo_le {l : List Lab} {k : Nat} (h : upTo l k = true) {j : Nat} (hj : j < k) : isNm (l.getD j lab0).1 = true ∧ (l.getD j lab0).2.size ≤ 16 ∧ (j = 0 ∨ ltB (l.getD (j - 1) lab0).1 (l.getD j lab0).1 = true) := by
  obtain ⟨d, rfl⟩ : ∃ d, k = j + 1 + d := ⟨k - (j + 1), by omega⟩
  cases hc : (isNm (l.getD j lab0).1 && decide ((l.getD j lab0).2.size ≤ 16) && (decide (j = 0) || ltB (l.getD (j - 1) lab0).1 (l.getD j lab0).1)) with
  | false => rw [upTo_no hc d] at h; cases h
  | true => simpa [Bool.and_assoc] using hc
/-- names rise all along -/
theorem upTo_lt {l : List Lab} {k : Nat} (h : upTo l k = true) : ∀ d i, i + 1 + d < k → ltB (l.getD i lab0).1 (l.getD (i + 1 + d) lab0).1 = true
  | 0, i, hi => by
    rcases (upTo_le h (j := i + 1) (by omega)).2.2 with g | g
    · omega
    · exact g
  | d + 1, i, hi => by
    rcases (upTo_le h (j := i + 1 + (d + 1)) (by omega)).2.2 with g | g
    · omega
    · exact ltB_trans (upTo_lt h d i (by omega)) g
end Go.Proofs.YtbdgcfimbblncaaGreatDoor.LabPlain
end PkMC1_14
section PkMC1_15
/- Manifests: entries, marks and owners where they lie; small functions, walked. Written by genmfa.py. -/
namespace Go.Proofs.YtbdgcfimbblncaaGreatDoor
open Go.RowKit LabPlain
set_option linter.unusedVariables false

structure EntV where
  key : ByteArray
  win : Int
  part : ByteArray
  fst : Int
  lst : Int
  rows : Int
  size : Int
  sum : Int
  born : Int
def ent0 : EntV := ⟨ByteArray.empty, 0, ByteArray.empty, 0, 0, 0, 0, 0, 0⟩
def EntV.cells (x : EntV) : List Value := [.string x.key, .int .i64 x.win, .string x.part, .int .i64 x.fst, .int .i64 x.lst, .int .i64 x.rows, .int .i64 x.size, .int .u32 x.sum, .int .i64 x.born]
def EntS : Sty EntV := ⟨EntV.cells, 9, ent0, fun _ x => x.key.size ≤ 140737488355328 ∧ x.part.size ≤ 140737488355328 ∧ (0 ≤ x.sum ∧ x.sum ≤ 4294967295), by decide, fun _ => rfl, (fun x u hu => by simp [EntV.cells] at hu; rcases hu with rfl | rfl | rfl | rfl | rfl | rfl | rfl | rfl | rfl <;> rfl), fun _ h => h⟩
def MarkS : Sty (Int × Int) := ⟨fun x => [.int .i64 x.1, .int .i64 x.2], 2, (0, 0), fun _ _ => True, by decide, fun _ => rfl, (fun x u hu => by simp at hu; rcases hu with rfl | rfl <;> rfl), fun _ h => h⟩
def OwnS : Sty (Int × Int × Int) := ⟨fun x => [.int .i64 x.1, .int .i64 x.2.1, .int .i64 x.2.2], 3, (0, 0, 0), fun _ _ => True, by decide, fun _ => rfl, (fun x u hu => by simp at hu; rcases hu with rfl | rfl | rfl <;> rfl), fun _ h => h⟩

theorem within_yes {n a b : Int} (h1 : a ≤ n) (h2 : n ≤ b) (w : World) : Calls Tryz.prog 34 #[.int .i64 n, .int .i64 a, .int .i64 b] w fun e w' => e = .returned (.bool true) ∧ w' = w := by
  go_enter Tryz.func34, Tryz.ntmps34
  go_wp2_with fail
  go_ret
  exact ⟨rfl, rfl⟩
set_option maxRecDepth 100000 in
theorem rightMark_yes {a b : Int} (h1 : 1 ≤ a ∧ a ≤ 64) (h2 : 1 ≤ b ∧ b ≤ 1099511627775) (w : World) : Calls Tryz.prog 41 #[.agg #[.int .i64 a, .int .i64 b]] w fun e w' => e = .returned (.bool true) ∧ Below w.heap.size w w' := by
  have HB := Lib.hid ((Below.refl w.heap.size w).alloc (Nat.le_refl _) (.cells #[.int .i64 a, .int .i64 b] 43))
  have HW1 := Lib.hid (within_yes h1.1 h1.2 (w.alloc (.cells #[.int .i64 a, .int .i64 b] 43)))
  have HW2 := Lib.hid (within_yes h2.1 h2.2 (w.alloc (.cells #[.int .i64 a, .int .i64 b] 43)))
  clear h1 h2
  go_enter Tryz.func41, Tryz.ntmps41
  go_wp2_with fail
  refine HW1.out.mono ?_
  rintro e w1 ⟨rfl, rfl⟩
  go_wp2_with fail
  refine HW2.out.mono ?_
  rintro e w1 ⟨rfl, rfl⟩
  go_wp2_with fail
  go_ret
  exact ⟨rfl, HB.out⟩
set_option maxRecDepth 100000 in
theorem rightOwner_yes {a b c : Int} (h1 : 1 ≤ a ∧ a ≤ 8) (h2 : 1 ≤ b ∧ b ≤ 1099511627775) (h3 : 1 ≤ c ∧ c ≤ 1099511627775) (w : World) : Calls Tryz.prog 44 #[.agg #[.int .i64 a, .int .i64 b, .int .i64 c]] w fun e w' => e = .returned (.bool true) ∧ Below w.heap.size w w' := by
  have HB := Lib.hid ((Below.refl w.heap.size w).alloc (Nat.le_refl _) (.cells #[.int .i64 a, .int .i64 b, .int .i64 c] 45))
  have HW1 := Lib.hid (within_yes h1.1 h1.2 (w.alloc (.cells #[.int .i64 a, .int .i64 b, .int .i64 c] 45)))
  have HW2 := Lib.hid (within_yes h2.1 h2.2 (w.alloc (.cells #[.int .i64 a, .int .i64 b, .int .i64 c] 45)))
  have HW3 := Lib.hid (within_yes h3.1 h3.2 (w.alloc (.cells #[.int .i64 a, .int .i64 b, .int .i64 c] 45)))
  clear h1 h2 h3
  go_enter Tryz.func44, Tryz.ntmps44
  go_wp2_with fail
  refine HW1.out.mono ?_
  rintro e w1 ⟨rfl, rfl⟩
  go_wp2_with fail
  refine HW2.out.mono ?_
  rintro e w1 ⟨rfl, rfl⟩
  go_wp2_with fail
  refine HW3.out.mono ?_
  rintro e w1 ⟨rfl, rfl⟩
  go_wp2_with fail
  go_ret
  exact ⟨rfl, HB.out⟩

set_option maxRecDepth 100000 in
theorem rising_nilE (a : Option Addr) (c : Nat) (cf rf : Value) (w : World) : Calls Tryz.prog 37 #[.slice a 0 c, cf, rf] w fun e w' => e = .returned (.bool true) ∧ w' = w := by
  go_enter Tryz.func37, Tryz.ntmps37
  go_wp2_with fail
  refine wp_loop_rounds 1 ?_
  rw [rounds_succ]
  go_wp2_with fail
  go_ret
  exact ⟨rfl, rfl⟩

set_option maxRecDepth 100000 in
theorem rising_nilM (a : Option Addr) (c : Nat) (cf rf : Value) (w : World) : Calls Tryz.prog 39 #[.slice a 0 c, cf, rf] w fun e w' => e = .returned (.bool true) ∧ w' = w := by
  go_enter Tryz.func39, Tryz.ntmps39
  go_wp2_with fail
  refine wp_loop_rounds 1 ?_
  rw [rounds_succ]
  go_wp2_with fail
  go_ret
  exact ⟨rfl, rfl⟩

set_option maxRecDepth 100000 in
theorem rising_nilO (a : Option Addr) (c : Nat) (cf rf : Value) (w : World) : Calls Tryz.prog 42 #[.slice a 0 c, cf, rf] w fun e w' => e = .returned (.bool true) ∧ w' = w := by
  go_enter Tryz.func42, Tryz.ntmps42
  go_wp2_with fail
  refine wp_loop_rounds 1 ?_
  rw [rounds_succ]
  go_wp2_with fail
  go_ret
  exact ⟨rfl, rfl⟩

set_option maxRecDepth 100000 in
theorem rising_nilS (a : Option Addr) (c : Nat) (cf rf : Value) (w : World) : Calls Tryz.prog 98 #[.slice a 0 c, cf, rf] w fun e w' => e = .returned (.bool true) ∧ w' = w := by
  go_enter Tryz.func98, Tryz.ntmps98
  go_wp2_with fail
  refine wp_loop_rounds 1 ?_
  rw [rounds_succ]
  go_wp2_with fail
  go_ret
  exact ⟨rfl, rfl⟩

end Go.Proofs.YtbdgcfimbblncaaGreatDoor
end PkMC1_15
section PkMC1_16
/- Manifests: their bytes; the closures of package manifest's Encode, walked. Written by genmfe1.py. -/
namespace Go.Proofs.YtbdgcfimbblncaaGreatDoor
open Go.RowKit NumsPlain
set_option linter.unusedVariables false

def entN (x0 : ByteArray) (n1 : Nat) (x2 : ByteArray) (n3 n4 n5 n6 n7 n8 : Nat) : List Nat := ((txC x0 ++ nI [n1]) ++ txC x2) ++ nI [n3, n4, n5, n6, n7, n8]
def entC (x : EntV) : List Nat := entN x.key x.win.toNat x.part x.fst.toNat x.lst.toNat x.rows.toNat x.size.toNat x.sum.toNat x.born.toNat
def markC (x : Int × Int) : List Nat := nI [x.1.toNat, x.2.toNat]
def ownC (x : Int × Int × Int) : List Nat := nI [x.1.toNat, x.2.1.toNat, x.2.2.toNat]
/-- a number that is written -/
def InR (z : Int) : Prop := 0 ≤ z ∧ z ≤ 1099511627775
def EntNat (x : EntV) : Prop := x.key.size ≤ 100 ∧ x.part.size ≤ 1300 ∧ InR x.win ∧ InR x.fst ∧ InR x.lst ∧ InR x.rows ∧ InR x.size ∧ InR x.sum ∧ InR x.born
def MarkNat (x : Int × Int) : Prop := InR x.1 ∧ InR x.2
def OwnNat (x : Int × Int × Int) : Prop := InR x.1 ∧ InR x.2.1 ∧ InR x.2.2
theorem InR.nat {z : Int} (h : InR z) : ∃ n : Nat, z = (n : Int) ∧ n ≤ 1099511627775 := ⟨z.toNat, by have := h.1; omega, by have := h.2; omega⟩
theorem nI_bnd {l : List Nat} {m : Nat} (h : ∀ z ∈ l, z ≤ 1099511627775) (hm : l.length * 10 ≤ m) : (nI l).length ≤ m := by
  have := nI_len l (fun z hz => by have := h z hz; omega)
  omega
theorem entC_len {x : EntV} (h : EntNat x) : (entC x).length ≤ 1500 := by
  obtain ⟨h0, h2, h1, h3, h4, h5, h6, h7, h8⟩ := h
  unfold InR at h1 h3 h4 h5 h6 h7 h8
  unfold entC entN
  have a := txC_len x.key (by omega)
  have b := txC_len x.part (by omega)
  have c := nI_bnd (l := [x.win.toNat]) (m := 10) (fun z hz => by simp at hz; omega) (by simp)
  have d := nI_bnd (l := [x.fst.toNat, x.lst.toNat, x.rows.toNat, x.size.toNat, x.sum.toNat, x.born.toNat]) (m := 60) (fun z hz => by simp at hz; omega) (by simp)
  simp only [List.length_append]
  omega
theorem markC_len {x : Int × Int} (h : MarkNat x) : (markC x).length ≤ 1500 := by
  obtain ⟨h1, h2⟩ := h
  unfold InR at h1 h2
  have := nI_bnd (l := [x.1.toNat, x.2.toNat]) (m := 20) (fun z hz => by simp at hz; omega) (by simp)
  unfold markC; omega
theorem ownC_len {x : Int × Int × Int} (h : OwnNat x) : (ownC x).length ≤ 1500 := by
  obtain ⟨h1, h2, h3⟩ := h
  unfold InR at h1 h2 h3
  have := nI_bnd (l := [x.1.toNat, x.2.1.toNat, x.2.2.toNat]) (m := 30) (fun z hz => by simp at hz; omega) (by simp)
  unfold ownC; omega
theorem entC_byte {x : EntV} (h : EntNat x) : ∀ y ∈ entC x, y < 256 := by
  obtain ⟨h0, h2, h1, h3, h4, h5, h6, h7, h8⟩ := h
  unfold InR at h1 h3 h4 h5 h6 h7 h8
  intro y hy
  unfold entC entN at hy
  rcases List.mem_append.1 hy with hy | hy
  · rcases List.mem_append.1 hy with hy | hy
    · rcases List.mem_append.1 hy with hy | hy
      · exact txC_byte _ (by omega) y hy
      · exact nI_byte _ (fun z hz => by simp at hz; omega) y hy
    · exact txC_byte _ (by omega) y hy
  · exact nI_byte _ (fun z hz => by simp at hz; omega) y hy
theorem markC_byte {x : Int × Int} (h : MarkNat x) : ∀ y ∈ markC x, y < 256 := by
  obtain ⟨h1, h2⟩ := h
  unfold InR at h1 h2
  exact nI_byte _ (fun z hz => by simp at hz; omega)
theorem ownC_byte {x : Int × Int × Int} (h : OwnNat x) : ∀ y ∈ ownC x, y < 256 := by
  obtain ⟨h1, h2, h3⟩ := h
  unfold InR at h1 h2 h3
  exact nI_byte _ (fun z hz => by simp at hz; omega)
theorem cell_blk9 {w : World} {B : Nat} {cur : Array Value} {t : TypeId} (g : w.heap[B]? = some (.cells cur t (0, 0))) {i : Nat} {u : Value} (h : cur[i]? = some u) : w.cell? ⟨B, i, none⟩ = some u := by rw [cell_of_row w _ _ _ _ (0, 0) g]; exact h

set_option maxRecDepth 100000 in
set_option maxHeartbeats 4000000 in
theorem enc1_nat {w : World} {base n : Nat} {v : Value} {xs : List Nat} (ho : w.ownsRow base 5 1 v n (bv xs)) (hbs : base ≤ w.heap.size) (hn : n ≤ 80000000) (x0 : ByteArray) (n1 : Nat) (x2 : ByteArray) (n3 n4 n5 n6 n7 n8 : Nat) (h0 : x0.size ≤ 100) (h1 : n1 ≤ 1099511627775) (h2 : x2.size ≤ 1300) (h3 : n3 ≤ 1099511627775) (h4 : n4 ≤ 1099511627775) (h5 : n5 ≤ 1099511627775) (h6 : n6 ≤ 1099511627775) (h7 : n7 ≤ 1099511627775) (h8 : n8 ≤ 1099511627775) :
    Calls Tryz.prog 23 #[v, .agg #[.string x0, .int .i64 (n1 : Int), .string x2, .int .i64 (n3 : Int), .int .i64 (n4 : Int), .int .i64 (n5 : Int), .int .i64 (n6 : Int), .int .u32 (n7 : Int), .int .i64 (n8 : Int)]] w fun e w' => ∃ v', e = .returned v' ∧ w'.ownsRow base 5 1 v' (n + (entN x0 n1 x2 n3 n4 n5 n6 n7 n8).length) (bv (xs ++ entN x0 n1 x2 n3 n4 n5 n6 n7 n8)) ∧ Gb base w w' := by
  obtain ⟨a, c, rfl⟩ := own_slice ho
  have HXA := Lib.hid (heap_alloc_new w (.cells #[.string x0, .int .i64 (n1 : Int), .string x2, .int .i64 (n3 : Int), .int .i64 (n4 : Int), .int .i64 (n5 : Int), .int .i64 (n6 : Int), .int .u32 (n7 : Int), .int .i64 (n8 : Int)] 53))
  have HOA := Lib.hid (ho.alloc (.cells #[.string x0, .int .i64 (n1 : Int), .string x2, .int .i64 (n3 : Int), .int .i64 (n4 : Int), .int .i64 (n5 : Int), .int .i64 (n6 : Int), .int .u32 (n7 : Int), .int .i64 (n8 : Int)] 53))
  have HGA := Lib.hid (Gb.alloc w (.cells #[.string x0, .int .i64 (n1 : Int), .string x2, .int .i64 (n3 : Int), .int .i64 (n4 : Int), .int .i64 (n5 : Int), .int .i64 (n6 : Int), .int .u32 (n7 : Int), .int .i64 (n8 : Int)] 53) hbs)
  have HSA := Lib.hid (Nat.le_trans hbs HGA.out.size)
  obtain ⟨N1, hN1⟩ : ∃ N, N = n + (txC x0).length := ⟨_, rfl⟩
  obtain ⟨X1, hX1⟩ : ∃ X, X = xs ++ txC x0 := ⟨_, rfl⟩
  obtain ⟨N2, hN2⟩ : ∃ N, N = N1 + (nI [n1]).length := ⟨_, rfl⟩
  obtain ⟨X2, hX2⟩ : ∃ X, X = X1 ++ nI [n1] := ⟨_, rfl⟩
  obtain ⟨N3, hN3⟩ : ∃ N, N = N2 + (txC x2).length := ⟨_, rfl⟩
  obtain ⟨X3, hX3⟩ : ∃ X, X = X2 ++ txC x2 := ⟨_, rfl⟩
  obtain ⟨N4, hN4⟩ : ∃ N, N = N3 + (nI [n3, n4, n5, n6, n7, n8]).length := ⟨_, rfl⟩
  obtain ⟨X4, hX4⟩ : ∃ X, X = X3 ++ nI [n3, n4, n5, n6, n7, n8] := ⟨_, rfl⟩
  have l0 := txC_len x0 (by omega)
  have l2 := txC_len x2 (by omega)
  have l1 := nI_bnd (l := [n1]) (m := 10) (fun z hz => by simp at hz; omega) (by simp)
  have HC1 := Lib.hid (show ∀ W u, W.ownsRow base 5 1 u n (bv xs) → base ≤ W.heap.size → Calls Tryz.prog 24 #[u, .string x0] W fun e w' => ∃ v', e = .returned v' ∧ w'.ownsRow base 5 1 v' N1 (bv X1) ∧ Gb base W w' from fun W u q1 q2 => by rw [hN1, hX1]; exact mtext_any q1 q2 (by omega) x0 (by omega))
  have HC2 := Lib.hid (show ∀ W u g, W.ownsRow base 5 1 u N1 (bv X1) → base ≤ W.heap.size → W.heap[g]? = some (.cells #[.int .i64 (n1 : Int)] 3 (0, 0)) → Calls Tryz.prog 21 #[u, .slice (some ⟨g, 0, none⟩) 1 1] W fun e w' => ∃ v', e = .returned v' ∧ w'.ownsRow base 5 1 v' N2 (bv X2) ∧ Gb base W w' from fun W u g q1 q2 q3 => by rw [hN2, hX2]; exact mnums_any (.inl q1) q2 q3 rfl rfl (fun z hz => by simp at hz; omega) (by decide) (by decide) (by omega))
  have HC3 := Lib.hid (show ∀ W u, W.ownsRow base 5 1 u N2 (bv X2) → base ≤ W.heap.size → Calls Tryz.prog 24 #[u, .string x2] W fun e w' => ∃ v', e = .returned v' ∧ w'.ownsRow base 5 1 v' N3 (bv X3) ∧ Gb base W w' from fun W u q1 q2 => by rw [hN3, hX3]; exact mtext_any q1 q2 (by omega) x2 (by omega))
  have HC4 := Lib.hid (show ∀ W u g, W.ownsRow base 5 1 u N3 (bv X3) → base ≤ W.heap.size → W.heap[g]? = some (.cells #[.int .i64 (n3 : Int), .int .i64 (n4 : Int), .int .i64 (n5 : Int), .int .i64 (n6 : Int), .int .i64 (n7 : Int), .int .i64 (n8 : Int)] 3 (0, 0)) → Calls Tryz.prog 21 #[u, .slice (some ⟨g, 0, none⟩) 6 6] W fun e w' => ∃ v', e = .returned v' ∧ w'.ownsRow base 5 1 v' N4 (bv X4) ∧ Gb base W w' from fun W u g q1 q2 q3 => by rw [hN4, hX4]; exact mnums_any (.inl q1) q2 q3 rfl rfl (fun z hz => by simp at hz; omega) (by decide) (by decide) (by omega))
  have HE := Lib.hid (show N4 = n + (entN x0 n1 x2 n3 n4 n5 n6 n7 n8).length ∧ X4 = xs ++ entN x0 n1 x2 n3 n4 n5 n6 n7 n8 from ⟨by rw [hN4, hN3, hN2, hN1]; unfold entN; simp only [List.length_append]; omega, by rw [hX4, hX3, hX2, hX1]; unfold entN; simp only [List.append_assoc]⟩)
  clear ho hbs hN1 hN2 hN3 hN4 hX1 hX2 hX3 hX4 l0 l1 l2
  go_enter Tryz.func23, Tryz.ntmps23
  go_wp2_with fail
  refine wp_region_inv0 (by kernel_rfl) (by kernel_rfl) (by kernel_rfl) (G2 base (w.alloc (.cells #[.string x0, .int .i64 (n1 : Int), .string x2, .int .i64 (n3 : Int), .int .i64 (n4 : Int), .int .i64 (n5 : Int), .int .i64 (n6 : Int), .int .u32 (n7 : Int), .int .i64 (n8 : Int)] 53)) (fun j_9 => match j_9 with | 0 => some (.slice a n c) | 1 => some (.pointer (some ⟨w.heap.size, 0, none⟩)) | 2 => some (.string x0) | 3 => none | 4 => some (.pointer (some ⟨w.heap.size, 1, none⟩)) | 5 => some (.int .i64 (n1 : Int)) | 6 => none | 7 => none | 8 => none | _ => none) 6 1 (#[.int .i64 (n1 : Int)]) 0 3 7 8 (.slice a n c) (.slice a n c) (n) (N1) (N2) (xs) (X1) (X2)) (G2.start HOA.out HSA.out rfl) ?_ ?_
  · intro j9 o ho L9 V w9 K hI hL hdep hK
    have HI9 := Lib.hid hI
    have HBW := Lib.hid (Nat.le_trans HSA.out hI.size)
    have HL9 := Lib.hid hL
    simp only [fill, slotOf, List.size_toArray, List.length_cons, List.length_nil, Nat.reduceAdd, List.getElem?_toArray, List.getElem?_cons_zero, List.getElem?_cons_succ, Option.bind_some, Act.put, List.setIfInBounds_toArray, List.set_cons_zero, List.set_cons_succ] at hK ⊢
    have hin : j9 < 9 := (Array.getElem?_eq_some_iff.1 ho).1
    have hcs : j9 = 0 ∨ j9 = 1 ∨ j9 = 2 ∨ j9 = 3 ∨ j9 = 4 ∨ j9 = 5 ∨ j9 = 6 ∨ j9 = 7 ∨ j9 = 8 := by omega
    clear hin
    rcases hcs with rfl | rfl | rfl | rfl | rfl | rfl | rfl | rfl | rfl
    · obtain rfl := Option.some.inj ho.symm
      have e9 := hI.old hL
      clear hdep ho hI hL
      try simp only [fill, slotOf, List.size_toArray, List.length_cons, List.length_nil, Nat.reduceAdd, List.getElem?_toArray, List.getElem?_cons_zero, List.getElem?_cons_succ, Option.bind_some, Act.put, List.setIfInBounds_toArray, List.set_cons_zero, List.set_cons_succ] at hK ⊢
      rw [e9] at hK ⊢
      go_simp
      exact hK (.slice a n c) _ (HI9.out.put 0 _ (by decide) (fun v h => Option.some.inj h)) _ rfl
    · obtain rfl := Option.some.inj ho.symm
      clear hdep ho hI hL
      try simp only [fill, slotOf, List.size_toArray, List.length_cons, List.length_nil, Nat.reduceAdd, List.getElem?_toArray, List.getElem?_cons_zero, List.getElem?_cons_succ, Option.bind_some, Act.put, List.setIfInBounds_toArray, List.set_cons_zero, List.set_cons_succ] at hK ⊢
      go_simp
      exact hK (.pointer (some ⟨w.heap.size, 0, none⟩)) _ (HI9.out.put 1 _ (by decide) (fun v h => Option.some.inj h)) _ rfl
    · obtain rfl := Option.some.inj ho.symm
      have d1 : V 1 = .pointer (some ⟨w.heap.size, 0, none⟩) := hI.val 1 _ (hdep ⟨1, .data⟩ (by simp) rfl) rfl
      have u0 : w9.cell? ⟨w.heap.size, 0, none⟩ = some (.string x0) := cell_blk9 (hI.gb.other _ _ _ HXA.out (by decide)) rfl
      clear hdep ho hI hL
      try simp only [fill, slotOf, List.size_toArray, List.length_cons, List.length_nil, Nat.reduceAdd, List.getElem?_toArray, List.getElem?_cons_zero, List.getElem?_cons_succ, Option.bind_some, Act.put, List.setIfInBounds_toArray, List.set_cons_zero, List.set_cons_succ] at hK ⊢
      rw [d1] at hK ⊢
      go_simp
      exact hK (.string x0) _ (HI9.out.put 2 _ (by decide) (fun v h => Option.some.inj h)) _ rfl
    · obtain rfl := Option.some.inj ho.symm
      have d0 : V 0 = .slice a n c := hI.val 0 _ (hdep ⟨0, .data⟩ (by simp) rfl) rfl
      have d2 : V 2 = .string x0 := hI.val 2 _ (hdep ⟨2, .data⟩ (by simp) rfl) rfl
      have HL0 := Lib.hid (hdep ⟨0, .data⟩ (by simp) rfl : L9 0 = true)
      clear hdep ho hI hL
      try simp only [fill, slotOf, List.size_toArray, List.length_cons, List.length_nil, Nat.reduceAdd, List.getElem?_toArray, List.getElem?_cons_zero, List.getElem?_cons_succ, Option.bind_some, Act.put, List.setIfInBounds_toArray, List.set_cons_zero, List.set_cons_succ] at hK ⊢
      rw [d0, d2] at hK ⊢
      go_simp
      refine (HC1.out w9 _ (HI9.out.o0 HL9.out) HBW.out).mono ?_
      rintro e w8 ⟨u8, rfl, ho8, hg8⟩
      exact hK u8 _ (HI9.out.put1 HL0.out HL9.out u8 (by decide) rfl ho8 hg8) _ rfl
    · obtain rfl := Option.some.inj ho.symm
      clear hdep ho hI hL
      try simp only [fill, slotOf, List.size_toArray, List.length_cons, List.length_nil, Nat.reduceAdd, List.getElem?_toArray, List.getElem?_cons_zero, List.getElem?_cons_succ, Option.bind_some, Act.put, List.setIfInBounds_toArray, List.set_cons_zero, List.set_cons_succ] at hK ⊢
      go_simp
      exact hK (.pointer (some ⟨w.heap.size, 1, none⟩)) _ (HI9.out.put 4 _ (by decide) (fun v h => Option.some.inj h)) _ rfl
    · obtain rfl := Option.some.inj ho.symm
      have d4 : V 4 = .pointer (some ⟨w.heap.size, 1, none⟩) := hI.val 4 _ (hdep ⟨4, .data⟩ (by simp) rfl) rfl
      have u1 : w9.cell? ⟨w.heap.size, 1, none⟩ = some (.int .i64 (n1 : Int)) := cell_blk9 (hI.gb.other _ _ _ HXA.out (by decide)) rfl
      clear hdep ho hI hL
      try simp only [fill, slotOf, List.size_toArray, List.length_cons, List.length_nil, Nat.reduceAdd, List.getElem?_toArray, List.getElem?_cons_zero, List.getElem?_cons_succ, Option.bind_some, Act.put, List.setIfInBounds_toArray, List.set_cons_zero, List.set_cons_succ] at hK ⊢
      rw [d4] at hK ⊢
      go_simp
      exact hK (.int .i64 (n1 : Int)) _ (HI9.out.put 5 _ (by decide) (fun v h => Option.some.inj h)) _ rfl
    · obtain rfl := Option.some.inj ho.symm
      have d5 : V 5 = .int .i64 (n1 : Int) := hI.val 5 _ (hdep ⟨5, .data⟩ (by simp) rfl) rfl
      clear hdep ho hI hL
      try simp only [fill, slotOf, List.size_toArray, List.length_cons, List.length_nil, Nat.reduceAdd, List.getElem?_toArray, List.getElem?_cons_zero, List.getElem?_cons_succ, Option.bind_some, Act.put, List.setIfInBounds_toArray, List.set_cons_zero, List.set_cons_succ] at hK ⊢
      rw [d5] at hK ⊢
      go_simp
      exact hK (.slice (some ⟨w9.heap.size, 0, none⟩) 1 1) _ (HI9.out.putl HBW.out (by decide) rfl) _ rfl
    · obtain rfl := Option.some.inj ho.symm
      have HLA := Lib.hid (hdep ⟨3, .data⟩ (by simp) rfl : L9 3 = true)
      obtain ⟨g9, e9, hg9⟩ := hI.lit (hdep ⟨6, .data⟩ (by simp) rfl)
      have HG9 := Lib.hid hg9
      clear hg9
      clear hdep ho hI hL
      try simp only [fill, slotOf, List.size_toArray, List.length_cons, List.length_nil, Nat.reduceAdd, List.getElem?_toArray, List.getElem?_cons_zero, List.getElem?_cons_succ, Option.bind_some, Act.put, List.setIfInBounds_toArray, List.set_cons_zero, List.set_cons_succ] at hK ⊢
      rw [e9] at hK ⊢
      go_simp
      refine (HC2.out w9 _ g9 (HI9.out.o1 HLA.out HL9.out) HBW.out HG9.out).mono ?_
      rintro e w8 ⟨u8, rfl, ho8, hg8⟩
      exact hK u8 _ (HI9.out.put2 HLA.out HL9.out u8 (by decide) rfl ho8 hg8) _ rfl
    · obtain rfl := Option.some.inj ho.symm
      have HLA := Lib.hid (hdep ⟨7, .data⟩ (by simp) rfl : L9 7 = true)
      clear hdep ho hI hL
      try simp only [fill, slotOf, List.size_toArray, List.length_cons, List.length_nil, Nat.reduceAdd, List.getElem?_toArray, List.getElem?_cons_zero, List.getElem?_cons_succ, Option.bind_some, Act.put, List.setIfInBounds_toArray, List.set_cons_zero, List.set_cons_succ] at hK ⊢
      go_simp
      exact hK (V 7) _ (HI9.out.put3 HLA.out (by decide) rfl) _ rfl
  · intro L9 V w9 hI hall
    have k3 : V 8 = V 7 := (hI.ag (hall 8 (by decide))).2
    have HOZ := hI.o2 (hall 7 (by decide))
    have HGZ := Lib.hid hI.gb
    obtain ⟨az, cz, kz⟩ := own_slice HOZ
    rw [kz] at HOZ k3
    have HOZ := Lib.hid HOZ
    clear hI hall
    simp only [fill, slotOf, List.size_toArray, List.length_cons, List.length_nil, Nat.reduceAdd, List.getElem?_toArray, List.getElem?_cons_zero, List.getElem?_cons_succ, Option.bind_some, Act.put, List.setIfInBounds_toArray, List.set_cons_zero, List.set_cons_succ]
    rw [k3]
    clear k3 kz
    obtain ⟨wq, hwq⟩ : ∃ wq, wq = w9 := ⟨_, rfl⟩
    rw [← hwq] at HGZ HOZ ⊢
    clear hwq
    have HXB := Lib.hid (HGZ.out.other _ _ _ HXA.out (by decide))
    have HSB := Lib.hid (Nat.le_trans HSA.out HGZ.out.size)
    go_wp2_with fail
    refine wp_region_inv0 (by kernel_rfl) (by kernel_rfl) (by kernel_rfl) (G2 base wq (fun j_9 => match j_9 with | 0 => some (.slice az N2 cz) | 1 => some (.pointer (some ⟨w.heap.size, 2, none⟩)) | 2 => some (.string x2) | 3 => none | 4 => some (.pointer (some ⟨w.heap.size, 3, none⟩)) | 5 => some (.int .i64 (n3 : Int)) | 6 => some (.pointer (some ⟨w.heap.size, 4, none⟩)) | 7 => some (.int .i64 (n4 : Int)) | 8 => some (.pointer (some ⟨w.heap.size, 5, none⟩)) | 9 => some (.int .i64 (n5 : Int)) | 10 => some (.pointer (some ⟨w.heap.size, 6, none⟩)) | 11 => some (.int .i64 (n6 : Int)) | 12 => some (.pointer (some ⟨w.heap.size, 7, none⟩)) | 13 => some (.int .u32 (n7 : Int)) | 14 => some (.int .i64 (n7 : Int)) | 15 => some (.pointer (some ⟨w.heap.size, 8, none⟩)) | 16 => some (.int .i64 (n8 : Int)) | 17 => none | 18 => none | 19 => none | _ => none) 17 6 (#[.int .i64 (n3 : Int), .int .i64 (n4 : Int), .int .i64 (n5 : Int), .int .i64 (n6 : Int), .int .i64 (n7 : Int), .int .i64 (n8 : Int)]) 0 3 18 19 (.slice none 0 0) (.slice az N2 cz) (N2) (N3) (N4) (X2) (X3) (X4)) (G2.start HOZ.out HSB.out rfl) ?_ ?_
    · intro j9 o ho L9 V w9 K hI hL hdep hK
      have HI9 := Lib.hid hI
      have HBW := Lib.hid (Nat.le_trans HSB.out hI.size)
      have HL9 := Lib.hid hL
      simp only [fill, slotOf, List.size_toArray, List.length_cons, List.length_nil, Nat.reduceAdd, List.getElem?_toArray, List.getElem?_cons_zero, List.getElem?_cons_succ, Option.bind_some, Act.put, List.setIfInBounds_toArray, List.set_cons_zero, List.set_cons_succ] at hK ⊢
      have hin : j9 < 20 := (Array.getElem?_eq_some_iff.1 ho).1
      have hcs : j9 = 0 ∨ j9 = 1 ∨ j9 = 2 ∨ j9 = 3 ∨ j9 = 4 ∨ j9 = 5 ∨ j9 = 6 ∨ j9 = 7 ∨ j9 = 8 ∨ j9 = 9 ∨ j9 = 10 ∨ j9 = 11 ∨ j9 = 12 ∨ j9 = 13 ∨ j9 = 14 ∨ j9 = 15 ∨ j9 = 16 ∨ j9 = 17 ∨ j9 = 18 ∨ j9 = 19 := by omega
      clear hin
      rcases hcs with rfl | rfl | rfl | rfl | rfl | rfl | rfl | rfl | rfl | rfl | rfl | rfl | rfl | rfl | rfl | rfl | rfl | rfl | rfl | rfl
      · obtain rfl := Option.some.inj ho.symm
        clear hdep ho hI hL
        try simp only [fill, slotOf, List.size_toArray, List.length_cons, List.length_nil, Nat.reduceAdd, List.getElem?_toArray, List.getElem?_cons_zero, List.getElem?_cons_succ, Option.bind_some, Act.put, List.setIfInBounds_toArray, List.set_cons_zero, List.set_cons_succ] at hK ⊢
        go_simp
        exact hK (.slice az N2 cz) _ (HI9.out.put 0 _ (by decide) (fun v h => Option.some.inj h)) _ rfl
      · obtain rfl := Option.some.inj ho.symm
        clear hdep ho hI hL
        try simp only [fill, slotOf, List.size_toArray, List.length_cons, List.length_nil, Nat.reduceAdd, List.getElem?_toArray, List.getElem?_cons_zero, List.getElem?_cons_succ, Option.bind_some, Act.put, List.setIfInBounds_toArray, List.set_cons_zero, List.set_cons_succ] at hK ⊢
        go_simp
        exact hK (.pointer (some ⟨w.heap.size, 2, none⟩)) _ (HI9.out.put 1 _ (by decide) (fun v h => Option.some.inj h)) _ rfl
      · obtain rfl := Option.some.inj ho.symm
        have d1 : V 1 = .pointer (some ⟨w.heap.size, 2, none⟩) := hI.val 1 _ (hdep ⟨1, .data⟩ (by simp) rfl) rfl
        have u2 : w9.cell? ⟨w.heap.size, 2, none⟩ = some (.string x2) := cell_blk9 (hI.gb.other _ _ _ HXB.out (by decide)) rfl
        clear hdep ho hI hL
        try simp only [fill, slotOf, List.size_toArray, List.length_cons, List.length_nil, Nat.reduceAdd, List.getElem?_toArray, List.getElem?_cons_zero, List.getElem?_cons_succ, Option.bind_some, Act.put, List.setIfInBounds_toArray, List.set_cons_zero, List.set_cons_succ] at hK ⊢
        rw [d1] at hK ⊢
        go_simp
        exact hK (.string x2) _ (HI9.out.put 2 _ (by decide) (fun v h => Option.some.inj h)) _ rfl
      · obtain rfl := Option.some.inj ho.symm
        have d0 : V 0 = .slice az N2 cz := hI.val 0 _ (hdep ⟨0, .data⟩ (by simp) rfl) rfl
        have d2 : V 2 = .string x2 := hI.val 2 _ (hdep ⟨2, .data⟩ (by simp) rfl) rfl
        have HL0 := Lib.hid (hdep ⟨0, .data⟩ (by simp) rfl : L9 0 = true)
        clear hdep ho hI hL
        try simp only [fill, slotOf, List.size_toArray, List.length_cons, List.length_nil, Nat.reduceAdd, List.getElem?_toArray, List.getElem?_cons_zero, List.getElem?_cons_succ, Option.bind_some, Act.put, List.setIfInBounds_toArray, List.set_cons_zero, List.set_cons_succ] at hK ⊢
        rw [d0, d2] at hK ⊢
        go_simp
        refine (HC3.out w9 _ (HI9.out.o0 HL9.out) HBW.out).mono ?_
        rintro e w8 ⟨u8, rfl, ho8, hg8⟩
        exact hK u8 _ (HI9.out.put1 HL0.out HL9.out u8 (by decide) rfl ho8 hg8) _ rfl
      · obtain rfl := Option.some.inj ho.symm
        clear hdep ho hI hL
        try simp only [fill, slotOf, List.size_toArray, List.length_cons, List.length_nil, Nat.reduceAdd, List.getElem?_toArray, List.getElem?_cons_zero, List.getElem?_cons_succ, Option.bind_some, Act.put, List.setIfInBounds_toArray, List.set_cons_zero, List.set_cons_succ] at hK ⊢
        go_simp
        exact hK (.pointer (some ⟨w.heap.size, 3, none⟩)) _ (HI9.out.put 4 _ (by decide) (fun v h => Option.some.inj h)) _ rfl
      · obtain rfl := Option.some.inj ho.symm
        have d4 : V 4 = .pointer (some ⟨w.heap.size, 3, none⟩) := hI.val 4 _ (hdep ⟨4, .data⟩ (by simp) rfl) rfl
        have u3 : w9.cell? ⟨w.heap.size, 3, none⟩ = some (.int .i64 (n3 : Int)) := cell_blk9 (hI.gb.other _ _ _ HXB.out (by decide)) rfl
        clear hdep ho hI hL
        try simp only [fill, slotOf, List.size_toArray, List.length_cons, List.length_nil, Nat.reduceAdd, List.getElem?_toArray, List.getElem?_cons_zero, List.getElem?_cons_succ, Option.bind_some, Act.put, List.setIfInBounds_toArray, List.set_cons_zero, List.set_cons_succ] at hK ⊢
        rw [d4] at hK ⊢
        go_simp
        exact hK (.int .i64 (n3 : Int)) _ (HI9.out.put 5 _ (by decide) (fun v h => Option.some.inj h)) _ rfl
      · obtain rfl := Option.some.inj ho.symm
        clear hdep ho hI hL
        try simp only [fill, slotOf, List.size_toArray, List.length_cons, List.length_nil, Nat.reduceAdd, List.getElem?_toArray, List.getElem?_cons_zero, List.getElem?_cons_succ, Option.bind_some, Act.put, List.setIfInBounds_toArray, List.set_cons_zero, List.set_cons_succ] at hK ⊢
        go_simp
        exact hK (.pointer (some ⟨w.heap.size, 4, none⟩)) _ (HI9.out.put 6 _ (by decide) (fun v h => Option.some.inj h)) _ rfl
      · obtain rfl := Option.some.inj ho.symm
        have d6 : V 6 = .pointer (some ⟨w.heap.size, 4, none⟩) := hI.val 6 _ (hdep ⟨6, .data⟩ (by simp) rfl) rfl
        have u4 : w9.cell? ⟨w.heap.size, 4, none⟩ = some (.int .i64 (n4 : Int)) := cell_blk9 (hI.gb.other _ _ _ HXB.out (by decide)) rfl
        clear hdep ho hI hL
        try simp only [fill, slotOf, List.size_toArray, List.length_cons, List.length_nil, Nat.reduceAdd, List.getElem?_toArray, List.getElem?_cons_zero, List.getElem?_cons_succ, Option.bind_some, Act.put, List.setIfInBounds_toArray, List.set_cons_zero, List.set_cons_succ] at hK ⊢
        rw [d6] at hK ⊢
        go_simp
        exact hK (.int .i64 (n4 : Int)) _ (HI9.out.put 7 _ (by decide) (fun v h => Option.some.inj h)) _ rfl
      · obtain rfl := Option.some.inj ho.symm
        clear hdep ho hI hL
        try simp only [fill, slotOf, List.size_toArray, List.length_cons, List.length_nil, Nat.reduceAdd, List.getElem?_toArray, List.getElem?_cons_zero, List.getElem?_cons_succ, Option.bind_some, Act.put, List.setIfInBounds_toArray, List.set_cons_zero, List.set_cons_succ] at hK ⊢
        go_simp
        exact hK (.pointer (some ⟨w.heap.size, 5, none⟩)) _ (HI9.out.put 8 _ (by decide) (fun v h => Option.some.inj h)) _ rfl
      · obtain rfl := Option.some.inj ho.symm
        have d8 : V 8 = .pointer (some ⟨w.heap.size, 5, none⟩) := hI.val 8 _ (hdep ⟨8, .data⟩ (by simp) rfl) rfl
        have u5 : w9.cell? ⟨w.heap.size, 5, none⟩ = some (.int .i64 (n5 : Int)) := cell_blk9 (hI.gb.other _ _ _ HXB.out (by decide)) rfl
        clear hdep ho hI hL
        try simp only [fill, slotOf, List.size_toArray, List.length_cons, List.length_nil, Nat.reduceAdd, List.getElem?_toArray, List.getElem?_cons_zero, List.getElem?_cons_succ, Option.bind_some, Act.put, List.setIfInBounds_toArray, List.set_cons_zero, List.set_cons_succ] at hK ⊢
        rw [d8] at hK ⊢
        go_simp
        exact hK (.int .i64 (n5 : Int)) _ (HI9.out.put 9 _ (by decide) (fun v h => Option.some.inj h)) _ rfl
      · obtain rfl := Option.some.inj ho.symm
        clear hdep ho hI hL
        try simp only [fill, slotOf, List.size_toArray, List.length_cons, List.length_nil, Nat.reduceAdd, List.getElem?_toArray, List.getElem?_cons_zero, List.getElem?_cons_succ, Option.bind_some, Act.put, List.setIfInBounds_toArray, List.set_cons_zero, List.set_cons_succ] at hK ⊢
        go_simp
        exact hK (.pointer (some ⟨w.heap.size, 6, none⟩)) _ (HI9.out.put 10 _ (by decide) (fun v h => Option.some.inj h)) _ rfl
      · obtain rfl := Option.some.inj ho.symm
        have d10 : V 10 = .pointer (some ⟨w.heap.size, 6, none⟩) := hI.val 10 _ (hdep ⟨10, .data⟩ (by simp) rfl) rfl
        have u6 : w9.cell? ⟨w.heap.size, 6, none⟩ = some (.int .i64 (n6 : Int)) := cell_blk9 (hI.gb.other _ _ _ HXB.out (by decide)) rfl
        clear hdep ho hI hL
        try simp only [fill, slotOf, List.size_toArray, List.length_cons, List.length_nil, Nat.reduceAdd, List.getElem?_toArray, List.getElem?_cons_zero, List.getElem?_cons_succ, Option.bind_some, Act.put, List.setIfInBounds_toArray, List.set_cons_zero, List.set_cons_succ] at hK ⊢
        rw [d10] at hK ⊢
        go_simp
        exact hK (.int .i64 (n6 : Int)) _ (HI9.out.put 11 _ (by decide) (fun v h => Option.some.inj h)) _ rfl
      · obtain rfl := Option.some.inj ho.symm
        clear hdep ho hI hL
        try simp only [fill, slotOf, List.size_toArray, List.length_cons, List.length_nil, Nat.reduceAdd, List.getElem?_toArray, List.getElem?_cons_zero, List.getElem?_cons_succ, Option.bind_some, Act.put, List.setIfInBounds_toArray, List.set_cons_zero, List.set_cons_succ] at hK ⊢
        go_simp
        exact hK (.pointer (some ⟨w.heap.size, 7, none⟩)) _ (HI9.out.put 12 _ (by decide) (fun v h => Option.some.inj h)) _ rfl
      · obtain rfl := Option.some.inj ho.symm
        have d12 : V 12 = .pointer (some ⟨w.heap.size, 7, none⟩) := hI.val 12 _ (hdep ⟨12, .data⟩ (by simp) rfl) rfl
        have u7 : w9.cell? ⟨w.heap.size, 7, none⟩ = some (.int .u32 (n7 : Int)) := cell_blk9 (hI.gb.other _ _ _ HXB.out (by decide)) rfl
        clear hdep ho hI hL
        try simp only [fill, slotOf, List.size_toArray, List.length_cons, List.length_nil, Nat.reduceAdd, List.getElem?_toArray, List.getElem?_cons_zero, List.getElem?_cons_succ, Option.bind_some, Act.put, List.setIfInBounds_toArray, List.set_cons_zero, List.set_cons_succ] at hK ⊢
        rw [d12] at hK ⊢
        go_simp
        exact hK (.int .u32 (n7 : Int)) _ (HI9.out.put 13 _ (by decide) (fun v h => Option.some.inj h)) _ rfl
      · obtain rfl := Option.some.inj ho.symm
        have d13 : V 13 = .int .u32 (n7 : Int) := hI.val 13 _ (hdep ⟨13, .data⟩ (by simp) rfl) rfl
        have hw7 : IntKind.i64.wrap ((n7 : Nat) : Int) = (n7 : Int) := IntWalk.i64_in _ (by omega)
        clear hdep ho hI hL
        try simp only [fill, slotOf, List.size_toArray, List.length_cons, List.length_nil, Nat.reduceAdd, List.getElem?_toArray, List.getElem?_cons_zero, List.getElem?_cons_succ, Option.bind_some, Act.put, List.setIfInBounds_toArray, List.set_cons_zero, List.set_cons_succ] at hK ⊢
        rw [d13] at hK ⊢
        go_simp
        exact hK (.int .i64 (n7 : Int)) _ (HI9.out.put 14 _ (by decide) (fun v h => Option.some.inj h)) _ rfl
      · obtain rfl := Option.some.inj ho.symm
        clear hdep ho hI hL
        try simp only [fill, slotOf, List.size_toArray, List.length_cons, List.length_nil, Nat.reduceAdd, List.getElem?_toArray, List.getElem?_cons_zero, List.getElem?_cons_succ, Option.bind_some, Act.put, List.setIfInBounds_toArray, List.set_cons_zero, List.set_cons_succ] at hK ⊢
        go_simp
        exact hK (.pointer (some ⟨w.heap.size, 8, none⟩)) _ (HI9.out.put 15 _ (by decide) (fun v h => Option.some.inj h)) _ rfl
      · obtain rfl := Option.some.inj ho.symm
        have d15 : V 15 = .pointer (some ⟨w.heap.size, 8, none⟩) := hI.val 15 _ (hdep ⟨15, .data⟩ (by simp) rfl) rfl
        have u8 : w9.cell? ⟨w.heap.size, 8, none⟩ = some (.int .i64 (n8 : Int)) := cell_blk9 (hI.gb.other _ _ _ HXB.out (by decide)) rfl
        clear hdep ho hI hL
        try simp only [fill, slotOf, List.size_toArray, List.length_cons, List.length_nil, Nat.reduceAdd, List.getElem?_toArray, List.getElem?_cons_zero, List.getElem?_cons_succ, Option.bind_some, Act.put, List.setIfInBounds_toArray, List.set_cons_zero, List.set_cons_succ] at hK ⊢
        rw [d15] at hK ⊢
        go_simp
        exact hK (.int .i64 (n8 : Int)) _ (HI9.out.put 16 _ (by decide) (fun v h => Option.some.inj h)) _ rfl
      · obtain rfl := Option.some.inj ho.symm
        have d5 : V 5 = .int .i64 (n3 : Int) := hI.val 5 _ (hdep ⟨5, .data⟩ (by simp) rfl) rfl
        have d7 : V 7 = .int .i64 (n4 : Int) := hI.val 7 _ (hdep ⟨7, .data⟩ (by simp) rfl) rfl
        have d9 : V 9 = .int .i64 (n5 : Int) := hI.val 9 _ (hdep ⟨9, .data⟩ (by simp) rfl) rfl
        have d11 : V 11 = .int .i64 (n6 : Int) := hI.val 11 _ (hdep ⟨11, .data⟩ (by simp) rfl) rfl
        have d14 : V 14 = .int .i64 (n7 : Int) := hI.val 14 _ (hdep ⟨14, .data⟩ (by simp) rfl) rfl
        have d16 : V 16 = .int .i64 (n8 : Int) := hI.val 16 _ (hdep ⟨16, .data⟩ (by simp) rfl) rfl
        clear hdep ho hI hL
        try simp only [fill, slotOf, List.size_toArray, List.length_cons, List.length_nil, Nat.reduceAdd, List.getElem?_toArray, List.getElem?_cons_zero, List.getElem?_cons_succ, Option.bind_some, Act.put, List.setIfInBounds_toArray, List.set_cons_zero, List.set_cons_succ] at hK ⊢
        rw [d5, d7, d9, d11, d14, d16] at hK ⊢
        go_simp
        exact hK (.slice (some ⟨w9.heap.size, 0, none⟩) 6 6) _ (HI9.out.putl HBW.out (by decide) rfl) _ rfl
      · obtain rfl := Option.some.inj ho.symm
        have HLA := Lib.hid (hdep ⟨3, .data⟩ (by simp) rfl : L9 3 = true)
        obtain ⟨g9, e9, hg9⟩ := hI.lit (hdep ⟨17, .data⟩ (by simp) rfl)
        have HG9 := Lib.hid hg9
        clear hg9
        clear hdep ho hI hL
        try simp only [fill, slotOf, List.size_toArray, List.length_cons, List.length_nil, Nat.reduceAdd, List.getElem?_toArray, List.getElem?_cons_zero, List.getElem?_cons_succ, Option.bind_some, Act.put, List.setIfInBounds_toArray, List.set_cons_zero, List.set_cons_succ] at hK ⊢
        rw [e9] at hK ⊢
        go_simp
        refine (HC4.out w9 _ g9 (HI9.out.o1 HLA.out HL9.out) HBW.out HG9.out).mono ?_
        rintro e w8 ⟨u8, rfl, ho8, hg8⟩
        exact hK u8 _ (HI9.out.put2 HLA.out HL9.out u8 (by decide) rfl ho8 hg8) _ rfl
      · obtain rfl := Option.some.inj ho.symm
        have HLA := Lib.hid (hdep ⟨18, .data⟩ (by simp) rfl : L9 18 = true)
        clear hdep ho hI hL
        try simp only [fill, slotOf, List.size_toArray, List.length_cons, List.length_nil, Nat.reduceAdd, List.getElem?_toArray, List.getElem?_cons_zero, List.getElem?_cons_succ, Option.bind_some, Act.put, List.setIfInBounds_toArray, List.set_cons_zero, List.set_cons_succ] at hK ⊢
        go_simp
        exact hK (V 18) _ (HI9.out.put3 HLA.out (by decide) rfl) _ rfl
    · intro L9 V w9 hI hall
      have k3 : V 19 = V 18 := (hI.ag (hall 19 (by decide))).2
      have HOZb := hI.o2 (hall 18 (by decide))
      have HGZb := Lib.hid hI.gb
      obtain ⟨az2, cz2, kz⟩ := own_slice HOZb
      rw [kz] at HOZb k3
      have HOZb := Lib.hid HOZb
      clear hI hall
      simp only [fill, slotOf, List.size_toArray, List.length_cons, List.length_nil, Nat.reduceAdd, List.getElem?_toArray, List.getElem?_cons_zero, List.getElem?_cons_succ, Option.bind_some, Act.put, List.setIfInBounds_toArray, List.set_cons_zero, List.set_cons_succ]
      rw [k3]
      clear k3 kz
      go_wp2_with fail
      go_ret
      exact ⟨_, rfl, by rw [← HE.out.1, ← HE.out.2]; exact HOZb.out, (HGA.out.trans HGZ.out).trans HGZb.out⟩
theorem enc1_any {w : World} {base n : Nat} {v : Value} {xs : List Nat} (ho : w.ownsRow base 5 1 v n (bv xs)) (hbs : base ≤ w.heap.size) (hn : n ≤ 80000000) (x0 : ByteArray) (x1 : Int) (x2 : ByteArray) (x3 x4 x5 x6 x7 x8 : Int) (h : EntNat ⟨x0, x1, x2, x3, x4, x5, x6, x7, x8⟩) :
    Calls Tryz.prog 23 #[v, .agg #[.string x0, .int .i64 x1, .string x2, .int .i64 x3, .int .i64 x4, .int .i64 x5, .int .i64 x6, .int .u32 x7, .int .i64 x8]] w fun e w' => ∃ v', e = .returned v' ∧ w'.ownsRow base 5 1 v' (n + (entC ⟨x0, x1, x2, x3, x4, x5, x6, x7, x8⟩).length) (bv (xs ++ entC ⟨x0, x1, x2, x3, x4, x5, x6, x7, x8⟩)) ∧ Gb base w w' := by
  obtain ⟨h0, h2, h1, h3, h4, h5, h6, h7, h8⟩ := h
  obtain ⟨n1, e1, b1⟩ := h1.nat
  obtain ⟨n3, e3, b3⟩ := h3.nat
  obtain ⟨n4, e4, b4⟩ := h4.nat
  obtain ⟨n5, e5, b5⟩ := h5.nat
  obtain ⟨n6, e6, b6⟩ := h6.nat
  obtain ⟨n7, e7, b7⟩ := h7.nat
  obtain ⟨n8, e8, b8⟩ := h8.nat
  have e1' : x1 = (n1 : Int) := e1
  have e3' : x3 = (n3 : Int) := e3
  have e4' : x4 = (n4 : Int) := e4
  have e5' : x5 = (n5 : Int) := e5
  have e6' : x6 = (n6 : Int) := e6
  have e7' : x7 = (n7 : Int) := e7
  have e8' : x8 = (n8 : Int) := e8
  subst e1' e3' e4' e5' e6' e7' e8'
  exact enc1_nat ho hbs hn x0 n1 x2 n3 n4 n5 n6 n7 n8 h0 b1 h2 b3 b4 b5 b6 b7 b8


set_option maxRecDepth 100000 in
set_option maxHeartbeats 2000000 in
theorem enc2_any {w : World} {base n : Nat} {v : Value} {xs : List Nat} (ho : w.ownsRow base 5 1 v n (bv xs)) (hbs : base ≤ w.heap.size) (hn : n ≤ 80000000) (x0 x1 : Int) (h : MarkNat (x0, x1)) :
    Calls Tryz.prog 26 #[v, .agg #[.int .i64 x0, .int .i64 x1]] w fun e w' => ∃ v', e = .returned v' ∧ w'.ownsRow base 5 1 v' (n + (markC (x0, x1)).length) (bv (xs ++ markC (x0, x1))) ∧ Gb base w w' := by
  obtain ⟨h0, h1⟩ := h
  obtain ⟨n0, e0, b0⟩ := h0.nat
  have e0' : x0 = (n0 : Int) := e0
  subst e0'
  obtain ⟨n1, e1, b1⟩ := h1.nat
  have e1' : x1 = (n1 : Int) := e1
  subst e1'
  obtain ⟨a, c, rfl⟩ := own_slice ho
  have es : (w.alloc (.cells #[.int .i64 (n0 : Int), .int .i64 (n1 : Int)] 43)).heap.size = w.heap.size + 1 := Array.size_push _
  have hN := mnums_lit (w := w.alloc (.cells #[.int .i64 (n0 : Int), .int .i64 (n1 : Int)] 43)) (.inl (ho.alloc _)) (Nat.le_trans hbs (Gb.alloc w _ hbs).size) (by omega) [n0, n1] #[.int .i64 (n0 : Int), .int .i64 (n1 : Int)] 2 rfl rfl (fun z hz => by simp at hz; omega) (by decide) (by decide)
  rw [es] at hN
  have HN := Lib.hid hN
  have HGA := Lib.hid (Gb.alloc w (.cells #[.int .i64 (n0 : Int), .int .i64 (n1 : Int)] 43) hbs)
  have HE := Lib.hid (show markC ((n0 : Int), (n1 : Int)) = nI [n0, n1] from rfl)
  clear ho hbs hN es
  go_enter Tryz.func26, Tryz.ntmps26
  go_wp2_with fail
  refine HN.out.mono ?_
  rintro e w1 ⟨v1, rfl, ho1, hg1⟩
  have HO1 := Lib.hid ho1
  have HG1 := Lib.hid (HGA.out.trans hg1)
  clear ho1 hg1
  go_wp2_with fail
  go_ret
  exact ⟨_, rfl, by rw [HE.out]; exact HO1.out, HG1.out⟩

set_option maxRecDepth 100000 in
set_option maxHeartbeats 2000000 in
theorem enc3_any {w : World} {base n : Nat} {v : Value} {xs : List Nat} (ho : w.ownsRow base 5 1 v n (bv xs)) (hbs : base ≤ w.heap.size) (hn : n ≤ 80000000) (x0 x1 x2 : Int) (h : OwnNat (x0, x1, x2)) :
    Calls Tryz.prog 28 #[v, .agg #[.int .i64 x0, .int .i64 x1, .int .i64 x2]] w fun e w' => ∃ v', e = .returned v' ∧ w'.ownsRow base 5 1 v' (n + (ownC (x0, x1, x2)).length) (bv (xs ++ ownC (x0, x1, x2))) ∧ Gb base w w' := by
  obtain ⟨h0, h1, h2⟩ := h
  obtain ⟨n0, e0, b0⟩ := h0.nat
  have e0' : x0 = (n0 : Int) := e0
  subst e0'
  obtain ⟨n1, e1, b1⟩ := h1.nat
  have e1' : x1 = (n1 : Int) := e1
  subst e1'
  obtain ⟨n2, e2, b2⟩ := h2.nat
  have e2' : x2 = (n2 : Int) := e2
  subst e2'
  obtain ⟨a, c, rfl⟩ := own_slice ho
  have es : (w.alloc (.cells #[.int .i64 (n0 : Int), .int .i64 (n1 : Int), .int .i64 (n2 : Int)] 45)).heap.size = w.heap.size + 1 := Array.size_push _
  have hN := mnums_lit (w := w.alloc (.cells #[.int .i64 (n0 : Int), .int .i64 (n1 : Int), .int .i64 (n2 : Int)] 45)) (.inl (ho.alloc _)) (Nat.le_trans hbs (Gb.alloc w _ hbs).size) (by omega) [n0, n1, n2] #[.int .i64 (n0 : Int), .int .i64 (n1 : Int), .int .i64 (n2 : Int)] 3 rfl rfl (fun z hz => by simp at hz; omega) (by decide) (by decide)
  rw [es] at hN
  have HN := Lib.hid hN
  have HGA := Lib.hid (Gb.alloc w (.cells #[.int .i64 (n0 : Int), .int .i64 (n1 : Int), .int .i64 (n2 : Int)] 45) hbs)
  have HE := Lib.hid (show ownC ((n0 : Int), (n1 : Int), (n2 : Int)) = nI [n0, n1, n2] from rfl)
  clear ho hbs hN es
  go_enter Tryz.func28, Tryz.ntmps28
  go_wp2_with fail
  refine HN.out.mono ?_
  rintro e w1 ⟨v1, rfl, ho1, hg1⟩
  have HO1 := Lib.hid ho1
  have HG1 := Lib.hid (HGA.out.trans hg1)
  clear ho1 hg1
  go_wp2_with fail
  go_ret
  exact ⟨_, rfl, by rw [HE.out]; exact HO1.out, HG1.out⟩

end Go.Proofs.YtbdgcfimbblncaaGreatDoor
end PkMC1_16
