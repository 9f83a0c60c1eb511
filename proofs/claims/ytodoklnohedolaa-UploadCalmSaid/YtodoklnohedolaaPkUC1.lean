/- Texts put together by packtpl2.py: Kit, Twin, Own, Pace, Ug, Uh, Vec, SdP. -/
import Derived.Test.YtodoklnohedolaaRows
import Derived.WalkKit
import Derived.Lib.Hide
import Derived.Laws.BytesArg
import Derived.Lib.SlBytesRow
import Derived.Outline
import Derived.Laws.Strings
import Derived.Laws.AppendOwnNone
import Derived.WalkSpells
import Derived.WalkSmall
import Derived.Deep.QuietTactic
import Derived.BigQuiet
import Derived.Deep.RegionHeld3
import Derived.Laws.BitsAllLaws
import Derived.Deep.Onto
import Derived.Laws.CopyRow
import Derived.Deep.CutBlock
import Derived.Deep.RegionLaw
import Derived.Deep.Slices
import Derived.Deep.Fields
import Derived.SizedLaws
import Derived.Below
import Derived.OpenShut
import Derived.Laws.Cover1
import Derived.MapKept
section PkUC1_0
/- Small words for walks over slices of bytes: a slice of bytes wherever it lies, kept behind calls that leave old memory alone; its text; two of them compared. No condition beyond what each lemma names. -/
namespace Go.Proofs.Ytodoklnohedolaa
open Go.RowKit
set_option linter.unusedVariables false

theorem info_u8 : (Try.prog.info? 5).map (fun i => (i.zero, i.size, i.bytes)) = some (some (.int .u8 0), 1, 1) := by kernel_rfl

/-- bytes as values -/
def bv (l : List Nat) : List Value := l.map fun (x : Nat) => Value.int .u8 (x : Int)
theorem bv_length (l : List Nat) : (bv l).length = l.length := by simp [bv]
theorem bv_append (l r : List Nat) : bv (l ++ r) = bv l ++ bv r := by simp [bv]
theorem bv_get (l : List Nat) (i : Nat) (h : i < l.length) : (bv l)[i]? = some (Value.int .u8 ((l.getD i 0 : Nat) : Int)) := by simp [bv, h]
theorem bv_oneCell (l : List Nat) : ∀ u ∈ bv l, u.oneCell' = true := by
  intro u hu
  simp only [bv, List.mem_map] at hu
  obtain ⟨x, _, rfl⟩ := hu
  rfl

theorem one_oneCell {v : Value} (h : v.oneCell' = true) : ∀ u ∈ [v], u.oneCell' = true := by
  intro u hu
  simp at hu
  subst hu
  exact h

theorem one_src (w : World) (x : Value) (t : TypeId) : ∀ j u, [x][j]? = some u → (w.alloc (.cells #[x] t)).cell? ((⟨w.heap.size, 0, none⟩ : Addr).add j) = some u := by
  intro j u hj
  match j, hj with
  | 0, hj =>
    simp at hj
    subst hj
    simp [Addr.add]

/-- a slice of bytes: whatever its address where it has none -/
structure BytesAt (w : World) (a : Option Addr) (n c : Nat) (xs : List Nat) : Prop where
  len : xs.length = n
  cap : n ≤ c
  byte : ∀ x ∈ xs, x < 256
  reach : n ≤ 140737488351232
  capm : c ≤ 9223372036854775807
  nl : a = none → c = 0
  cells : 0 < n → ∃ b off, a = some ⟨b, off, none⟩ ∧ b < w.heap.size ∧ ∀ i, i < n → w.cell? ⟨b, off + i, none⟩ = some (.int .u8 ((xs.getD i 0 : Nat) : Int))

theorem BytesAt.keep {w w' : World} {a : Option Addr} {n c : Nat} {xs : List Nat} (h : BytesAt w a n c xs) {B : Nat} (hb : Below B w w') (hB : w.heap.size ≤ B) : BytesAt w' a n c xs :=
  ⟨h.len, h.cap, h.byte, h.reach, h.capm, h.nl, fun hn => by
    obtain ⟨b, off, ha, hlt, hc⟩ := h.cells hn
    exact ⟨b, off, ha, Nat.lt_of_lt_of_le hlt hb.size, fun i hi => (hb.cell (p := ⟨b, off + i, none⟩) (Nat.lt_of_lt_of_le hlt hB)).trans (hc i hi)⟩⟩

theorem BytesAt.kept {w w' : World} {a : Option Addr} {n c : Nat} {xs : List Nat} (h : BytesAt w a n c xs) (hb : Below w.heap.size w w') : BytesAt w' a n c xs := h.keep hb (Nat.le_refl _)
theorem BytesAt.alloc {w : World} {a : Option Addr} {n c : Nat} {xs : List Nat} (h : BytesAt w a n c xs) (o : Obj) : BytesAt (w.alloc o) a n c xs := h.kept ((Below.refl _ _).alloc (Nat.le_refl _) o)

theorem BytesAt.empty (w : World) (a : Option Addr) (c : Nat) (hc : c ≤ 9223372036854775807) (ha : a = none → c = 0) : BytesAt w a 0 c [] :=
  ⟨rfl, Nat.zero_le _, (fun x hx => by cases hx), Nat.zero_le _, hc, ha, fun h => absurd h (Nat.lt_irrefl 0)⟩

theorem BytesAt.upto {w : World} {a : Option Addr} {n c : Nat} {xs : List Nat} (h : BytesAt w a n c xs) (k : Nat) (hk : k ≤ n) : BytesAt w a k c (xs.take k) := by
  have hl := h.len
  have hc := h.cap
  have hr := h.reach
  refine ⟨by simp; omega, by omega, fun x hx => h.byte x (List.mem_of_mem_take hx), by omega, h.capm, h.nl, fun hp => ?_⟩
  obtain ⟨b, off, ha, hlt, hcell⟩ := h.cells (by omega)
  refine ⟨b, off, ha, hlt, fun i hi => ?_⟩
  rw [hcell i (by omega)]
  have : i < xs.length := by omega
  simp [hi]

theorem BytesAt.src {w : World} {ad : Addr} {n c : Nat} {xs : List Nat} (h : BytesAt w (some ad) n c xs) : ∀ j u, (bv xs)[j]? = some u → w.cell? (ad.add j) = some u := by
  intro j u hj
  have hlt : j < xs.length := by
    rcases Nat.lt_or_ge j xs.length with g | g
    · exact g
    · rw [List.getElem?_eq_none (by rw [bv_length]; exact g)] at hj; cases hj
  have hl := h.len
  obtain ⟨b, off, ha, _, hc⟩ := h.cells (by omega)
  cases ha
  have h4 : (⟨b, off, none⟩ : Addr).add j = ⟨b, off + j, none⟩ := by unfold Addr.add; split <;> simp_all
  rw [h4, hc j (by omega), ← bv_get xs j hlt, hj]

/-- what the call owns -/
theorem BytesAt.own {w : World} {base n : Nat} {v : Value} {xs : List Nat} (h : w.ownsRow base 5 1 v n (bv xs)) (hb : ∀ x ∈ xs, x < 256) (hp : 0 < n) (hr : n ≤ 140737488351232) :
    ∃ g c, v = .slice (some ⟨g, 0, none⟩) n c ∧ base ≤ g ∧ g < w.heap.size ∧ BytesAt w (some ⟨g, 0, none⟩) n c xs := by
  rcases h.2 with ⟨_, h0⟩ | ⟨g, cap, cur, rfl, hg, hh, hn, hcap, hsz, htake⟩
  · omega
  · have hlt : g < w.heap.size := (Array.getElem?_eq_some_iff.1 hh).1
    have hl : xs.length = n := by have := h.1; simpa [bv_length] using this
    refine ⟨g, cap, rfl, hg, hlt, hl, hn, hb, hr, (by unfold maxLen at hcap; exact hcap), (fun e => by cases e), fun _ => ⟨g, 0, rfl, hlt, fun i hi => ?_⟩⟩
    have := h.cellAt i (by omega)
    rw [Nat.zero_add, this, bv_get _ _ (by omega)]

/-- bytes written out in a new block -/
theorem BytesAt.lit (w : World) (cs : Array Value) (l : List Nat) (hcs : cs.toList = bv l) (hl : ∀ x ∈ l, x < 256) (hp : 0 < l.length) (hr : l.length ≤ 140737488351232) :
    BytesAt (w.alloc (.cells cs 5)) (some ⟨w.heap.size, 0, none⟩) l.length l.length l := by
  have hsz : cs.size = l.length := by rw [← Array.length_toList, hcs, bv_length]
  have h := World.ownsRow_lit (base := w.heap.size) (e := 5) (size := 1) w cs l.length (Nat.le_refl _) (by unfold maxLen; omega) (by omega)
  rw [hcs] at h
  obtain ⟨g, c, hv, _, _, hb⟩ := BytesAt.own h hl hp hr
  simp only [Value.slice.injEq, Option.some.injEq, Addr.mk.injEq, and_true, true_and] at hv
  obtain ⟨rfl, rfl⟩ := hv
  exact hb

/-- append of bytes, wherever they lie, to bytes that the call owns -/
theorem wpList_append_bytes {w : World} {ops : Array Oper} {rest : List Oper} {o : Oper} {a : Act} {Q : Exit → Act → World → Prop} (hgd : o.guard = none) (s x : Operand)
    (ho : o.op = .call { callee := .builtin .append, args := #[s, x], argTypes := #[28, 28] })
    (base : Nat) (v : Value) (n : Nat) (xs : List Nat) (hs : a.eval s = v) (hown : w.ownsRow base 5 1 v n (bv xs))
    (src : Option Addr) (m c : Nat) (ys : List Nat) (hx : a.eval x = .slice src m c) (hb : BytesAt w src m c ys)
    (h63 : n + m ≤ 140737488355328) (hbase : base ≤ w.heap.size)
    (h : ∀ v' w', w'.ownsRow base 5 1 v' (n + m) (bv (xs ++ ys)) → w.grownBy w' v.ownBlock → wpList Try.prog ops Q rest (a.put o.dst v') w') : wpList Try.prog ops Q (o :: rest) a w := by
  obtain ⟨i0, hi, hz0, hz1, hz2⟩ := info_parts info_u8
  rcases src with _ | ad
  · have hc := hb.nl rfl
    have hm : m = 0 := by have := hb.cap; omega
    subst hm
    subst hc
    have hy : ys = [] := List.eq_nil_of_length_eq_zero hb.len
    subst hy
    refine wpList_append_own_none hgd s x 28 ho base 5 i0 1 Try.underlying28 hi v n (bv xs) hs hown hx ?_
    exact h v w (by simpa using hown) (World.grownBy.refl _ _)
  · refine wpList_append_own w hgd s x 28 ho base 5 i0 (.int .u8 0) 1 1 Try.underlying28 hi hz0 hz1 hz2 rfl (by decide) v n (bv xs) hs hown ad m c (bv ys) hx (by rw [bv_length, hb.len]; omega) hb.src (bv_oneCell _) (by unfold maxLen; omega) (by omega) hbase ?_
    intro v' w' h1 h2 _
    exact h v' w' (by rw [bv_append]; exact h1) h2

/-- the text of bytes -/
def bs (xs : List Nat) : ByteArray := strOfNums (xs.map fun (x : Nat) => (x : Int))

theorem bs_inj {xs ys : List Nat} (hx : ∀ x ∈ xs, x < 256) (hy : ∀ y ∈ ys, y < 256) (h : (bs xs).data.toList = (bs ys).data.toList) : xs = ys := by
  have e : ∀ l : List Nat, (∀ x ∈ l, x < 256) → (bs l).data.toList.map UInt8.toNat = l := by
    intro l hl
    simp only [bs, strOfNums_data, List.map_map]
    conv => rhs; rw [← List.map_id l]
    apply List.map_congr_left
    intro x hx
    have := hl x hx
    simp [Nat.mod_eq_of_lt this]
  rw [← e xs hx, ← e ys hy, h]

theorem bs_toList (xs : List Nat) : (bs xs).toList = (bs xs).data.toList := ByteArray.toList_eq _
theorem bs_eq {xs ys : List Nat} (hx : ∀ x ∈ xs, x < 256) (hy : ∀ y ∈ ys, y < 256) : ((bs xs).toList == (bs ys).toList) = (xs == ys) := by
  rw [Bool.eq_iff_iff]
  simp only [beq_iff_eq, bs_toList]
  exact ⟨fun h => bs_inj hx hy h, fun h => by rw [h]⟩

theorem BytesAt.conv {w : World} {a : Option Addr} {n c : Nat} {xs : List Nat} (h : BytesAt w a n c xs) :
    (convert 28 9 (.slice a n c)).run Try.prog w = .ok (.string (bs xs)) w := by
  rcases Nat.eq_zero_or_pos n with h0 | hp
  · subst h0
    have hx : xs = [] := List.eq_nil_of_length_eq_zero h.len
    subst hx
    rw [run_convert_bytes_string w 28 9 5 _ 0 c Try.underlying28 Try.underlying5 Try.underlying9]
    cases a <;> simp [Conv.bytesToString, loadCells] <;> rfl
  · obtain ⟨b, off, rfl, _, hc⟩ := h.cells hp
    exact run_convert_bytes_arg (P := Try.prog) w 28 5 Try.underlying28 Try.underlying5 b off n c (xs.map fun (x : Nat) => (x : Int)) (by simpa using h.len) (fun i hi => by
      rw [hc i hi]
      have : i < xs.length := by have := h.len; omega
      simp [this]) 9 Try.underlying9

set_option maxHeartbeats 400000 in
theorem same_any {a a' : Option Addr} {n n' c c' : Nat} {xs ys : List Nat} {w : World} (hx : BytesAt w a n c xs) (hy : BytesAt w a' n' c' ys) :
    Calls Try.prog 19 #[.slice a n c, .slice a' n' c'] w fun e w' => e = .returned (.bool (xs == ys)) ∧ w = w' := by
  have h1 := hx.conv
  have h2 := hy.conv
  have he := bs_eq hx.byte hy.byte
  clear hx hy
  go_enter Try.func19, Try.ntmps19
  go_wp2
  go_ret
  exact ⟨by rw [← he]; rfl, rfl⟩

/-- what a walk is told of a slice of integers that came in: nil; or it leads to a row of 'cap' cells, the numbers 'zs', each fitting its kind; it takes at most the reach -/
def IsRow (k : IntKind) (sz : Nat) (w : World) (a : Option Addr) (len cap : Nat) (zs : List Int) : Prop :=
  (a = none ∧ len = 0 ∧ cap = 0 ∧ zs = []) ∨
  ∃ x, a = some x ∧ len ≤ cap ∧ cap ≤ maxLen ∧ zs.length = cap ∧ (∀ i, i < zs.length → w.cell? (x.add i) = some (.int k (zs.getD i 0))) ∧ (∀ n ∈ zs, (Lit.int k n).wf = true) ∧ cap * sz ≤ 140737488351232

theorem byte_of_wf {n : Int} (h : (Lit.int .u8 n).wf = true) : 0 ≤ n ∧ n ≤ 255 := by
  simpa [Lit.wf, IntKind.min, IntKind.max, IntKind.signed, IntKind.bits] using h

theorem IsRow.bytes {w : World} {a : Option Addr} {len cap : Nat} {zs : List Int} (h : IsRow .u8 1 w a len cap zs) : ∃ xs : List Nat, BytesAt w a len cap xs := by
  rcases h with ⟨rfl, rfl, rfl, rfl⟩ | ⟨x, rfl, hl, hm, hz, hcell, hwz, hr⟩
  · exact ⟨[], BytesAt.empty w none 0 (by omega) (fun _ => rfl)⟩
  · refine ⟨(zs.take len).map Int.toNat, by simp; omega, hl, ?_, by omega, by omega, (fun e => by cases e), fun hp => ?_⟩
    · intro y hy
      simp only [List.mem_map] at hy
      obtain ⟨z, hzm, rfl⟩ := hy
      have := byte_of_wf (hwz z (List.mem_of_mem_take hzm))
      omega
    · obtain ⟨b, off, spot⟩ := x
      have hc := hcell 0 (by omega)
      have hspot : spot = none := by simpa [Addr.add] using World.cell?_spot hc
      subst hspot
      refine ⟨b, off, rfl, ?_, fun i hi => ?_⟩
      · have := World.block_lt_of_cell? w _ hc
        simpa [Addr.add] using this
      · have h1 := hcell i (by omega)
        have h2 : i < zs.length := by omega
        have h3 := byte_of_wf (hwz zs[i] (List.getElem_mem h2))
        have h4 : (⟨b, off, none⟩ : Addr).add i = ⟨b, off + i, none⟩ := by unfold Addr.add; split <;> simp_all
        rw [h4] at h1
        rw [h1]
        have e1 : zs.getD i 0 = zs[i] := by simp [h2]
        have e2 : (((zs.take len).map Int.toNat).getD i 0 : Nat) = zs[i].toNat := by
          simp [h2, hi]
        rw [e1, e2]
        congr 2
        omega
end Go.Proofs.Ytodoklnohedolaa
end PkUC1_0
section PkUC1_1
/- Twin and bytes.Clone, walked; small words beside them. -/
namespace Go.Proofs.Ytodoklnohedolaa
open Go.RowKit
set_option linter.unusedVariables false

theorem u32_of_wf' {n : Int} (h : (Lit.int .u32 n).wf = true) : ∃ m : Nat, n = (m : Int) ∧ m < 4294967296 := by
  have : 0 ≤ n ∧ n ≤ 4294967295 := by simpa [Lit.wf, IntKind.min, IntKind.max, IntKind.signed, IntKind.bits] using h
  exact ⟨n.toNat, by omega, by omega⟩
theorem u64_of_wf {n : Int} (h : (Lit.int .u64 n).wf = true) : ∃ m : Nat, n = (m : Int) ∧ m < 18446744073709551616 := by
  have : 0 ≤ n ∧ n ≤ 18446744073709551615 := by simpa [Lit.wf, IntKind.min, IntKind.max, IntKind.signed, IntKind.bits] using h
  exact ⟨n.toNat, by omega, by omega⟩

theorem i64_of_wf {n : Int} (h : (Lit.int .i64 n).wf = true) : -9223372036854775808 ≤ n ∧ n ≤ 9223372036854775807 := by
  simpa [Lit.wf, IntKind.min, IntKind.max, IntKind.signed, IntKind.bits] using h

theorem BytesAt.drew {w : World} {a : Option Addr} {n c : Nat} {xs : List Nat} (h : BytesAt w a n c xs) : BytesAt w.drew a n c xs :=
  ⟨h.len, h.cap, h.byte, h.reach, h.capm, h.nl, h.cells⟩

theorem BytesAt.drewN {w : World} {a : Option Addr} {n c : Nat} {xs : List Nat} (h : BytesAt w a n c xs) (k : Nat) : BytesAt (w.drewN k) a n c xs :=
  h.kept ⟨rfl, rfl, rfl, Nat.le_refl _, fun _ _ => rfl⟩

theorem grown_drewN (w : World) (k : Nat) (r : Option Nat) : w.grownBy (w.drewN k) r := ⟨rfl, rfl, rfl, Nat.le_refl _, fun _ _ _ => rfl⟩
theorem _root_.Go.World.grownBy.trans' {a b c : World} {r : Option Nat} (h : a.grownBy b r) (k : b.grownBy c r) : a.grownBy c r :=
  ⟨k.os.trans h.os, k.tape.trans h.tape, k.output.trans h.output, Nat.le_trans h.size k.size, fun i hi hr => (k.block i (Nat.lt_of_lt_of_le hi h.size) hr).trans (h.block i hi hr)⟩

/-- a row of integers that came in -/
structure RowAt (k : IntKind) (w : World) (a : Option Addr) (n c : Nat) (zs : List Int) : Prop where
  cap : n ≤ c
  capm : c ≤ 9223372036854775807
  nl : a = none → c = 0
  cells : 0 < n → ∃ b off, a = some ⟨b, off, none⟩ ∧ b < w.heap.size ∧ ∀ i, i < n → w.cell? ⟨b, off + i, none⟩ = some (.int k (zs.getD i 0)) ∧ (Lit.int k (zs.getD i 0)).wf = true

theorem IsRow.at_ {k : IntKind} {s : Nat} {w : World} {a : Option Addr} {len cap : Nat} {zs : List Int} (h : IsRow k s w a len cap zs) : RowAt k w a len cap zs := by
  rcases h with ⟨rfl, rfl, rfl, rfl⟩ | ⟨x, rfl, hl, hm, hz, hcell, hwz, hr⟩
  · exact ⟨Nat.le_refl _, by omega, fun _ => rfl, fun h => absurd h (Nat.lt_irrefl 0)⟩
  · refine ⟨hl, by unfold maxLen at hm; exact hm, (fun e => by cases e), fun hp => ?_⟩
    obtain ⟨b, off, spot⟩ := x
    have hc := hcell 0 (by omega)
    have hspot : spot = none := by simpa [Addr.add] using World.cell?_spot hc
    subst hspot
    refine ⟨b, off, rfl, ?_, fun i hi => ?_⟩
    · have := World.block_lt_of_cell? w _ hc
      simpa [Addr.add] using this
    · have h1 := hcell i (by omega)
      have h4 : (⟨b, off, none⟩ : Addr).add i = ⟨b, off + i, none⟩ := by unfold Addr.add; split <;> simp_all
      rw [h4] at h1
      have h2 : i < zs.length := by omega
      refine ⟨h1, hwz _ ?_⟩
      have : zs.getD i 0 = zs[i] := by simp [h2]
      rw [this]
      exact List.getElem_mem h2

theorem BytesAt.ofOwn {w : World} {base n : Nat} {v : Value} {xs : List Nat} (h : w.ownsRow base 5 1 v n (bv xs)) (hb : ∀ x ∈ xs, x < 256) (hr : n ≤ 140737488351232) :
    ∃ a c, v = .slice a n c ∧ BytesAt w a n c xs ∧ (∀ b off s, a = some ⟨b, off, s⟩ → base ≤ b) := by
  rcases Nat.eq_zero_or_pos n with h0 | hp
  · subst h0
    have hx : xs = [] := by
      have := h.1
      simp only [Nat.zero_mul, bv_length] at this
      exact List.eq_nil_of_length_eq_zero this
    subst hx
    rcases h.2 with ⟨h1, _⟩ | ⟨g, cap, cur, rfl, hg, hh, hn, hcap, hsz, htake⟩
    · subst h1
      exact ⟨none, 0, rfl, BytesAt.empty _ _ _ (by omega) (fun _ => rfl), fun _ _ _ e => by cases e⟩
    · exact ⟨some ⟨g, 0, none⟩, cap, rfl, BytesAt.empty _ _ _ (by unfold maxLen at hcap; exact hcap) (fun e => by cases e), fun b off s e => by cases e; exact hg⟩
  · obtain ⟨g, c, rfl, hg, hlt, hba⟩ := BytesAt.own h hb hp hr
    exact ⟨some ⟨g, 0, none⟩, c, rfl, hba, fun b off s e => by cases e; exact hg⟩

set_option maxRecDepth 100000 in
set_option maxHeartbeats 1000000 in
theorem twin_any {a : Option Addr} {n c : Nat} {xs : List Nat} {w : World} (h : BytesAt w a n c xs) :
    Calls Try.prog 45 #[.slice a n c] w fun e w' => ∃ v, e = .returned v ∧ w'.ownsRow w.heap.size 5 1 v n (bv xs) ∧ v ≠ .slice none 0 0 ∧ Below w.heap.size w w' := by
  obtain ⟨i0, hi, hz0, hz1, hz2⟩ := info_parts info_u8
  have hown0 := World.ownsRow_lit (base := w.heap.size) (e := 5) (size := 1) w #[] 0 (Nat.le_refl _) (by unfold maxLen; omega) rfl
  have hreach := h.reach
  have hlen := h.len
  rcases a with _ | ad
  · have hc0 := h.nl rfl
    have hn0 : n = 0 := by have := h.cap; omega
    subst hn0
    subst hc0
    obtain rfl : xs = [] := List.eq_nil_of_length_eq_zero hlen
    clear h
    go_enter Try.func45, Try.ntmps45
    go_wp2_with (at_builtin; refine wpList_append_own_none rfl (.tmp 3) (.tmp 4) 28 rfl w.heap.size 5 i0 1 Try.underlying28 hi _ _ _ rfl hown0 rfl ?_)
    go_ret
    exact ⟨_, rfl, hown0, (fun e => by cases e), (Below.refl _ _).alloc (Nat.le_refl _) _⟩
  · have hsrc := (h.alloc (.cells #[] 5)).src
    have HS := Lib.hid hsrc
    clear hsrc h
    go_enter Try.func45, Try.ntmps45
    go_wp2_with (at_builtin; refine wpList_append_own _ rfl (.tmp 3) (.tmp 4) 28 rfl w.heap.size 5 i0 (.int .u8 0) 1 1 Try.underlying28 hi hz0 hz1 hz2 rfl (by decide) _ _ _ rfl hown0 ad n c (bv xs) rfl ?c1 HS.out (bv_oneCell _) ?c3 ?c4 (by simp) ?_)
    case c1 => simp [bv_length, hlen]
    case c3 => unfold maxLen; omega
    case c4 => omega
    intro v' w1 hown' hgrow hnil
    go_wp2
    go_ret
    refine ⟨v', rfl, ?_, ?_, ?_⟩
    · simpa using hown'
    · exact hnil
    · exact ((Below.refl _ _).alloc (Nat.le_refl _) _).grown hgrow (by simp) (fun k hk => by simp [Value.ownBlock] at hk; omega)

/-- as a slice of bytes wherever -/
theorem twin {a : Option Addr} {n c : Nat} {xs : List Nat} {w : World} (h : BytesAt w a n c xs) :
    Calls Try.prog 45 #[.slice a n c] w fun e w' => ∃ g k, e = .returned (.slice (some ⟨g, 0, none⟩) n k) ∧ w.heap.size ≤ g ∧ g < w'.heap.size ∧
      w'.ownsRow w.heap.size 5 1 (.slice (some ⟨g, 0, none⟩) n k) n (bv xs) ∧ BytesAt w' (some ⟨g, 0, none⟩) n k xs ∧ Below w.heap.size w w' := by
  refine (twin_any h).mono ?_
  rintro e w' ⟨v, rfl, hown, hnn, hb⟩
  rcases hown.2 with ⟨h0, _⟩ | ⟨g, cap, cur, rfl, hg, hh, hn, hcap, hsz, htake⟩
  · exact absurd h0 hnn
  · have hlt : g < w'.heap.size := (Array.getElem?_eq_some_iff.1 hh).1
    refine ⟨g, cap, rfl, hg, hlt, hown, ⟨h.len, hn, h.byte, h.reach, (by unfold maxLen at hcap; exact hcap), (fun e => by cases e), fun hp => ⟨g, 0, rfl, hlt, fun i hi => ?_⟩⟩, hb⟩
    have := hown.cellAt i (by omega)
    rw [Nat.zero_add, this, bv_get _ _ (by have := h.len; omega)]

set_option maxRecDepth 100000 in
set_option maxHeartbeats 1000000 in
theorem clone_any {a : Option Addr} {n c : Nat} {xs : List Nat} {w : World} (h : BytesAt w a n c xs) :
    Calls Try.prog 37 #[.slice a n c] w fun e w' => ∃ a' c', e = .returned (.slice a' n c') ∧ BytesAt w' a' n c' xs ∧ Below w.heap.size w w' ∧ (∀ b off s, a' = some ⟨b, off, s⟩ → w.heap.size ≤ b) := by
  have q : ∀ (w : World) (a : Option Addr) (n c n' c' : Nat), (binOp .eql 28 (.slice a n c) (.slice none n' c')).run Try.prog w = .ok (.bool a.isNone) w := fun w a n c n' c' => Lib.run_eql_slice_nil w _ _ a n c n' c' Try.underlying28
  have hown0 := World.ownsRow_lit (base := w.heap.size) (e := 5) (size := 1) w #[] 0 (Nat.le_refl _) (by unfold maxLen; omega) rfl
  have hreach := h.reach
  have hlen := h.len
  rcases a with _ | ad
  · have hc0 := h.nl rfl
    have hn0 : n = 0 := by have := h.cap; omega
    subst hn0
    subst hc0
    have HH := Lib.hid h
    clear h hlen
    go_enter Try.func37, Try.ntmps37
    go_wp2_with fail
    go_ret
    exact ⟨none, 0, rfl, HH.out, Below.refl _ _, fun _ _ _ e => by cases e⟩
  · have HH := Lib.hid h
    have ha := h.alloc (.cells #[] 5)
    have HA := Lib.hid ha
    clear h ha
    go_enter Try.func37, Try.ntmps37
    go_wp2_with (at_builtin; refine wpList_append_bytes rfl (.tmp 5) (.tmp 6) rfl w.heap.size _ _ [] rfl hown0 _ _ _ _ rfl HA.out (by omega) (by simp) ?_)
    intro v' w1 hown' hgrow
    have hown2 : w1.ownsRow w.heap.size 5 1 v' n (bv xs) := by simpa using hown'
    clear hown'
    have hb : Below w.heap.size w w1 := ((Below.refl _ _).alloc (Nat.le_refl _) _).grown hgrow (by simp) (fun k hk => by simp [Value.ownBlock] at hk; omega)
    go_wp2_with fail
    go_ret
    rcases hown2.2 with ⟨h0, h1⟩ | ⟨g, cap, cur, rfl, hg, hh, hn, hcap, hsz, htake⟩
    · subst h0
      subst h1
      obtain rfl : xs = [] := List.eq_nil_of_length_eq_zero hlen
      exact ⟨none, 0, rfl, BytesAt.empty _ _ _ (by omega) (fun _ => rfl), hb, fun _ _ _ e => by cases e⟩
    · have hlt : g < w1.heap.size := (Array.getElem?_eq_some_iff.1 hh).1
      refine ⟨some ⟨g, 0, none⟩, cap, rfl, ⟨hlen, hn, HH.out.byte, hreach, (by unfold maxLen at hcap; exact hcap), (fun e => by cases e), fun hp => ⟨g, 0, rfl, hlt, fun i hi => ?_⟩⟩, hb, fun b off s e => by cases e; exact hg⟩
      have := hown2.cellAt i (by omega)
      rw [Nat.zero_add, this, bv_get _ _ (by omega)]

end Go.Proofs.Ytodoklnohedolaa
end PkUC1_1
section PkUC1_2
/- Bytes that the call owns, kept behind calls that leave old memory alone; bytes.Clone gives such ones. -/
namespace Go.Proofs.Ytodoklnohedolaa
open Go.RowKit
set_option linter.unusedVariables false

theorem own_below {w w' : World} {base : Nat} {e : TypeId} {size : Nat} {v : Value} {n : Nat} {xs : List Value} (h : w.ownsRow base e size v n xs) (hb : Below w.heap.size w w') : w'.ownsRow base e size v n xs :=
  h.kept (row := none) ⟨hb.os, hb.tape, hb.output, hb.size, fun k hk _ => hb.block k hk⟩ (by cases hv : v.ownBlock <;> simp)

theorem own_nil_bytes (w : World) (base : Nat) : w.ownsRow base 5 1 (.slice none 0 0) 0 (bv []) := World.ownsRow_nil w base _ _

/-- what is appended to what a call owns: the frame stays below -/
theorem below_own {w w' : World} {B base : Nat} {e : TypeId} {size : Nat} {v : Value} {n : Nat} {xs : List Value} {w0 : World} (hb : Below B w0 w) (hown : w.ownsRow base e size v n xs) (hg : w.grownBy w' v.ownBlock) (hB : B ≤ base) (hs : B ≤ w.heap.size) : Below B w0 w' :=
  hb.grown hg hs (fun k hk => Nat.le_trans hB (hown.lt k hk).1)
/-- what a call owns of one type, and of another: not in one block -/
theorem own_ne2 {w : World} {base base' : Nat} {e e' : TypeId} {size size' : Nat} {v v' : Value} {n n' : Nat} {xs xs' : List Value} (h : w.ownsRow base e size v n xs) (h' : w.ownsRow base' e' size' v' n' xs') (hne : e ≠ e') : v.ownBlock = none ∨ v.ownBlock ≠ v'.ownBlock := by
  rcases h.2 with ⟨rfl, _⟩ | ⟨g, cap, cur, rfl, _, hg, _⟩
  · exact .inl rfl
  · rcases h'.2 with ⟨rfl, _⟩ | ⟨g', cap', cur', rfl, _, hg', _⟩
    · exact .inr (by simp [Value.ownBlock])
    · refine .inr fun e1 => ?_
      simp [Value.ownBlock] at e1
      subst e1
      rw [hg] at hg'
      simp at hg'
      exact hne hg'.2

/-- what was made later than another one's row is kept when that one is appended to -/
theorem own_other {w w' w0 : World} {base base' : Nat} {e e' : TypeId} {size size' : Nat} {v v' : Value} {n n' : Nat} {xs xs' : List Value} (h : w.ownsRow base e size v n xs) (hg : w.grownBy w' v'.ownBlock) (h' : w0.ownsRow base' e' size' v' n' xs') (hb : w0.heap.size ≤ base) : w'.ownsRow base e size v n xs := by
  refine h.kept hg ?_
  cases hv : v.ownBlock with
  | none => exact .inl rfl
  | some k =>
    refine .inr fun e => ?_
    have h1 := (h.lt k hv).1
    have h2 := (h'.lt k e.symm).2
    omega

set_option maxRecDepth 100000 in
set_option maxHeartbeats 1000000 in
theorem clone_own {a : Option Addr} {n c : Nat} {xs : List Nat} {w : World} (h : BytesAt w a n c xs) :
    Calls Try.prog 37 #[.slice a n c] w fun e w' => ∃ v, e = .returned v ∧ w'.ownsRow w.heap.size 5 1 v n (bv xs) ∧ Below w.heap.size w w' := by
  have q : ∀ (w : World) (a : Option Addr) (n c n' c' : Nat), (binOp .eql 28 (.slice a n c) (.slice none n' c')).run Try.prog w = .ok (.bool a.isNone) w := fun w a n c n' c' => Lib.run_eql_slice_nil w _ _ a n c n' c' Try.underlying28
  have hown0 := World.ownsRow_lit (base := w.heap.size) (e := 5) (size := 1) w #[] 0 (Nat.le_refl _) (by unfold maxLen; omega) rfl
  have hreach := h.reach
  have hlen := h.len
  rcases a with _ | ad
  · have hc0 := h.nl rfl
    have hn0 : n = 0 := by have := h.cap; omega
    subst hn0
    subst hc0
    obtain rfl : xs = [] := List.eq_nil_of_length_eq_zero hlen
    have HH := Lib.hid h
    clear h hlen
    go_enter Try.func37, Try.ntmps37
    go_wp2_with fail
    go_ret
    exact ⟨_, rfl, own_nil_bytes _ _, Below.refl _ _⟩
  · have HH := Lib.hid h
    have ha := h.alloc (.cells #[] 5)
    have HA := Lib.hid ha
    clear h ha
    go_enter Try.func37, Try.ntmps37
    go_wp2_with (at_builtin; refine wpList_append_bytes rfl (.tmp 5) (.tmp 6) rfl w.heap.size _ _ [] rfl hown0 _ _ _ _ rfl HA.out (by omega) (by simp) ?_)
    intro v' w1 hown' hgrow
    have hown2 : w1.ownsRow w.heap.size 5 1 v' n (bv xs) := by simpa using hown'
    clear hown'
    have hb : Below w.heap.size w w1 := ((Below.refl _ _).alloc (Nat.le_refl _) _).grown hgrow (by simp) (fun k hk => by simp [Value.ownBlock] at hk; omega)
    go_wp2_with fail
    go_ret
    exact ⟨v', rfl, hown2, hb⟩
end Go.Proofs.Ytodoklnohedolaa
end PkUC1_2
section PkUC1_3
/- Package pace, walked: of a pace that stands anywhere in a block. -/
namespace Go.Proofs.Ytodoklnohedolaa
open Go.RowKit
set_option linter.unusedVariables false

/-- what a call may turn that turns one block alone, and makes new ones -/
structure Turns (B : Nat) (w w' : World) : Prop where
  os : w'.os = w.os
  tape : w'.tape = w.tape
  output : w'.output = w.output
  size : w.heap.size ≤ w'.heap.size
  block : ∀ k, k < w.heap.size → k ≠ B → w'.heap[k]? = w.heap[k]?
theorem Turns.refl (B : Nat) (w : World) : Turns B w w := ⟨rfl, rfl, rfl, Nat.le_refl _, fun _ _ _ => rfl⟩
theorem Turns.trans {B : Nat} {a b c : World} (h : Turns B a b) (g : Turns B b c) : Turns B a c :=
  ⟨g.os.trans h.os, g.tape.trans h.tape, g.output.trans h.output, Nat.le_trans h.size g.size, fun k hk hne => (g.block k (Nat.lt_of_lt_of_le hk h.size) hne).trans (h.block k hk hne)⟩
theorem Turns.set {B : Nat} {a w : World} (h : Turns B a w) (i : Nat) (u : Value) : Turns B a (w.setCell ⟨B, i, none⟩ u) :=
  h.trans ⟨rfl, rfl, rfl, by simp [World.setCell], fun k hk hne => Below.heap_setCell _ _ _ _ hne⟩
theorem Turns.below {B : Nat} {a w w' : World} (h : Turns B a w) (hb : Below w.heap.size w w') : Turns B a w' :=
  h.trans ⟨hb.os, hb.tape, hb.output, hb.size, fun k hk _ => hb.block k hk⟩
theorem Turns.alloc {B : Nat} {a w : World} (h : Turns B a w) (o : Obj) : Turns B a (w.alloc o) := h.below ((Below.refl _ _).alloc (Nat.le_refl _) o)
theorem Turns.drewN {B : Nat} {a w : World} (h : Turns B a w) (q : Nat) : Turns B a (w.drewN q) := ⟨h.os, h.tape, h.output, h.size, h.block⟩
theorem Turns.drew {B : Nat} {a w : World} (h : Turns B a w) : Turns B a w.drew := ⟨h.os, h.tape, h.output, h.size, h.block⟩
/-- nothing old is turned, where the block is a new one -/
theorem Turns.old {B b : Nat} {a w w' : World} (h : Turns B w w') (ha : Below b a w) (hb : b ≤ B) (hs : b ≤ w.heap.size) : Below b a w' :=
  ha.trans ⟨h.os, h.tape, h.output, h.size, fun k hk => h.block k (by omega) (by omega)⟩
theorem heap_set {w : World} {B : Nat} {cur : Array Value} {t : TypeId} (g : w.heap[B]? = some (.cells cur t (0, 0))) (i : Nat) (u : Value) : (w.setCell ⟨B, i, none⟩ u).heap[B]? = some (.cells (cur.setIfInBounds i u) t (0, 0)) := heap_setCell_same w B i cur t u g
theorem cell_blk {w : World} {B : Nat} {cur : Array Value} {t : TypeId} (g : w.heap[B]? = some (.cells cur t (0, 0))) {i : Nat} {u : Value} (h : cur[i]? = some u) : w.cell? ⟨B, i, none⟩ = some u := by rw [cell_of_row w _ _ _ _ (0, 0) g]; exact h
/-- what was boxed, behind a call that leaves old memory alone -/
theorem box_cell {w w2 : World} {cs : Array Value} {t : TypeId} (hb : Below (w.alloc (.cells cs t)).heap.size (w.alloc (.cells cs t)) w2) {i : Nat} {v : Value} (h : cs[i]? = some v) : w2.cell? ⟨w.heap.size, i, none⟩ = some v := by
  have hblk := heap_alloc_new w (.cells cs t)
  have hlt : w.heap.size < (w.alloc (.cells cs t)).heap.size := (Array.getElem?_eq_some_iff.1 hblk).1
  rw [hb.cell (p := ⟨w.heap.size, i, none⟩) hlt, cell_of_row _ _ _ _ _ (0, 0) hblk]
  exact h
theorem fro_blk {w : World} {B : Nat} {cur : Array Value} {t : TypeId} (g : w.heap[B]? = some (.cells cur t (0, 0))) (i : Nat) : w.frozen? ⟨B, i, none⟩ = false := by simp [World.frozen?, g]

/-- may there be so many tries, and such a wait? -/
def fitsB (tr wt : Int) : Bool := decide (1 ≤ tr ∧ tr ≤ 8 ∧ 0 ≤ wt ∧ wt ≤ 1099511627776)
theorem fits_any (tr wt : Int) (w : World) :
    Calls Try.prog 35 #[.int .i64 tr, .int .i64 wt] w fun e w' => e = .returned (.bool (fitsB tr wt)) ∧ w = w' := by
  by_cases h1 : 1 ≤ tr
  · by_cases h2 : tr ≤ 8
    · by_cases h3 : 0 ≤ wt
      · by_cases h4 : wt ≤ 1099511627776
        · have HF := Lib.hid (show fitsB tr wt = true from decide_eq_true ⟨h1, h2, h3, h4⟩)
          go_enter Try.func35, Try.ntmps35
          go_wp2_with fail
          go_ret
          rw [HF.out]; exact ⟨rfl, rfl⟩
        · have HF := Lib.hid (show fitsB tr wt = false from decide_eq_false (by omega))
          have h4i : 1099511627776 < wt := by omega
          clear h4
          go_enter Try.func35, Try.ntmps35
          go_wp2_with fail
          go_ret
          rw [HF.out]; exact ⟨by simp; omega, rfl⟩
      · have HF := Lib.hid (show fitsB tr wt = false from decide_eq_false (by omega))
        have h3i : wt < 0 := by omega
        clear h3
        go_enter Try.func35, Try.ntmps35
        go_wp2_with fail
        go_ret
        rw [HF.out]; exact ⟨rfl, rfl⟩
    · have HF := Lib.hid (show fitsB tr wt = false from decide_eq_false (by omega))
      have h2i : 8 < tr := by omega
      clear h2
      go_enter Try.func35, Try.ntmps35
      go_wp2_with fail
      go_ret
      rw [HF.out]; exact ⟨rfl, rfl⟩
  · have HF := Lib.hid (show fitsB tr wt = false from decide_eq_false (by omega))
    have h1i : tr < 1 := by omega
    clear h1
    go_enter Try.func35, Try.ntmps35
    go_wp2_with fail
    go_ret
    rw [HF.out]; exact ⟨rfl, rfl⟩

theorem pacenew_any (tr wt : Int) (w : World) :
    Calls Try.prog 38 #[.int .i64 tr, .int .i64 wt] w fun e w' => e = .returned (.agg #[.int .i64 tr, .int .i64 wt, .int .i64 0, .int .i64 0, .bool false]) ∧ Below w.heap.size w w' := by
  have HB := Lib.hid ((Below.refl w.heap.size w).alloc (Nat.le_refl _) (.cells #[.int .i64 tr, .int .i64 wt, .int .i64 0, .int .i64 0, .bool false] 72))
  go_enter Try.func38, Try.ntmps38
  go_wp2_with fail
  exact bodyPost_ret (v := .agg #[.int .i64 tr, .int .i64 wt, .int .i64 0, .int .i64 0, .bool false]) (by simp [results, Try.results38, go_sem]) rfl ⟨rfl, HB.out⟩

theorem passes_net (w : World) :
    Calls Try.prog 74 #[.int .i64 10] w fun e w' => e = .returned (.bool true) ∧ w = w' := by
  go_enter Try.func74, Try.ntmps74
  go_wp2_with fail
  go_ret
  exact ⟨rfl, rfl⟩

theorem tell_yes {w : World} {B o : Nat} {cur : Array Value} {t : TypeId} {rd now : Int} (g : w.heap[B]? = some (.cells cur t (0, 0))) (ct : cur[o + 4]? = some (.bool false)) (cr : cur[o + 3]? = some (.int .i64 rd)) (h : rd ≤ now) :
    Calls Try.prog 51 #[.pointer (some ⟨B, o, none⟩), .int .i64 now] w fun e w' => e = .returned (.bool true) ∧ w'.heap[B]? = some (.cells (cur.setIfInBounds (o + 4) (.bool true)) t (0, 0)) ∧ Turns B w w' := by
  have c4 := cell_blk g ct
  have c3 := cell_blk g cr
  have f4 := fro_blk g (o + 4)
  have HG := Lib.hid (heap_set g (o + 4) (.bool true))
  have HT := Lib.hid ((Turns.refl B w).set (o + 4) (.bool true))
  clear g ct cr
  go_enter Try.func51, Try.ntmps51
  go_wp2_with fail
  go_ret
  exact ⟨rfl, HG.out, HT.out⟩
theorem tell_no {w : World} {B o : Nat} {cur : Array Value} {t : TypeId} {rd now : Int} (g : w.heap[B]? = some (.cells cur t (0, 0))) (ct : cur[o + 4]? = some (.bool false)) (cr : cur[o + 3]? = some (.int .i64 rd)) (h : now < rd) :
    Calls Try.prog 51 #[.pointer (some ⟨B, o, none⟩), .int .i64 now] w fun e w' => e = .returned (.bool false) ∧ w = w' := by
  have c4 := cell_blk g ct
  have c3 := cell_blk g cr
  clear g ct cr
  go_enter Try.func51, Try.ntmps51
  go_wp2_with fail
  go_ret
  exact ⟨rfl, rfl⟩
theorem taken_yes {w : World} {B o : Nat} {cur : Array Value} {t : TypeId} (g : w.heap[B]? = some (.cells cur t (0, 0))) (ct : cur[o + 4]? = some (.bool true)) :
    Calls Try.prog 52 #[.pointer (some ⟨B, o, none⟩)] w fun e w' => e = .returned (.bool true) ∧ w'.heap[B]? = some (.cells (cur.setIfInBounds (o + 4) (.bool false)) t (0, 0)) ∧ Turns B w w' := by
  have c4 := cell_blk g ct
  have f4 := fro_blk g (o + 4)
  have HG := Lib.hid (heap_set g (o + 4) (.bool false))
  have HT := Lib.hid ((Turns.refl B w).set (o + 4) (.bool false))
  clear g ct
  go_enter Try.func52, Try.ntmps52
  go_wp2_with fail
  go_ret
  exact ⟨rfl, HG.out, HT.out⟩
theorem fail_last {w : World} {B o : Nat} {cur : Array Value} {t : TypeId} {tr f now : Int} (g : w.heap[B]? = some (.cells cur t (0, 0))) (c0 : cur[o]? = some (.int .i64 tr)) (c2 : cur[o + 2]? = some (.int .i64 f)) (hf : 0 ≤ f ∧ f ≤ 100) (h : tr ≤ f + 1) :
    Calls Try.prog 83 #[.pointer (some ⟨B, o, none⟩), .int .i64 now] w fun e w' => e = .returned (.bool false) ∧ w'.heap[B]? = some (.cells (cur.setIfInBounds (o + 2) (.int .i64 (f + 1))) t (0, 0)) ∧ Turns B w w' := by
  have d2 := cell_blk g c2
  have f2 := fro_blk g (o + 2)
  have g2 := heap_set g (o + 2) (.int .i64 (f + 1))
  have HT := Lib.hid ((Turns.refl B w).set (o + 2) (.int .i64 (f + 1)))
  have hlt : o + 2 < cur.size := (Array.getElem?_eq_some_iff.1 c2).1
  have e0 := cell_blk g2 (i := o) (u := .int .i64 tr) (by rw [Array.getElem?_setIfInBounds_ne (by omega)]; exact c0)
  have e2 := cell_blk g2 (i := o + 2) (u := .int .i64 (f + 1)) (by rw [Array.getElem?_setIfInBounds_self_of_lt hlt])
  have HG := Lib.hid g2
  obtain ⟨hf0, hf1⟩ := hf
  clear g c0 c2 g2 hlt
  go_enter Try.func83, Try.ntmps83
  go_wp2_with fail
  go_quiet (fail)
  rename Nat => nq
  go_wp2_with fail
  go_ret
  exact ⟨rfl, HG.out, HT.out.drewN nq⟩
theorem pow_small {f : Nat} {wt : Int} (hf : f ≤ 10) (h0 : 0 ≤ wt) (h1 : wt ≤ 1000) : 0 ≤ wt * 2 ^ f ∧ wt * 2 ^ f ≤ 1024000 := by
  have hp : (2 : Nat) ^ f ≤ 2 ^ 10 := Nat.pow_le_pow_right (by omega) hf
  have hp2 : ((2 : Int) ^ f) = ((2 ^ f : Nat) : Int) := by simp
  rw [hp2]
  refine ⟨Int.mul_nonneg h0 (Int.natCast_nonneg _), ?_⟩
  calc wt * ((2 ^ f : Nat) : Int) ≤ 1000 * ((2 ^ f : Nat) : Int) := Int.mul_le_mul_of_nonneg_right h1 (Int.natCast_nonneg _)
    _ ≤ 1024000 := by omega
theorem fail_more {w : World} {B o : Nat} {cur : Array Value} {t : TypeId} {tr wt now : Int} {f : Nat} (g : w.heap[B]? = some (.cells cur t (0, 0))) (c0 : cur[o]? = some (.int .i64 tr)) (c1 : cur[o + 1]? = some (.int .i64 wt)) (c2 : cur[o + 2]? = some (.int .i64 (f : Int))) (c3 : (cur[o + 3]?).isSome) (hf : f ≤ 10) (hw : 0 ≤ wt ∧ wt ≤ 1000) (hn : 0 ≤ now ∧ now ≤ 10000000) (h : (f : Int) + 1 < tr) :
    Calls Try.prog 83 #[.pointer (some ⟨B, o, none⟩), .int .i64 now] w fun e w' => e = .returned (.bool true) ∧ w'.heap[B]? = some (.cells ((cur.setIfInBounds (o + 2) (.int .i64 ((f : Int) + 1))).setIfInBounds (o + 3) (.int .i64 (now + wt * 2 ^ f))) t (0, 0)) ∧ Turns B w w' := by
  have d2 := cell_blk g c2
  have f2 := fro_blk g (o + 2)
  have g2 := heap_set g (o + 2) (.int .i64 ((f : Int) + 1))
  have hlt : o + 2 < cur.size := (Array.getElem?_eq_some_iff.1 c2).1
  have e0 := cell_blk g2 (i := o) (u := .int .i64 tr) (by rw [Array.getElem?_setIfInBounds_ne (by omega)]; exact c0)
  have e1 := cell_blk g2 (i := o + 1) (u := .int .i64 wt) (by rw [Array.getElem?_setIfInBounds_ne (by omega)]; exact c1)
  have e2 := cell_blk g2 (i := o + 2) (u := .int .i64 ((f : Int) + 1)) (by rw [Array.getElem?_setIfInBounds_self_of_lt hlt])
  obtain ⟨u3, hu3⟩ := Option.isSome_iff_exists.1 c3
  have e3 := cell_blk g2 (i := o + 3) (u := u3) (by rw [Array.getElem?_setIfInBounds_ne (by omega)]; exact hu3)
  have f3 := fro_blk g2 (o + 3)
  obtain ⟨hw0, hw1⟩ := hw
  obtain ⟨hn0, hn1⟩ := hn
  have HG2 := Lib.hid g2
  have HT := Lib.hid ((Turns.refl B w).set (o + 2) (.int .i64 ((f : Int) + 1)))
  clear g c0 c1 c2 c3 g2 hlt hu3
  go_enter Try.func83, Try.ntmps83
  go_wp2_with fail
  go_quiet (fail)
  rename Nat => nq
  go_wp2_with fail
  go_region
  have hm := pow_small hf hw0 hw1
  have e1 : wrap64 (wt * 2 ^ f) = wt * 2 ^ f := IntWalk.wrap64_in _ (by omega)
  have e2 : wrap64 (now + wt * 2 ^ f) = now + wt * 2 ^ f := IntWalk.wrap64_in _ (by omega)
  rw [e1, e2]
  have HGF := Lib.hid (heap_set (w := (w.setCell ⟨B, o + 2, none⟩ (.int .i64 ((f : Int) + 1))).drewN (nq + 1)) HG2.out (o + 3) (.int .i64 (now + wt * 2 ^ f)))
  have HTF := Lib.hid ((HT.out.drewN (nq + 1)).set (o + 3) (.int .i64 (now + wt * 2 ^ f)))
  clear e1 e2 hm
  go_wp2_with fail
  go_ret
  exact ⟨rfl, HGF.out, HTF.out⟩
end Go.Proofs.Ytodoklnohedolaa
end PkUC1_3
section PkUC1_4
/- An upload, whatever becomes of its calls: what its functions turn, plainly, and each walked (XUp's general form). -/
namespace Go.Proofs.Ytodoklnohedolaa
open Go.RowKit
set_option linter.unusedVariables false

structure UG where
  key : ByteArray
  da : Option Addr
  dn : Nat
  dc : Nat
  sz : Int
  pt : Int
  nx : Int
  tr : Int
  wt : Int
  f : Nat
  rd : Int
  told : Bool
  st : Int
  id : Int
  has : Bool
  gone : Bool
  state : Int
  born : Int
def UG.A (u : UG) : Array Value :=
  #[.string u.key, .slice u.da u.dn u.dc, .int .i64 u.sz, .int .i64 u.pt, .int .i64 u.nx, .int .i64 u.tr, .int .i64 u.wt, .int .i64 (u.f : Int), .int .i64 u.rd, .bool u.told, .int .i64 u.st, .int .i64 u.id, .bool u.has, .bool u.gone, .int .i64 u.state, .int .i64 u.born]
def UAt (w : World) (B : Nat) (u : UG) : Prop := w.heap[B]? = some (.cells u.A 75 (0, 0))
def UG.ends (u : UG) (s : Int) : UG := { u with state := s, st := 5 }
def UG.give (u : UG) : UG := if u.has = true ∧ u.gone = false then { u with st := 4 } else u.ends 2
def UG.failF (u : UG) (p : Bool) (now : Int) : UG :=
  if p = true then
    if (u.f : Int) + 1 < u.tr then { u with f := u.f + 1, rd := now + u.wt * 2 ^ u.f } else UG.give { u with f := u.f + 1 }
  else u.give
def passB (e : Int) : Bool := (e == 10) || (e == 9)
def UG.doneF (u : UG) (b : Int) : UG := UG.ends { u with born := b } 1
def UG.createdF (u : UG) (er io now : Int) : UG := if er = 0 then { u with id := io, has := true, st := 1 } else u.failF (passB er) now
def UG.broughtF (u : UG) (er now : Int) : UG := if er = 0 then (if u.pt < u.nx + 1 then { u with nx := u.nx + 1, st := 2 } else { u with nx := u.nx + 1 }) else u.failF (passB er) now
def UG.completedF (u : UG) (er bo now : Int) : UG :=
  if er = 0 then u.doneF bo else if er = 10 then UG.failF { u with st := 3 } true now else if er = 7 then UG.failF { u with st := 3, gone := true } true now else u.failF (passB er) now
def UG.lookedF (u : UG) (er bo now : Int) (same : Bool) : UG :=
  if er = 0 ∧ same = true then u.doneF bo else if er = 7 ∧ u.gone = false then { u with st := 2 } else u.failF (passB er) now
def UG.takeF (u : UG) (er bo io now : Int) (same : Bool) : UG :=
  let u := { u with told := false }
  if u.st = 0 then u.createdF er io now else if u.st = 1 then u.broughtF er now else if u.st = 2 then u.completedF er bo now else if u.st = 3 then u.lookedF er bo now same else if u.st = 4 then u.ends 2 else u

theorem UAt.lt {w : World} {B : Nat} {u : UG} (h : UAt w B u) : B < w.heap.size := (Array.getElem?_eq_some_iff.1 h).1
theorem UAt.below {w w' : World} {B : Nat} {u : UG} (h : UAt w B u) (hb : Below w.heap.size w w') : UAt w' B u := (hb.block B h.lt).trans h

theorem passes_any2 (e : Int) (w : World) :
    Calls Try.prog 74 #[.int .i64 e] w fun r w' => r = .returned (.bool (passB e)) ∧ w = w' := by
  unfold passB
  by_cases h1 : e = 10
  · have hb : (e == 10) = true := by simp [h1]
    rw [hb, Bool.true_or]
    subst h1
    go_enter Try.func74, Try.ntmps74
    go_wp2_with fail
    go_ret
    exact ⟨rfl, rfl⟩
  · have hb : (e == 10) = false := by simp [h1]
    clear h1
    rw [hb, Bool.false_or]
    go_enter Try.func74, Try.ntmps74
    go_wp2_with fail
    go_ret
    exact ⟨rfl, rfl⟩

set_option maxRecDepth 100000 in
theorem uend_any {w : World} {B : Nat} {u : UG} (s : Int) (g : UAt w B u) :
    Calls Try.prog 57 #[.pointer (some ⟨B, 0, none⟩), .int .i64 s] w fun e w' => e = .returned (.tuple #[]) ∧ UAt w' B (u.ends s) ∧ Turns B w w' := by
  unfold UAt UG.A at g
  have c14 := cell_blk g (i := 14) rfl
  have f14 := fro_blk g 14
  have g1 := heap_set g 14 (.int .i64 s)
  have c10 := cell_blk g1 (i := 10) rfl
  have f10 := fro_blk g1 10
  have HG := Lib.hid (heap_set g1 10 (.int .i64 5))
  have HT := Lib.hid (((Turns.refl B w).set 14 (.int .i64 s)).set 10 (.int .i64 5))
  clear g g1
  go_enter Try.func57, Try.ntmps57
  go_wp2_with fail
  first | go_end0 | refine bodyPost_ret (results_none rfl _ _ _) rfl ?_
  exact ⟨rfl, HG.out, HT.out⟩

set_option maxRecDepth 100000 in
set_option maxHeartbeats 1000000 in
theorem ufail_any {w : World} {B : Nat} {u : UG} {p : Bool} {now : Int} (g : UAt w B u) (hf : u.f ≤ 10) (hw : 0 ≤ u.wt ∧ u.wt ≤ 1000) (hn : 0 ≤ now ∧ now ≤ 10000000) :
    Calls Try.prog 73 #[.pointer (some ⟨B, 0, none⟩), .bool p, .int .i64 now] w fun e w' => e = .returned (.tuple #[]) ∧ UAt w' B (u.failF p now) ∧ Turns B w w' := by
  obtain ⟨key, da, dn, dc, sz, pt, nx, tr, wt, f, rd, told, st, id, has, gone, state, born⟩ := u
  simp only at hf hw
  cases p with
  | true =>
    by_cases hl : (f : Int) + 1 < tr
    · have HR := Lib.hid (show UG.failF ⟨key, da, dn, dc, sz, pt, nx, tr, wt, f, rd, told, st, id, has, gone, state, born⟩ true now = ⟨key, da, dn, dc, sz, pt, nx, tr, wt, f + 1, now + wt * 2 ^ f, told, st, id, has, gone, state, born⟩ from by
        unfold UG.failF; rw [if_pos rfl, if_pos hl])
      have HF := Lib.hid (fail_more (o := 5) (show w.heap[B]? = _ from g) rfl rfl rfl rfl hf hw hn hl)
      clear g hl
      go_enter Try.func73, Try.ntmps73
      go_wp2_with fail
      refine HF.out.mono ?_
      rintro e w2 ⟨rfl, hg2, ht2⟩
      have HG := Lib.hid hg2
      have HT := Lib.hid ht2
      clear hg2 ht2
      go_wp2_with fail
      first | go_end0 | refine bodyPost_ret (results_none rfl _ _ _) rfl ?_
      refine ⟨rfl, ?_, HT.out⟩
      rw [HR.out]
      exact HG.out
    · have HR := Lib.hid (show UG.failF ⟨key, da, dn, dc, sz, pt, nx, tr, wt, f, rd, told, st, id, has, gone, state, born⟩ true now = UG.give ⟨key, da, dn, dc, sz, pt, nx, tr, wt, f + 1, rd, told, st, id, has, gone, state, born⟩ from by
        unfold UG.failF; rw [if_pos rfl, if_neg hl])
      have HF := Lib.hid (fail_last (o := 5) (now := now) (f := (f : Int)) (tr := tr) (show w.heap[B]? = _ from g) rfl rfl (by omega) (by omega))
      clear g hl
      go_enter Try.func73, Try.ntmps73
      go_wp2_with fail
      refine HF.out.mono ?_
      rintro e w2 ⟨rfl, hg2, ht2⟩
      have hg3 : UAt w2 B ⟨key, da, dn, dc, sz, pt, nx, tr, wt, f + 1, rd, told, st, id, has, gone, state, born⟩ := hg2
      have HT := Lib.hid ht2
      have HE := Lib.hid (uend_any 2 hg3)
      have c12 := cell_blk hg3 (i := 12) (u := .bool has) rfl
      have c13 := cell_blk hg3 (i := 13) (u := .bool gone) rfl
      have c10 := cell_blk hg3 (i := 10) (u := .int .i64 st) rfl
      have f10 := fro_blk hg3 10
      have HS := Lib.hid (heap_set hg3 10 (.int .i64 4))
      have HT4 := Lib.hid (ht2.set 10 (.int .i64 4))
      clear hg2 ht2 hg3
      cases has <;> cases gone <;> go_wp2_with fail
      all_goals first
        | (refine HE.out.mono ?_
           rintro e w3 ⟨rfl, hg3, ht3⟩
           have HG3 := Lib.hid hg3
           have HT3 := Lib.hid (HT.out.trans ht3)
           clear hg3 ht3
           go_wp2_with fail
           first | go_end0 | refine bodyPost_ret (results_none rfl _ _ _) rfl ?_
           refine ⟨rfl, ?_, HT3.out⟩
           rw [HR.out]
           exact HG3.out)
        | (first | go_end0 | refine bodyPost_ret (results_none rfl _ _ _) rfl ?_
           refine ⟨rfl, ?_, HT4.out⟩
           rw [HR.out]
           exact HS.out)
  | false =>
    have hg3 : UAt w B ⟨key, da, dn, dc, sz, pt, nx, tr, wt, f, rd, told, st, id, has, gone, state, born⟩ := g
    have HE := Lib.hid (uend_any 2 hg3)
    have c12 := cell_blk hg3 (i := 12) (u := .bool has) rfl
    have c13 := cell_blk hg3 (i := 13) (u := .bool gone) rfl
    have c10 := cell_blk hg3 (i := 10) (u := .int .i64 st) rfl
    have f10 := fro_blk hg3 10
    have HS := Lib.hid (heap_set hg3 10 (.int .i64 4))
    have HT4 := Lib.hid ((Turns.refl B w).set 10 (.int .i64 4))
    clear g hg3
    have HR := Lib.hid (show UG.failF ⟨key, da, dn, dc, sz, pt, nx, tr, wt, f, rd, told, st, id, has, gone, state, born⟩ false now = UG.give ⟨key, da, dn, dc, sz, pt, nx, tr, wt, f, rd, told, st, id, has, gone, state, born⟩ from rfl)
    cases has <;> cases gone
    all_goals
      go_enter Try.func73, Try.ntmps73
      go_wp2_with fail
    all_goals first
      | (refine HE.out.mono ?_
         rintro e w3 ⟨rfl, hg3, ht3⟩
         have HG3 := Lib.hid hg3
         have HT3 := Lib.hid ht3
         clear hg3 ht3
         go_wp2_with fail
         first | go_end0 | refine bodyPost_ret (results_none rfl _ _ _) rfl ?_
         exact ⟨rfl, HG3.out, HT3.out⟩)
      | (first | go_end0 | refine bodyPost_ret (results_none rfl _ _ _) rfl ?_
         exact ⟨rfl, HS.out, HT4.out⟩)

theorem heap_alloc_newG (w : World) (o : Obj) : (w.alloc o).heap[w.heap.size]? = some o := heap_alloc_new w o
theorem UAt.refl {w : World} {B : Nat} {u v : UG} (h : UAt w B u) (e : u = v) : UAt w B v := e ▸ h

set_option maxRecDepth 100000 in
theorem udone_any {w : World} {B : Nat} {u : UG} (g : UAt w B u) {er v bo io now : Int} {d l : Value} {mo : Bool} :
    Calls Try.prog 75 #[.pointer (some ⟨B, 0, none⟩), .agg #[.int .i64 er, d, .int .i64 v, .int .i64 bo, .int .i64 io, l, .bool mo]] w fun e w' => e = .returned (.tuple #[]) ∧ UAt w' B (u.doneF bo) ∧ Turns B w w' := by
  obtain ⟨w1, hw1⟩ : ∃ w1, w1 = w.alloc (.cells #[.int .i64 er, d, .int .i64 v, .int .i64 bo, .int .i64 io, l, .bool mo] 36) := ⟨_, rfl⟩
  have hb1 : Below w.heap.size w w1 := by rw [hw1]; exact (Below.refl _ _).alloc (Nat.le_refl _) _
  obtain ⟨R, hR⟩ : ∃ R, R = w.heap.size := ⟨_, rfl⟩
  have gr : w1.heap[R]? = some (.cells #[.int .i64 er, d, .int .i64 v, .int .i64 bo, .int .i64 io, l, .bool mo] 36 (0, 0)) := by rw [hw1, hR]; exact heap_alloc_newG w _
  have g1 := g.below hb1
  have hBR : B < R := by rw [hR]; exact g.lt
  have HT := Lib.hid ((Turns.refl B w).below hb1)
  have HGR := Lib.hid gr
  have HW1 := Lib.hid hw1
  have HRE := Lib.hid hR
  have HLT := Lib.hid (show R < w1.heap.size from (Array.getElem?_eq_some_iff.1 gr).1)
  have r3 := cell_blk gr (i := 3) (u := .int .i64 bo) rfl
  have c15 := cell_blk g1 (i := 15) (u := .int .i64 u.born) rfl
  have f15 := fro_blk g1 15
  have g2 : UAt (w1.setCell ⟨B, 15, none⟩ (.int .i64 bo)) B { u with born := bo } := heap_set g1 15 (.int .i64 bo)
  have HE := Lib.hid (uend_any 1 g2)
  have HT2 := Lib.hid (HT.out.set 15 (.int .i64 bo))
  clear g g1 g2 gr hb1 hw1 hR hBR
  go_enter Try.func75, Try.ntmps75
  go_upto_region 1 with fail
  rw [← HW1.out, ← HRE.out]
  go_wp2_with fail
  refine HE.out.mono ?_
  rintro e w3 ⟨rfl, hg3, ht3⟩
  have HG3 := Lib.hid hg3
  have HT3 := Lib.hid (HT2.out.trans ht3)
  clear hg3 ht3
  go_wp2_with fail
  first | go_end0 | refine bodyPost_ret (results_none rfl _ _ _) rfl ?_
  exact ⟨rfl, HG3.out, HT3.out⟩

set_option maxRecDepth 100000 in
set_option maxHeartbeats 1000000 in
theorem ucreated_any {w : World} {B : Nat} {u : UG} (g : UAt w B u) {er v bo io now : Int} {d l : Value} {mo : Bool} (hf : u.f ≤ 10) (hn : 0 ≤ now ∧ now ≤ 10000000) (hw : er ≠ 0 → 0 ≤ u.wt ∧ u.wt ≤ 1000) :
    Calls Try.prog 53 #[.pointer (some ⟨B, 0, none⟩), .agg #[.int .i64 er, d, .int .i64 v, .int .i64 bo, .int .i64 io, l, .bool mo], .int .i64 now] w fun e w' => e = .returned (.tuple #[]) ∧ UAt w' B (u.createdF er io now) ∧ Turns B w w' := by
  obtain ⟨w1, hw1⟩ : ∃ w1, w1 = w.alloc (.cells #[.int .i64 er, d, .int .i64 v, .int .i64 bo, .int .i64 io, l, .bool mo] 36) := ⟨_, rfl⟩
  have hb1 : Below w.heap.size w w1 := by rw [hw1]; exact (Below.refl _ _).alloc (Nat.le_refl _) _
  obtain ⟨R, hR⟩ : ∃ R, R = w.heap.size := ⟨_, rfl⟩
  have gr : w1.heap[R]? = some (.cells #[.int .i64 er, d, .int .i64 v, .int .i64 bo, .int .i64 io, l, .bool mo] 36 (0, 0)) := by rw [hw1, hR]; exact heap_alloc_newG w _
  have g1 := g.below hb1
  have hBR : B < R := by rw [hR]; exact g.lt
  have HT := Lib.hid ((Turns.refl B w).below hb1)
  have HGR := Lib.hid gr
  have HW1 := Lib.hid hw1
  have HRE := Lib.hid hR
  have HLT := Lib.hid (show R < w1.heap.size from (Array.getElem?_eq_some_iff.1 gr).1)
  have r0 := cell_blk gr (i := 0) (u := .int .i64 er) rfl
  have HP := Lib.hid (passes_any2 er w1)
  by_cases hz : er = 0
  · have z0 : (er == 0) = true := by simp [hz]
    have r4 := cell_blk gr (i := 4) (u := .int .i64 io) rfl
    have c11 := cell_blk g1 (i := 11) (u := .int .i64 u.id) rfl
    have f11 := fro_blk g1 11
    have g2 := heap_set g1 11 (.int .i64 io)
    have c12 := cell_blk g2 (i := 12) (u := .bool u.has) rfl
    have f12 := fro_blk g2 12
    have g3 := heap_set g2 12 (.bool true)
    have c10 := cell_blk g3 (i := 10) (u := .int .i64 u.st) rfl
    have f10 := fro_blk g3 10
    have HG := Lib.hid (show UAt _ B (u.createdF er io now) from UAt.refl (u := { u with id := io, has := true, st := 1 }) (heap_set g3 10 (.int .i64 1)) (by unfold UG.createdF; rw [if_pos hz]))
    have HT2 := Lib.hid (((HT.out.set 11 (.int .i64 io)).set 12 (.bool true)).set 10 (.int .i64 1))
    clear g g1 g2 g3 gr hb1 hw1 hR hBR hz
    go_enter Try.func53, Try.ntmps53
    go_upto_region 1 with fail
    rw [← HW1.out, ← HRE.out]
    go_wp2_with fail
    first | go_end0 | refine bodyPost_ret (results_none rfl _ _ _) rfl ?_
    exact ⟨rfl, HG.out, HT2.out⟩
  · have z0 : (er == 0) = false := by simp [hz]
    have HR := Lib.hid (show u.createdF er io now = u.failF (passB er) now from by unfold UG.createdF; rw [if_neg hz])
    have HFA := Lib.hid (ufail_any (p := passB er) (now := now) g1 hf (hw hz) hn)
    clear g g1 gr hb1 hw1 hR hBR hz
    go_enter Try.func53, Try.ntmps53
    go_upto_region 1 with fail
    rw [← HW1.out, ← HRE.out]
    go_wp2_with fail
    refine HP.out.mono ?_
    rintro e w2 ⟨rfl, hw2⟩
    subst hw2
    go_wp2_with fail
    refine HFA.out.mono ?_
    rintro e w3 ⟨rfl, hg3, ht3⟩
    have HG3 := Lib.hid hg3
    have HT3 := Lib.hid (HT.out.trans ht3)
    clear hg3 ht3
    go_wp2_with fail
    first | go_end0 | refine bodyPost_ret (results_none rfl _ _ _) rfl ?_
    refine ⟨rfl, ?_, HT3.out⟩
    rw [HR.out]
    exact HG3.out
end Go.Proofs.Ytodoklnohedolaa
end PkUC1_4
section PkUC1_5
/- An upload's replies, walked: brought, completed, looked, Take. Written by genug.py. -/
namespace Go.Proofs.Ytodoklnohedolaa
open Go.RowKit
set_option linter.unusedVariables false

set_option maxRecDepth 100000 in
set_option maxHeartbeats 1000000 in
theorem ubrought_any {w : World} {B : Nat} {u : UG} (g : UAt w B u) {er v bo io now : Int} {d l : Value} {mo : Bool} (hf : u.f ≤ 10) (hn : 0 ≤ now ∧ now ≤ 10000000) (hw : er ≠ 0 → 0 ≤ u.wt ∧ u.wt ≤ 1000) (hx : 0 ≤ u.nx ∧ u.nx ≤ 1000000) :
    Calls Try.prog 54 #[.pointer (some ⟨B, 0, none⟩), .agg #[.int .i64 er, d, .int .i64 v, .int .i64 bo, .int .i64 io, l, .bool mo], .int .i64 now] w fun e w' => e = .returned (.tuple #[]) ∧ UAt w' B (u.broughtF er now) ∧ Turns B w w' := by
  obtain ⟨w1, hw1⟩ : ∃ w1, w1 = w.alloc (.cells #[.int .i64 er, d, .int .i64 v, .int .i64 bo, .int .i64 io, l, .bool mo] 36) := ⟨_, rfl⟩
  have hb1 : Below w.heap.size w w1 := by rw [hw1]; exact (Below.refl _ _).alloc (Nat.le_refl _) _
  obtain ⟨R, hR⟩ : ∃ R, R = w.heap.size := ⟨_, rfl⟩
  have gr : w1.heap[R]? = some (.cells #[.int .i64 er, d, .int .i64 v, .int .i64 bo, .int .i64 io, l, .bool mo] 36 (0, 0)) := by rw [hw1, hR]; exact heap_alloc_newG w _
  have g1 := g.below hb1
  have hBR : B ≠ R := by have := g.lt; omega
  have HT := Lib.hid ((Turns.refl B w).below hb1)
  have HW1 := Lib.hid hw1
  have HRE := Lib.hid hR
  have hRl : R < w1.heap.size := (Array.getElem?_eq_some_iff.1 gr).1
  have r0 := cell_blk gr (i := 0) (u := .int .i64 er) rfl
  have HP := Lib.hid (passes_any2 er w1)
  by_cases hz : er = 0
  · have z0 : (er == 0) = true := by simp [hz]
    have wi : IntKind.i64.wrap (u.nx + 1) = u.nx + 1 := IntWalk.i64_in _ (by omega)
    have c4 := cell_blk g1 (i := 4) (u := .int .i64 u.nx) rfl
    have f4 := fro_blk g1 4
    have g2 := heap_set g1 4 (.int .i64 (u.nx + 1))
    have d4 := cell_blk g2 (i := 4) (u := .int .i64 (u.nx + 1)) rfl
    have d3 := cell_blk g2 (i := 3) (u := .int .i64 u.pt) rfl
    have d10 := cell_blk g2 (i := 10) (u := .int .i64 u.st) rfl
    have f10 := fro_blk g2 10
    have HT2 := Lib.hid (HT.out.set 4 (.int .i64 (u.nx + 1)))
    have HT3 := Lib.hid (HT2.out.set 10 (.int .i64 2))
    by_cases hp : u.pt < u.nx + 1
    · have HG := Lib.hid (show UAt _ B (u.broughtF er now) from UAt.refl (u := { u with nx := u.nx + 1, st := 2 }) (heap_set g2 10 (.int .i64 2)) (by unfold UG.broughtF; rw [if_pos hz, if_pos hp]))
      clear g g1 gr hb1 hw1 hR hBR hRl g2 hz
      go_enter Try.func54, Try.ntmps54
      go_upto_region 1 with fail
      rw [← HW1.out, ← HRE.out]
      go_upto_region 4 with fail
      go_region
      go_wp2_with fail
      first | go_end0 | refine bodyPost_ret (results_none rfl _ _ _) rfl ?_
      exact ⟨rfl, HG.out, HT3.out.drew⟩
    · have HG := Lib.hid (show UAt _ B (u.broughtF er now) from UAt.refl (u := { u with nx := u.nx + 1 }) g2 (by unfold UG.broughtF; rw [if_pos hz, if_neg hp]))
      clear g g1 gr hb1 hw1 hR hBR hRl g2 hz
      go_enter Try.func54, Try.ntmps54
      go_upto_region 1 with fail
      rw [← HW1.out, ← HRE.out]
      go_upto_region 4 with fail
      go_region
      go_wp2_with fail
      first | go_end0 | refine bodyPost_ret (results_none rfl _ _ _) rfl ?_
      exact ⟨rfl, HG.out, HT2.out.drew⟩
  · have z0 : (er == 0) = false := by simp [hz]
    have HR := Lib.hid (show u.broughtF er now = u.failF (passB er) now from by unfold UG.broughtF; rw [if_neg hz])
    have HFA := Lib.hid (ufail_any (p := passB er) (now := now) g1 hf (hw hz) hn)
    clear g g1 gr hb1 hw1 hR hBR hRl hz
    go_enter Try.func54, Try.ntmps54
    go_upto_region 1 with fail
    rw [← HW1.out, ← HRE.out]
    go_wp2_with fail
    refine HP.out.mono ?_
    rintro e w2 ⟨rfl, hw2⟩
    subst hw2
    go_wp2_with fail
    refine HFA.out.mono ?_
    rintro e w3 ⟨rfl, hg3, ht3⟩
    have HG3 := Lib.hid hg3
    have HT3 := Lib.hid (HT.out.trans ht3)
    clear hg3 ht3
    go_wp2_with fail
    first | go_end0 | refine bodyPost_ret (results_none rfl _ _ _) rfl ?_
    refine ⟨rfl, ?_, HT3.out⟩
    rw [HR.out]
    exact HG3.out

set_option maxRecDepth 100000 in
set_option maxHeartbeats 1000000 in
theorem ucompleted_any {w : World} {B : Nat} {u : UG} (g : UAt w B u) {er v bo io now : Int} {d l : Value} {mo : Bool} (hf : u.f ≤ 10) (hn : 0 ≤ now ∧ now ≤ 10000000) (hw : er ≠ 0 → 0 ≤ u.wt ∧ u.wt ≤ 1000) :
    Calls Try.prog 55 #[.pointer (some ⟨B, 0, none⟩), .agg #[.int .i64 er, d, .int .i64 v, .int .i64 bo, .int .i64 io, l, .bool mo], .int .i64 now] w fun e w' => e = .returned (.tuple #[]) ∧ UAt w' B (u.completedF er bo now) ∧ Turns B w w' := by
  obtain ⟨w1, hw1⟩ : ∃ w1, w1 = w.alloc (.cells #[.int .i64 er, d, .int .i64 v, .int .i64 bo, .int .i64 io, l, .bool mo] 36) := ⟨_, rfl⟩
  have hb1 : Below w.heap.size w w1 := by rw [hw1]; exact (Below.refl _ _).alloc (Nat.le_refl _) _
  obtain ⟨R, hR⟩ : ∃ R, R = w.heap.size := ⟨_, rfl⟩
  have gr : w1.heap[R]? = some (.cells #[.int .i64 er, d, .int .i64 v, .int .i64 bo, .int .i64 io, l, .bool mo] 36 (0, 0)) := by rw [hw1, hR]; exact heap_alloc_newG w _
  have g1 := g.below hb1
  have hBR : B ≠ R := by have := g.lt; omega
  have HT := Lib.hid ((Turns.refl B w).below hb1)
  have HW1 := Lib.hid hw1
  have HRE := Lib.hid hR
  have hRl : R < w1.heap.size := (Array.getElem?_eq_some_iff.1 gr).1
  have r0 := cell_blk gr (i := 0) (u := .int .i64 er) rfl
  have HP := Lib.hid (passes_any2 er w1)
  by_cases hz : er = 0
  · have z0 : (er == 0) = true := by simp [hz]
    have r1 := cell_blk gr (i := 1) (u := d) rfl
    have r2 := cell_blk gr (i := 2) (u := .int .i64 v) rfl
    have r3 := cell_blk gr (i := 3) (u := .int .i64 bo) rfl
    have r4 := cell_blk gr (i := 4) (u := .int .i64 io) rfl
    have r5 := cell_blk gr (i := 5) (u := l) rfl
    have r6 := cell_blk gr (i := 6) (u := .bool mo) rfl
    have HR := Lib.hid (show u.completedF er bo now = u.doneF bo from by unfold UG.completedF; rw [if_pos hz])
    have HFA := Lib.hid (udone_any g1 (now := now) (er := er) (v := v) (bo := bo) (io := io) (d := d) (l := l) (mo := mo))
    clear g g1 gr hb1 hw1 hR hBR hRl hz
    go_enter Try.func55, Try.ntmps55
    go_upto_region 1 with fail
    rw [← HW1.out, ← HRE.out]
    go_wp2_with fail
    refine HFA.out.mono ?_
    rintro e w3 ⟨rfl, hg3, ht3⟩
    have HG3 := Lib.hid hg3
    have HT3 := Lib.hid (HT.out.trans ht3)
    clear hg3 ht3
    go_wp2_with fail
    first | go_end0 | refine bodyPost_ret (results_none rfl _ _ _) rfl ?_
    refine ⟨rfl, ?_, HT3.out⟩
    rw [HR.out]
    exact HG3.out
  · have z0 : (er == 0) = false := by simp [hz]
    have c10 := cell_blk g1 (i := 10) (u := .int .i64 u.st) rfl
    have f10 := fro_blk g1 10
    have g2 : UAt (w1.setCell ⟨B, 10, none⟩ (.int .i64 3)) B { u with st := 3 } := heap_set g1 10 (.int .i64 3)
    have HT2 := Lib.hid (HT.out.set 10 (.int .i64 3))
    by_cases h10 : er = 10
    · have z1 : (er == 10) = true := by simp [h10]
      have HR := Lib.hid (show u.completedF er bo now = UG.failF { u with st := 3 } true now from by unfold UG.completedF; rw [if_neg hz, if_pos h10])
      have HFA := Lib.hid (ufail_any (p := true) (now := now) g2 hf (hw hz) hn)
      clear g g1 gr hb1 hw1 hR hBR hRl g2 hz h10
      go_enter Try.func55, Try.ntmps55
      go_upto_region 1 with fail
      rw [← HW1.out, ← HRE.out]
      go_wp2_with fail
      refine HFA.out.mono ?_
      rintro e w3 ⟨rfl, hg3, ht3⟩
      have HG3 := Lib.hid hg3
      have HT3 := Lib.hid (HT2.out.trans ht3)
      clear hg3 ht3
      go_wp2_with fail
      first | go_end0 | refine bodyPost_ret (results_none rfl _ _ _) rfl ?_
      refine ⟨rfl, ?_, HT3.out⟩
      rw [HR.out]
      exact HG3.out
    · have z1 : (er == 10) = false := by simp [h10]
      by_cases h7 : er = 7
      · have z2 : (er == 7) = true := by simp [h7]
        have c13 := cell_blk g2 (i := 13) (u := .bool u.gone) rfl
        have f13 := fro_blk g2 13
        have g3 : UAt ((w1.setCell ⟨B, 10, none⟩ (.int .i64 3)).setCell ⟨B, 13, none⟩ (.bool true)) B { u with st := 3, gone := true } := heap_set g2 13 (.bool true)
        have HT3 := Lib.hid (HT2.out.set 13 (.bool true))
        have HR := Lib.hid (show u.completedF er bo now = UG.failF { u with st := 3, gone := true } true now from by unfold UG.completedF; rw [if_neg hz, if_neg h10, if_pos h7])
        have HFA := Lib.hid (ufail_any (p := true) (now := now) g3 hf (hw hz) hn)
        clear g g1 gr hb1 hw1 hR hBR hRl g2 g3 hz h10 h7
        go_enter Try.func55, Try.ntmps55
        go_upto_region 1 with fail
        rw [← HW1.out, ← HRE.out]
        go_wp2_with fail
        refine HFA.out.mono ?_
        rintro e w3 ⟨rfl, hg3, ht3⟩
        have HG3 := Lib.hid hg3
        have HT3 := Lib.hid (HT3.out.trans ht3)
        clear hg3 ht3
        go_wp2_with fail
        first | go_end0 | refine bodyPost_ret (results_none rfl _ _ _) rfl ?_
        refine ⟨rfl, ?_, HT3.out⟩
        rw [HR.out]
        exact HG3.out
      · have z2 : (er == 7) = false := by simp [h7]
        have HR := Lib.hid (show u.completedF er bo now = u.failF (passB er) now from by unfold UG.completedF; rw [if_neg hz, if_neg h10, if_neg h7])
        have HFA := Lib.hid (ufail_any (p := passB er) (now := now) g1 hf (hw hz) hn)
        clear g g1 gr hb1 hw1 hR hBR hRl g2 hz h10 h7
        go_enter Try.func55, Try.ntmps55
        go_upto_region 1 with fail
        rw [← HW1.out, ← HRE.out]
        go_wp2_with fail
        refine HP.out.mono ?_
        rintro e w2 ⟨rfl, hw2⟩
        subst hw2
        go_wp2_with fail
        refine HFA.out.mono ?_
        rintro e w3 ⟨rfl, hg3, ht3⟩
        have HG3 := Lib.hid hg3
        have HT3 := Lib.hid (HT.out.trans ht3)
        clear hg3 ht3
        go_wp2_with fail
        first | go_end0 | refine bodyPost_ret (results_none rfl _ _ _) rfl ?_
        refine ⟨rfl, ?_, HT3.out⟩
        rw [HR.out]
        exact HG3.out

set_option maxHeartbeats 400000 in
theorem bequal_any {a a' : Option Addr} {n n' c c' : Nat} {xs ys : List Nat} {w : World} (hx : BytesAt w a n c xs) (hy : BytesAt w a' n' c' ys) :
    Calls Try.prog 76 #[.slice a n c, .slice a' n' c'] w fun e w' => e = .returned (.bool (xs == ys)) ∧ w = w' := by
  have h1 := hx.conv
  have h2 := hy.conv
  have he := bs_eq hx.byte hy.byte
  clear hx hy
  go_enter Try.func76, Try.ntmps76
  go_wp2
  go_ret
  exact ⟨by rw [← he]; rfl, rfl⟩

set_option maxRecDepth 100000 in
set_option maxHeartbeats 2000000 in
theorem ulooked_any {w : World} {B : Nat} {u : UG} (g : UAt w B u) {er v bo io now : Int} {d l : Value} {mo : Bool} (hf : u.f ≤ 10) (hn : 0 ≤ now ∧ now ≤ 10000000) (hw : 0 ≤ u.wt ∧ u.wt ≤ 1000) {same : Bool} (hs : er = 0 → ∃ ra rn rc rx dx, d = .slice ra rn rc ∧ BytesAt w ra rn rc rx ∧ BytesAt w u.da u.dn u.dc dx ∧ same = (rx == dx)) :
    Calls Try.prog 56 #[.pointer (some ⟨B, 0, none⟩), .agg #[.int .i64 er, d, .int .i64 v, .int .i64 bo, .int .i64 io, l, .bool mo], .int .i64 now] w fun e w' => e = .returned (.tuple #[]) ∧ UAt w' B (u.lookedF er bo now same) ∧ Turns B w w' := by
  obtain ⟨w1, hw1⟩ : ∃ w1, w1 = w.alloc (.cells #[.int .i64 er, d, .int .i64 v, .int .i64 bo, .int .i64 io, l, .bool mo] 36) := ⟨_, rfl⟩
  have hb1 : Below w.heap.size w w1 := by rw [hw1]; exact (Below.refl _ _).alloc (Nat.le_refl _) _
  obtain ⟨R, hR⟩ : ∃ R, R = w.heap.size := ⟨_, rfl⟩
  have gr : w1.heap[R]? = some (.cells #[.int .i64 er, d, .int .i64 v, .int .i64 bo, .int .i64 io, l, .bool mo] 36 (0, 0)) := by rw [hw1, hR]; exact heap_alloc_newG w _
  have g1 := g.below hb1
  have hBR : B ≠ R := by have := g.lt; omega
  have HT := Lib.hid ((Turns.refl B w).below hb1)
  have HW1 := Lib.hid hw1
  have HRE := Lib.hid hR
  have hRl : R < w1.heap.size := (Array.getElem?_eq_some_iff.1 gr).1
  have r0 := cell_blk gr (i := 0) (u := .int .i64 er) rfl
  have g2 : UAt w1.drew B u := g1
  have HP := Lib.hid (passes_any2 er w1.drew)
  have HFA := Lib.hid (ufail_any (p := passB er) (now := now) g2 hf hw hn)
  have HT := Lib.hid HT.out.drew
  by_cases hz : er = 0
  · have z0 : (er == 0) = true := by simp [hz]
    have z7 : (er == 7) = false := by simp [hz]
    obtain ⟨ra, rn, rc, rx, dx, rfl, hrx, hdx, rfl⟩ := hs hz
    have r1 := cell_blk gr (i := 1) (u := .slice ra rn rc) rfl
    have r2 := cell_blk gr (i := 2) (u := .int .i64 v) rfl
    have r3 := cell_blk gr (i := 3) (u := .int .i64 bo) rfl
    have r4 := cell_blk gr (i := 4) (u := .int .i64 io) rfl
    have r5 := cell_blk gr (i := 5) (u := l) rfl
    have r6 := cell_blk gr (i := 6) (u := .bool mo) rfl
    have HQ := Lib.hid (bequal_any (hrx.kept hb1).drew (hdx.kept hb1).drew)
    have c1 := cell_blk g1 (i := 1) (u := .slice u.da u.dn u.dc) rfl
    have HD := Lib.hid (udone_any g2 (now := now) (er := er) (v := v) (bo := bo) (io := io) (d := .slice ra rn rc) (l := l) (mo := mo))
    have HR1 := Lib.hid (fun (h : (rx == dx) = true) => show u.lookedF er bo now (rx == dx) = u.doneF bo from by unfold UG.lookedF; rw [if_pos ⟨hz, h⟩])
    have HR := Lib.hid (fun (h : ¬ (rx == dx) = true) => show u.lookedF er bo now (rx == dx) = u.failF (passB er) now from by unfold UG.lookedF; rw [if_neg (fun hh => h hh.2), if_neg (by omega)])
    clear g g1 gr hb1 hw1 hR hBR hRl hz hs hrx hdx
    go_enter Try.func56, Try.ntmps56
    go_upto_region 2 with fail
    rw [← HW1.out, ← HRE.out]
    go_region_law (go_simp; go_at_call 76; refine HQ.out.mono ?_; rintro e w9 ⟨rfl, hw9⟩; subst hw9)
    all_goals
      by_cases hsm : (rx == dx) = true
      · have HR := Lib.hid (HR1.out hsm)
        rw [hsm]
        clear HR1
        go_wp2_with fail
        refine HD.out.mono ?_
        rintro e w3 ⟨rfl, hg3, ht3⟩
        have HG3 := Lib.hid hg3
        have HT3 := Lib.hid (HT.out.trans ht3)
        clear hg3 ht3
        go_wp2_with fail
        first | go_end0 | refine bodyPost_ret (results_none rfl _ _ _) rfl ?_
        refine ⟨rfl, ?_, HT3.out⟩
        rw [HR.out]
        exact HG3.out
      · have HR := Lib.hid (HR.out hsm)
        have hsm := Bool.eq_false_iff.2 hsm
        rw [hsm]
        clear HR1
        go_wp2_with fail
        refine HP.out.mono ?_
        rintro e w2 ⟨rfl, hw2⟩
        subst hw2
        go_wp2_with fail
        refine HFA.out.mono ?_
        rintro e w3 ⟨rfl, hg3, ht3⟩
        have HG3 := Lib.hid hg3
        have HT3 := Lib.hid (HT.out.trans ht3)
        clear hg3 ht3
        go_wp2_with fail
        first | go_end0 | refine bodyPost_ret (results_none rfl _ _ _) rfl ?_
        refine ⟨rfl, ?_, HT3.out⟩
        rw [HR.out]
        exact HG3.out
  · have z0 : (er == 0) = false := by simp [hz]
    by_cases h7 : er = 7
    · have z7 : (er == 7) = true := by simp [h7]
      have c9 := cell_blk g1 (i := 13) (u := .bool u.gone) rfl
      by_cases hg : u.gone = true
      · rw [hg] at c9
        have HR := Lib.hid (show u.lookedF er bo now same = u.failF (passB er) now from by unfold UG.lookedF; rw [if_neg (fun h => hz h.1), if_neg (fun h => by rw [hg] at h; cases h.2)])
        clear g g1 gr hb1 hw1 hR hBR hRl g2 hz hs h7 hg
        go_enter Try.func56, Try.ntmps56
        go_upto_region 2 with fail
        rw [← HW1.out, ← HRE.out]
        go_region
        go_wp2_with fail
        refine HP.out.mono ?_
        rintro e w2 ⟨rfl, hw2⟩
        subst hw2
        go_wp2_with fail
        refine HFA.out.mono ?_
        rintro e w3 ⟨rfl, hg3, ht3⟩
        have HG3 := Lib.hid hg3
        have HT3 := Lib.hid (HT.out.trans ht3)
        clear hg3 ht3
        go_wp2_with fail
        first | go_end0 | refine bodyPost_ret (results_none rfl _ _ _) rfl ?_
        refine ⟨rfl, ?_, HT3.out⟩
        rw [HR.out]
        exact HG3.out
      · have hg := Bool.eq_false_iff.2 hg
        rw [hg] at c9
        have c10 := cell_blk g2 (i := 10) (u := .int .i64 u.st) rfl
        have f10 := fro_blk g2 10
        have HG := Lib.hid (show UAt _ B (u.lookedF er bo now same) from UAt.refl (u := { u with st := 2 }) (heap_set g2 10 (.int .i64 2)) (by unfold UG.lookedF; rw [if_neg (fun h => hz h.1), if_pos ⟨h7, hg⟩]))
        have HT2 := Lib.hid (HT.out.set 10 (.int .i64 2))
        clear g g1 gr hb1 hw1 hR hBR hRl g2 hz hs h7 hg
        go_enter Try.func56, Try.ntmps56
        go_upto_region 2 with fail
        rw [← HW1.out, ← HRE.out]
        go_region
        go_wp2_with fail
        first | go_end0 | refine bodyPost_ret (results_none rfl _ _ _) rfl ?_
        exact ⟨rfl, HG.out, HT2.out⟩
    · have z7 : (er == 7) = false := by simp [h7]
      have HR := Lib.hid (show u.lookedF er bo now same = u.failF (passB er) now from by unfold UG.lookedF; rw [if_neg (fun h => hz h.1), if_neg (fun h => h7 h.1)])
      clear g g1 gr hb1 hw1 hR hBR hRl g2 hz hs h7
      go_enter Try.func56, Try.ntmps56
      go_upto_region 2 with fail
      rw [← HW1.out, ← HRE.out]
      go_region
      go_wp2_with fail
      refine HP.out.mono ?_
      rintro e w2 ⟨rfl, hw2⟩
      subst hw2
      go_wp2_with fail
      refine HFA.out.mono ?_
      rintro e w3 ⟨rfl, hg3, ht3⟩
      have HG3 := Lib.hid hg3
      have HT3 := Lib.hid (HT.out.trans ht3)
      clear hg3 ht3
      go_wp2_with fail
      first | go_end0 | refine bodyPost_ret (results_none rfl _ _ _) rfl ?_
      refine ⟨rfl, ?_, HT3.out⟩
      rw [HR.out]
      exact HG3.out

theorem bytes_turns {w w' : World} {B : Nat} {u : UG} (g : UAt w B u) {a : Option Addr} {n c : Nat} {xs : List Nat} (h : BytesAt w a n c xs) (ht : Turns B w w') : BytesAt w' a n c xs :=
  ⟨h.len, h.cap, h.byte, h.reach, h.capm, h.nl, fun hn => by
    obtain ⟨b, off, e, hb, hc⟩ := h.cells hn
    refine ⟨b, off, e, Nat.lt_of_lt_of_le hb ht.size, fun i hi => ?_⟩
    have h1 := hc i hi
    by_cases hbB : b = B
    · subst hbB
      exfalso
      have h2 := hc i hi
      rw [cell_of_row w _ _ _ _ (0, 0) g] at h2
      generalize off + i = j at h2
      rcases j with _ | _ | _ | _ | _ | _ | _ | _ | _ | _ | _ | _ | _ | _ | _ | _ | j <;> simp [UG.A] at h2
    · unfold World.cell? at h1 ⊢
      rw [ht.block b hb hbB]
      exact h1⟩

set_option maxRecDepth 100000 in
set_option maxHeartbeats 2000000 in
theorem utake_any {w : World} {B : Nat} {u : UG} (g : UAt w B u) {er v bo io now : Int} {d l : Value} {mo : Bool} (htl : u.told = true) (hst5 : 0 ≤ u.st ∧ u.st ≤ 4) (hf : u.f ≤ 10) (hn : 0 ≤ now ∧ now ≤ 10000000) (hw : er ≠ 0 ∨ u.st = 3 → 0 ≤ u.wt ∧ u.wt ≤ 1000) (hx : 0 ≤ u.nx ∧ u.nx ≤ 1000000) {same : Bool} (hs : u.st = 3 → er = 0 → ∃ ra rn rc rx dx, d = .slice ra rn rc ∧ BytesAt w ra rn rc rx ∧ BytesAt w u.da u.dn u.dc dx ∧ same = (rx == dx)) :
    Calls Try.prog 23 #[.pointer (some ⟨B, 0, none⟩), .agg #[.int .i64 er, d, .int .i64 v, .int .i64 bo, .int .i64 io, l, .bool mo], .int .i64 now] w fun e w' => e = .returned (.int .i64 0) ∧ UAt w' B (u.takeF er bo io now same) ∧ Turns B w w' := by
  obtain ⟨w1, hw1⟩ : ∃ w1, w1 = w.alloc (.cells #[.int .i64 er, d, .int .i64 v, .int .i64 bo, .int .i64 io, l, .bool mo] 36) := ⟨_, rfl⟩
  have hb1 : Below w.heap.size w w1 := by rw [hw1]; exact (Below.refl _ _).alloc (Nat.le_refl _) _
  obtain ⟨R, hR⟩ : ∃ R, R = w.heap.size := ⟨_, rfl⟩
  have gr : w1.heap[R]? = some (.cells #[.int .i64 er, d, .int .i64 v, .int .i64 bo, .int .i64 io, l, .bool mo] 36 (0, 0)) := by rw [hw1, hR]; exact heap_alloc_newG w _
  have g1 := g.below hb1
  have hBR : B ≠ R := by have := g.lt; omega
  have HT := Lib.hid ((Turns.refl B w).below hb1)
  have HW1 := Lib.hid hw1
  have HRE := Lib.hid hR
  have hRl : R < w1.heap.size := (Array.getElem?_eq_some_iff.1 gr).1
  have r0 := cell_blk gr (i := 0) (u := .int .i64 er) rfl
  have ht9 : u.A[9]? = some (.bool true) := by rw [← htl]; rfl
  have HTK := Lib.hid (taken_yes (o := 5) g1 ht9)
  have hbl := g.lt
  have HRK := Lib.hid (show ∀ w2, Turns B w1 w2 → w2.heap[R]? = _ from fun w2 h => (h.block R hRl (Ne.symm hBR)).trans gr)
  have HSM := Lib.hid (show ∀ w2, Turns B w1 w2 → u.st = 3 → er = 0 → ∃ ra rn rc rx dx, d = .slice ra rn rc ∧ BytesAt w2 ra rn rc rx ∧ BytesAt w2 u.da u.dn u.dc dx ∧ same = (rx == dx) from fun w2 h h3 h0 => by
    obtain ⟨ra, rn, rc, rx, dx, e1, h1, h2, h4⟩ := hs h3 h0
    exact ⟨ra, rn, rc, rx, dx, e1, bytes_turns g1 (h1.kept hb1) h, bytes_turns g1 (h2.kept hb1) h, h4⟩)
  clear g g1 hb1 gr hw1 hR hs hbl ht9
  go_enter Try.func23, Try.ntmps23
  go_upto_region 1 with fail
  rw [← HW1.out, ← HRE.out]
  go_wp2_with fail
  refine HTK.out.mono ?_
  rintro e w2 ⟨rfl, hg2, ht2⟩
  have hg3 : UAt w2 B { u with told := false } := hg2
  have gr := HRK.out w2 ht2
  have HT2 := Lib.hid (HT.out.trans ht2)
  have c10 := cell_blk hg3 (i := 10) (u := .int .i64 u.st) rfl
  have r0 := cell_blk gr (i := 0) (u := .int .i64 er) rfl
  have r1 := cell_blk gr (i := 1) (u := d) rfl
  have r2 := cell_blk gr (i := 2) (u := .int .i64 v) rfl
  have r3 := cell_blk gr (i := 3) (u := .int .i64 bo) rfl
  have r4 := cell_blk gr (i := 4) (u := .int .i64 io) rfl
  have r5 := cell_blk gr (i := 5) (u := l) rfl
  have r6 := cell_blk gr (i := 6) (u := .bool mo) rfl
  clear hg2 gr
  have hcs : u.st = 0 ∨ u.st = 1 ∨ u.st = 2 ∨ u.st = 3 ∨ u.st = 4 := by omega
  clear hst5
  rcases hcs with hst | hst | hst | hst | hst
  · -- created
    have z0 : (u.st == 0) = true := by simp [hst]
    have HR := Lib.hid (show u.takeF er bo io now same = UG.createdF { u with told := false } er io now from by simp only [UG.takeF]; rw [if_pos hst])
    have HFA := Lib.hid (ucreated_any hg3 (er := er) (v := v) (bo := bo) (io := io) (now := now) (d := d) (l := l) (mo := mo) hf hn (fun h => hw (.inl h)))
    clear hst hg3 ht2
    go_wp2_with fail
    refine HFA.out.mono ?_
    rintro e w3 ⟨rfl, hg4, ht4⟩
    have HG3 := Lib.hid hg4
    have HT3 := Lib.hid (HT2.out.trans ht4)
    clear hg4 ht4
    go_wp2_with fail
    go_ret
    refine ⟨rfl, ?_, HT3.out⟩
    rw [HR.out]
    exact HG3.out
  · -- brought
    have z0 : (u.st == 0) = false := by simp [hst]
    have z1 : (u.st == 1) = true := by simp [hst]
    have HR := Lib.hid (show u.takeF er bo io now same = UG.broughtF { u with told := false } er now from by simp only [UG.takeF]; rw [if_neg (show ¬ u.st = 0 from by omega), if_pos hst])
    have HFA := Lib.hid (ubrought_any hg3 (er := er) (v := v) (bo := bo) (io := io) (now := now) (d := d) (l := l) (mo := mo) hf hn (fun h => hw (.inl h)) hx)
    clear hst hg3 ht2
    go_wp2_with fail
    refine HFA.out.mono ?_
    rintro e w3 ⟨rfl, hg4, ht4⟩
    have HG3 := Lib.hid hg4
    have HT3 := Lib.hid (HT2.out.trans ht4)
    clear hg4 ht4
    go_wp2_with fail
    go_ret
    refine ⟨rfl, ?_, HT3.out⟩
    rw [HR.out]
    exact HG3.out
  · -- completed
    have z0 : (u.st == 0) = false := by simp [hst]
    have z1 : (u.st == 1) = false := by simp [hst]
    have z2 : (u.st == 2) = true := by simp [hst]
    have HR := Lib.hid (show u.takeF er bo io now same = UG.completedF { u with told := false } er bo now from by simp only [UG.takeF]; rw [if_neg (show ¬ u.st = 0 from by omega), if_neg (show ¬ u.st = 1 from by omega), if_pos hst])
    have HFA := Lib.hid (ucompleted_any hg3 (er := er) (v := v) (bo := bo) (io := io) (now := now) (d := d) (l := l) (mo := mo) hf hn (fun h => hw (.inl h)))
    clear hst hg3 ht2
    go_wp2_with fail
    refine HFA.out.mono ?_
    rintro e w3 ⟨rfl, hg4, ht4⟩
    have HG3 := Lib.hid hg4
    have HT3 := Lib.hid (HT2.out.trans ht4)
    clear hg4 ht4
    go_wp2_with fail
    go_ret
    refine ⟨rfl, ?_, HT3.out⟩
    rw [HR.out]
    exact HG3.out
  · -- looked
    have z0 : (u.st == 0) = false := by simp [hst]
    have z1 : (u.st == 1) = false := by simp [hst]
    have z2 : (u.st == 2) = false := by simp [hst]
    have z3 : (u.st == 3) = true := by simp [hst]
    have HR := Lib.hid (show u.takeF er bo io now same = UG.lookedF { u with told := false } er bo now same from by simp only [UG.takeF]; rw [if_neg (show ¬ u.st = 0 from by omega), if_neg (show ¬ u.st = 1 from by omega), if_neg (show ¬ u.st = 2 from by omega), if_pos hst])
    have HFA := Lib.hid (ulooked_any hg3 (er := er) (v := v) (bo := bo) (io := io) (now := now) (d := d) (l := l) (mo := mo) (same := same) hf hn (hw (.inr hst)) (HSM.out w2 ht2 hst))
    clear hst hg3 ht2
    go_wp2_with fail
    refine HFA.out.mono ?_
    rintro e w3 ⟨rfl, hg4, ht4⟩
    have HG3 := Lib.hid hg4
    have HT3 := Lib.hid (HT2.out.trans ht4)
    clear hg4 ht4
    go_wp2_with fail
    go_ret
    refine ⟨rfl, ?_, HT3.out⟩
    rw [HR.out]
    exact HG3.out
  · -- end
    have z0 : (u.st == 0) = false := by simp [hst]
    have z1 : (u.st == 1) = false := by simp [hst]
    have z2 : (u.st == 2) = false := by simp [hst]
    have z3 : (u.st == 3) = false := by simp [hst]
    have z4 : (u.st == 4) = true := by simp [hst]
    have HR := Lib.hid (show u.takeF er bo io now same = UG.ends { u with told := false } 2 from by simp only [UG.takeF]; rw [if_neg (show ¬ u.st = 0 from by omega), if_neg (show ¬ u.st = 1 from by omega), if_neg (show ¬ u.st = 2 from by omega), if_neg (show ¬ u.st = 3 from by omega), if_pos hst])
    have HFA := Lib.hid (uend_any 2 hg3)
    clear hst hg3 ht2
    go_wp2_with fail
    refine HFA.out.mono ?_
    rintro e w3 ⟨rfl, hg4, ht4⟩
    have HG3 := Lib.hid hg4
    have HT3 := Lib.hid (HT2.out.trans ht4)
    clear hg4 ht4
    go_wp2_with fail
    go_ret
    refine ⟨rfl, ?_, HT3.out⟩
    rw [HR.out]
    exact HG3.out
end Go.Proofs.Ytodoklnohedolaa
end PkUC1_5
section PkUC1_6
/- Slices of things of any struct, as walks are told of them: wherever they lie; what a call owns; as a law's argument. -/
namespace Go.Proofs.Ytodoklnohedolaa
open Go.ChangeShapes Go.WideShapes Go.Deep Go.RowKit
set_option linter.unusedVariables false

theorem vflat_len {α : Type} (f : α → List Value) (K : Nat) (hK : ∀ x, (f x).length = K) : ∀ l : List α, (l.flatMap f).length = l.length * K
  | [] => by simp
  | x :: r => by rw [List.flatMap_cons, List.length_append, hK, vflat_len f K hK r, List.length_cons, Nat.succ_mul]; omega
theorem vflat_at {α : Type} (f : α → List Value) (K : Nat) (hK : ∀ x, (f x).length = K) (d : α) : ∀ (l : List α) (i j : Nat), i < l.length → j < K → (l.flatMap f)[i * K + j]? = (f (l.getD i d))[j]?
  | x :: r, 0, j, _, hj => by
    rw [List.flatMap_cons, Nat.zero_mul, Nat.zero_add, List.getElem?_append_left (by rw [hK]; exact hj)]; rfl
  | x :: r, i + 1, j, hi, hj => by
    rw [List.flatMap_cons, List.getElem?_append_right (by rw [hK, Nat.succ_mul]; omega), hK, show (i + 1) * K + j - K = i * K + j from by rw [Nat.succ_mul]; omega, vflat_at f K hK d r i j (by simpa using hi) hj]
    rfl
/-- things of K cells, and what else holds of them in a world -/
structure Sty (α : Type) where
  f : α → List Value
  K : Nat
  z : α
  ok : World → α → Prop
  pos : 0 < K
  wid : ∀ x, (f x).length = K
  one : ∀ x, ∀ u ∈ f x, u.oneCell' = true
  mono : ∀ {w w' : World} {x : α}, Below w.heap.size w w' → ok w x → ok w' x
def Sty.flat {α : Type} (S : Sty α) (l : List α) : List Value := l.flatMap S.f
structure VecAt {α : Type} (S : Sty α) (w : World) (a : Option Addr) (n c : Nat) (l : List α) : Prop where
  len : l.length = n
  cap : n ≤ c
  capm : c ≤ 9223372036854775807
  nl : a = none → c = 0
  all : ∀ x ∈ l, S.ok w x
  cells : 0 < n → ∃ b off, a = some ⟨b, off, none⟩ ∧ b < w.heap.size ∧ ∀ i, i < n → ∀ j u, (S.f (l.getD i S.z))[j]? = some u → w.cell? ⟨b, off + i * S.K + j, none⟩ = some u
section
variable {α : Type} {S : Sty α} {w w' : World} {a : Option Addr} {n c : Nat} {l : List α}
theorem VecAt.kept (h : VecAt S w a n c l) (hb : Below w.heap.size w w') : VecAt S w' a n c l :=
  ⟨h.len, h.cap, h.capm, h.nl, fun x hx => S.mono hb (h.all x hx), fun hn => by
    obtain ⟨b, off, ha, hlt, hc⟩ := h.cells hn
    exact ⟨b, off, ha, Nat.lt_of_lt_of_le hlt hb.size, fun i hi j u hu => (hb.cell (p := ⟨b, off + i * S.K + j, none⟩) hlt).trans (hc i hi j u hu)⟩⟩
theorem VecAt.empty (w : World) (a : Option Addr) (c : Nat) (hc : c ≤ 9223372036854775807) (ha : a = none → c = 0) : VecAt S w a 0 c [] :=
  ⟨rfl, Nat.zero_le _, hc, ha, (fun x hx => by cases hx), fun h => absurd h (Nat.lt_irrefl 0)⟩
theorem vec_mem {i : Nat} (h : i < l.length) : l.getD i S.z ∈ l := by
  have : l.getD i S.z = l[i] := by simp [h]
  rw [this]; exact List.getElem_mem h
theorem VecAt.get (h : VecAt S w a n c l) {i : Nat} (hi : i < n) : ∃ b off, a = some ⟨b, off, none⟩ ∧ b < w.heap.size ∧ S.ok w (l.getD i S.z) ∧ ∀ j u, (S.f (l.getD i S.z))[j]? = some u → w.cell? ⟨b, off + i * S.K + j, none⟩ = some u := by
  obtain ⟨b, off, ha, hlt, hc⟩ := h.cells (by omega)
  exact ⟨b, off, ha, hlt, h.all _ (vec_mem (by rw [h.len]; exact hi)), hc i hi⟩
theorem VecAt.ofOwn {base : Nat} {e : TypeId} (h : w.ownsRow base e S.K (.slice a n c) n (S.flat l)) (hl : l.length = n) (hok : ∀ x ∈ l, S.ok w x) : VecAt S w a n c l := by
  rcases h.2 with ⟨he, h0⟩ | ⟨g, cap, cur, he, hg, hh, hnc, hcap, hsz, htake⟩
  · cases he
    obtain rfl : l = [] := List.eq_nil_of_length_eq_zero hl
    exact VecAt.empty w none 0 (by omega) (fun _ => rfl)
  · cases he
    refine ⟨hl, hnc, by unfold maxLen at hcap; exact hcap, (fun e => by cases e), hok, fun hp => ⟨g, 0, rfl, (Array.getElem?_eq_some_iff.1 hh).1, fun i hi j u hu => ?_⟩⟩
    have hj : j < S.K := by rw [← S.wid (l.getD i S.z)]; exact (List.getElem?_eq_some_iff.1 hu).1
    have h2 : (S.flat l)[i * S.K + j]? = some u := by
      unfold Sty.flat
      rw [vflat_at S.f S.K S.wid S.z l i j (by omega) hj, hu]
    have hlt : i * S.K + j < n * S.K := by
      have := Nat.mul_le_mul_right S.K (show i + 1 ≤ n by omega)
      rw [Nat.succ_mul] at this; omega
    rw [Nat.zero_add, cell_of_row w _ _ _ _ (0, 0) hh, ← h2, ← htake, List.getElem?_take_of_lt hlt, Array.getElem?_toList]
theorem Sty.flat_len (S : Sty α) (l : List α) : (S.flat l).length = l.length * S.K := Go.Proofs.Ytodoklnohedolaa.vflat_len S.f S.K S.wid l
theorem Sty.flat_snoc (S : Sty α) (l : List α) (x : α) : S.flat (l ++ [x]) = S.flat l ++ S.f x := by unfold Sty.flat; simp
theorem Sty.flat_one (S : Sty α) (l : List α) : ∀ u ∈ S.flat l, u.oneCell' = true := by
  intro u hu
  obtain ⟨x, _, hx⟩ := List.mem_flatMap.1 hu
  exact S.one x u hx
theorem VecAt.src {ad : Addr} (h : VecAt S w (some ad) n c l) : ∀ j u, (S.flat l)[j]? = some u → w.cell? (ad.add j) = some u := by
  intro j u hu
  have hj : j < n * S.K := by rw [← h.len, ← S.flat_len]; exact (List.getElem?_eq_some_iff.1 hu).1
  have hn : 0 < n := by
    rcases Nat.eq_zero_or_pos n with e | e
    · rw [e, Nat.zero_mul] at hj; omega
    · exact e
  obtain ⟨b, off, he, hlt, hc⟩ := h.cells hn
  cases he
  have hdiv : j / S.K < n := (Nat.div_lt_iff_lt_mul S.pos).2 hj
  have hmod : j % S.K < S.K := Nat.mod_lt _ S.pos
  have e1 : j / S.K * S.K + j % S.K = j := by rw [Nat.mul_comm]; exact Nat.div_add_mod j S.K
  have h2 := vflat_at S.f S.K S.wid S.z l (j / S.K) (j % S.K) (by rw [h.len]; exact hdiv) hmod
  rw [e1] at h2
  have h3 := hc (j / S.K) hdiv (j % S.K) u (by rw [← h2]; exact hu)
  have h4 : (⟨b, off, none⟩ : Addr).add j = ⟨b, off + j, none⟩ := by unfold Addr.add; split <;> simp_all
  rw [h4, ← h3, Nat.add_assoc, e1]
end
/-- one thing, newly laid -/
theorem Sty.src {α : Type} (S : Sty α) (w : World) (x : α) (t : TypeId) {cs : Array Value} (hcs : cs = (S.f x).toArray) : ∀ j u, (S.f x)[j]? = some u → (w.alloc (.cells cs t)).cell? ((⟨w.heap.size, 0, none⟩ : Addr).add j) = some u := by
  intro j u hj
  have hblk := heap_alloc_new w (.cells cs t)
  have hadd : (⟨w.heap.size, 0, none⟩ : Addr).add j = ⟨w.heap.size, 0 + j, none⟩ := by unfold Addr.add; split <;> simp_all
  rw [hadd, Nat.zero_add, cell_of_row _ _ _ _ _ (0, 0) hblk, hcs, List.getElem?_toArray]
  exact hj
theorem vec_wadd {H : Type} {P : Program} {e : TypeId} {d : DataW H} {n : Nat} : ∀ {l : List (DataW H)}, d ∈ l → n ∈ DataW.weights P e d → n ∈ DataW.weightsAll P e l
  | [], h, _ => by cases h
  | x :: r, h, hn => by
    rw [DataW.weightsAll]
    rcases List.mem_cons.1 h with rfl | h
    · exact List.mem_append_left _ hn
    · exact List.mem_append_right _ (vec_wadd h hn)
/-- opened, as a law's argument -/
theorem open_vec {α : Type} (S : Sty α) {H : Type} {enc : TypeId × Value → H} {W : World} {fuel : Nat} {T e : TypeId} {a : Option Addr} {len cap : Nat} {x : DataW H × List MemPlace} (ht : Try.prog.underlying T = some (.slice e)) (hK : Try.prog.cellsOf e = S.K)
    (hfld : ∀ (fuel : Nat) (cs : List Value) (y : DataW H × List MemPlace), DataW.trod enc Try.prog W 0 (fun _ => true) true fuel e cs = some y → (∀ n, n ∈ DataW.weights Try.prog e y.1 → n ≤ reachBytes) → ∃ r : α, cs = S.f r ∧ S.ok W r)
    (hf : DataW.trod enc Try.prog W 0 (fun _ => true) true fuel T [.slice a len cap] = some x) (hw : ∀ n, n ∈ DataW.weights Try.prog T x.1 → n ≤ reachBytes) : ∃ l : List α, VecAt S W a len cap l := by
  rcases open_slice ht hf with ⟨hcs, _⟩ | ⟨x0, l, c, m, n, D, Pl, hcs, _, hl, hm, hmm, hx, hi⟩
  · simp at hcs
    obtain ⟨rfl, rfl, rfl⟩ := hcs
    exact ⟨[], VecAt.empty W none 0 (by omega) (fun _ => rfl)⟩
  · simp at hcs
    obtain ⟨rfl, rfl, rfl⟩ := hcs
    rw [hK] at hi
    have hm2 : m = cap := by rw [hmm]; simp
    have hone : ∀ i : Nat, ∃ r : α, i < len → (∀ j u, (S.f r)[j]? = some u → W.cell? (x0.add (i * S.K + j)) = some u) ∧ S.ok W r := by
      intro i
      by_cases hil : i < len
      · obtain ⟨cs, hcc, ht2⟩ := hi i (by omega)
        obtain ⟨r, rfl, hok⟩ := hfld _ _ _ ht2 (fun n hn => hw n (by
          rw [hx]
          simp only [DataW.weights, ht]
          exact List.mem_cons_of_mem _ (List.mem_append_left _ (vec_wadd (List.mem_map.2 ⟨i, List.mem_range.2 hil, rfl⟩) hn))))
        obtain ⟨_, hl9, hat⟩ := World.cells?_some hcc
        refine ⟨r, fun _ => ⟨fun j u hu => ?_, hok⟩⟩
        have := hat j (by rw [← hl9]; exact (List.getElem?_eq_some_iff.1 hu).1)
        rw [add_add, hu] at this
        exact this
      · exact ⟨S.z, fun h => absurd h hil⟩
    obtain ⟨f, hF⟩ := Classical.skolem.1 hone
    have hget : ∀ i, i < len → ((List.range len).map f).getD i S.z = f i := fun i h => by simp [h]
    refine ⟨(List.range len).map f, by simp, hl, by unfold maxLen at hm; exact hm, (fun e => by cases e), ?_, fun hp => ?_⟩
    · intro y hy
      obtain ⟨i, hi', rfl⟩ := List.mem_map.1 hy
      exact (hF i (List.mem_range.1 hi')).2
    · obtain ⟨b, off, spot⟩ := x0
      have h00 : 0 < (S.f (f 0)).length := by rw [S.wid]; exact S.pos
      have hc := (hF 0 hp).1 0 _ (List.getElem?_eq_getElem h00)
      have hspot : spot = none := by simpa [Addr.add] using World.cell?_spot hc
      subst hspot
      refine ⟨b, off, rfl, ?_, fun i hi' j u hu => ?_⟩
      · have := World.block_lt_of_cell? W _ hc
        simpa [Addr.add] using this
      · rw [hget i hi'] at hu
        have h0 := (hF i hi').1 j u hu
        have h4 : (⟨b, off, none⟩ : Addr).add (i * S.K + j) = ⟨b, off + (i * S.K + j), none⟩ := by unfold Addr.add; split <;> simp_all
        rw [h4, ← Nat.add_assoc] at h0
        exact h0
/-- integers, as things of one cell -/
def IntS : Sty Int := ⟨fun z => [.int .i64 z], 1, 0, fun _ z => (Lit.int .i64 z).wf = true, by decide, fun _ => rfl, (fun x u hu => by rw [List.mem_singleton.1 hu]; rfl), fun _ h => h⟩
end Go.Proofs.Ytodoklnohedolaa
end PkUC1_6
section PkUC1_7
/- The document's store (package entrepotref14), plainly and where it lies; At, Open, Size, walked. -/
namespace Go.Proofs.Ytodoklnohedolaa
open Go.RowKit
set_option linter.unusedVariables false

/-- its objects, parts, uploads: with the rows that hold their bytes -/
structure DObj where
  key : ByteArray
  da : Option Addr
  dn : Nat
  dc : Nat
  data : List Nat
  ver : Int
  born : Int
structure DPrt where
  n : Int
  da : Option Addr
  dn : Nat
  dc : Nat
  data : List Nat
structure DUpl where
  id : Int
  born : Int
  key : ByteArray
  pa : Option Addr
  pn : Nat
  pc : Nat
  parts : List DPrt
structure DSto where
  oa : Option Addr
  oc : Nat
  objs : List DObj
  ua : Option Addr
  uc : Nat
  ups : List DUpl
  ver : Int
  id : Int
  now : Int
def DObjS : Sty DObj := ⟨fun o => [.string o.key, .slice o.da o.dn o.dc, .int .i64 o.ver, .int .i64 o.born], 4, ⟨ByteArray.empty, none, 0, 0, [], 0, 0⟩, fun _ _ => True, by decide, fun _ => rfl, (fun x u hu => by
  simp only [List.mem_cons, List.not_mem_nil, or_false] at hu
  rcases hu with rfl | rfl | rfl | rfl <;> rfl), fun _ h => h⟩
def DPrtS : Sty DPrt := ⟨fun o => [.int .i64 o.n, .slice o.da o.dn o.dc], 2, ⟨0, none, 0, 0, []⟩, fun _ _ => True, by decide, fun _ => rfl, (fun x u hu => by
  simp only [List.mem_cons, List.not_mem_nil, or_false] at hu
  rcases hu with rfl | rfl <;> rfl), fun _ h => h⟩
def DUplS : Sty DUpl := ⟨fun o => [.int .i64 o.id, .int .i64 o.born, .string o.key, .slice o.pa o.pn o.pc], 4, ⟨0, 0, ByteArray.empty, none, 0, 0, []⟩, fun _ _ => True, by decide, fun _ => rfl, (fun x u hu => by
  simp only [List.mem_cons, List.not_mem_nil, or_false] at hu
  rcases hu with rfl | rfl | rfl | rfl <;> rfl), fun _ h => h⟩
/-- an object's bytes, a part's, an upload's parts: rows of their own -/
structure ObjOk (w : World) (base : Nat) (o : DObj) : Prop where
  row : w.ownsRow base 5 1 (.slice o.da o.dn o.dc) o.dn (bv o.data)
  byte : ∀ x ∈ o.data, x < 256
  len : o.data.length = o.dn
  small : o.dn ≤ 262144
structure PrtOk (w : World) (base : Nat) (p : DPrt) : Prop where
  row : w.ownsRow base 5 1 (.slice p.da p.dn p.dc) p.dn (bv p.data)
  byte : ∀ x ∈ p.data, x < 256
  len : p.data.length = p.dn
  small : p.dn ≤ 262144
structure UplOk (w : World) (base : Nat) (u : DUpl) : Prop where
  row : w.ownsRow base 115 2 (.slice u.pa u.pn u.pc) u.pn (DPrtS.flat u.parts)
  len : u.parts.length = u.pn
  few : u.pn ≤ 32
  prt : ∀ p ∈ u.parts, PrtOk w base p
structure DStAt (w : World) (S base : Nat) (σ : DSto) : Prop where
  blk : w.heap[S]? = some (.cells #[.slice σ.oa σ.objs.length σ.oc, .slice σ.ua σ.ups.length σ.uc, .int .i64 σ.ver, .int .i64 σ.id, .int .i64 σ.now] 50 (0, 0))
  orow : w.ownsRow base 56 4 (.slice σ.oa σ.objs.length σ.oc) σ.objs.length (DObjS.flat σ.objs)
  urow : w.ownsRow base 85 4 (.slice σ.ua σ.ups.length σ.uc) σ.ups.length (DUplS.flat σ.ups)
  obj : ∀ o ∈ σ.objs, ObjOk w base o
  upl : ∀ u ∈ σ.ups, UplOk w base u
  of : σ.objs.length ≤ 512
  uf : σ.ups.length ≤ 512
/-- the block of a slice -/
def blkOf (a : Option Addr) : Option Nat := a.map (·.block)
/-- the blocks where it lies -/
def DF (S : Nat) (σ : DSto) (b : Nat) : Prop := b = S ∨ blkOf σ.oa = some b ∨ blkOf σ.ua = some b ∨ (∃ o ∈ σ.objs, blkOf o.da = some b) ∨ ∃ u ∈ σ.ups, blkOf u.pa = some b ∨ ∃ p ∈ u.parts, blkOf p.da = some b
theorem own_same {w w' : World} {base n c N k : Nat} {e : TypeId} {a : Option Addr} {xs : List Value} (h : w.ownsRow base e k (.slice a n c) N xs) (hb : ∀ b, blkOf a = some b → w'.heap[b]? = w.heap[b]?) : w'.ownsRow base e k (.slice a n c) N xs := by
  refine ⟨h.1, ?_⟩
  rcases h.2 with h0 | ⟨g, cap, cur, h1, h2, h3, h4⟩
  · exact .inl h0
  · cases h1
    exact .inr ⟨g, _, cur, rfl, h2, (hb g rfl).trans h3, h4⟩
theorem DStAt.same {w w' : World} {S base : Nat} {σ : DSto} (h : DStAt w S base σ) (hb : ∀ b, DF S σ b → w'.heap[b]? = w.heap[b]?) : DStAt w' S base σ :=
  ⟨(hb S (.inl rfl)).trans h.blk, own_same h.orow (fun b e => hb b (.inr (.inl e))), own_same h.urow (fun b e => hb b (.inr (.inr (.inl e)))),
   fun o ho => ⟨own_same (h.obj o ho).row (fun b e => hb b (.inr (.inr (.inr (.inl ⟨o, ho, e⟩))))), (h.obj o ho).byte, (h.obj o ho).len, (h.obj o ho).small⟩,
   fun u hu => ⟨own_same (h.upl u hu).row (fun b e => hb b (.inr (.inr (.inr (.inr ⟨u, hu, .inl e⟩))))), (h.upl u hu).len, (h.upl u hu).few,
     fun p hp => ⟨own_same ((h.upl u hu).prt p hp).row (fun b e => hb b (.inr (.inr (.inr (.inr ⟨u, hu, .inr ⟨p, hp, e⟩⟩))))), ((h.upl u hu).prt p hp).byte, ((h.upl u hu).prt p hp).len, ((h.upl u hu).prt p hp).small⟩⟩, h.of, h.uf⟩
theorem own_blk_lt {w : World} {base n c N k : Nat} {e : TypeId} {a : Option Addr} {xs : List Value} (h : w.ownsRow base e k (.slice a n c) N xs) {b : Nat} (hb : blkOf a = some b) : base ≤ b ∧ b < w.heap.size := by
  obtain ⟨x, rfl, e⟩ := Option.map_eq_some_iff.1 hb
  exact h.lt b (by rw [← e]; rfl)
theorem DStAt.lt {w : World} {S base : Nat} {σ : DSto} (h : DStAt w S base σ) {b : Nat} (hb : DF S σ b) : b < w.heap.size := by
  rcases hb with rfl | e | e | ⟨o, ho, e⟩ | ⟨u, hu, e | ⟨p, hp, e⟩⟩
  · exact (Array.getElem?_eq_some_iff.1 h.blk).1
  · exact (own_blk_lt h.orow e).2
  · exact (own_blk_lt h.urow e).2
  · exact (own_blk_lt (h.obj o ho).row e).2
  · exact (own_blk_lt (h.upl u hu).row e).2
  · exact (own_blk_lt ((h.upl u hu).prt p hp).row e).2
theorem DStAt.below {w w' : World} {S base : Nat} {σ : DSto} (h : DStAt w S base σ) (hb : Below w.heap.size w w') : DStAt w' S base σ := h.same fun b hF => hb.block b (h.lt hF)
theorem DStAt.drewN {w : World} {S base : Nat} {σ : DSto} (h : DStAt w S base σ) (q : Nat) : DStAt (w.drewN q) S base σ := h.same fun _ _ => rfl
theorem DStAt.objs {w : World} {S base : Nat} {σ : DSto} (h : DStAt w S base σ) : VecAt DObjS w σ.oa σ.objs.length σ.oc σ.objs := VecAt.ofOwn h.orow rfl (fun _ _ => trivial)
theorem DStAt.ups {w : World} {S base : Nat} {σ : DSto} (h : DStAt w S base σ) : VecAt DUplS w σ.ua σ.ups.length σ.uc σ.ups := VecAt.ofOwn h.urow rfl (fun _ _ => trivial)
theorem tl_injD {a b : ByteArray} (h : a.toList = b.toList) : a = b := by
  rw [ByteArray.toList_eq, ByteArray.toList_eq] at h
  exact ByteArray.ext (Array.toList_inj.1 h)
theorem tl_neD {a b : ByteArray} (h : ¬ a = b) : (a.toList == b.toList) = false := beq_eq_false_iff_ne.2 fun g => h (tl_injD g)
/-- where an object stands; -1: nowhere -/
theorem cell_blkD {w : World} {b : Nat} {cs : Array Value} {t : TypeId} (g : w.heap[b]? = some (.cells cs t (0, 0))) {i : Nat} {u : Value} (h : cs[i]? = some u) : w.cell? ⟨b, i, none⟩ = some u := by
  rw [cell_of_row w b i _ _ (0, 0) g]; exact h
def atK (l : List DObj) (k : ByteArray) : Int := match l.findIdx? (fun o => decide (o.key = k)) with | some i => (i : Int) | none => -1
def openK (l : List DUpl) (i : Int) : Int := match l.findIdx? (fun u => decide (u.id = i)) with | some i => (i : Int) | none => -1
theorem find_hit {α : Type} {p : α → Bool} {l : List α} {i : Nat} {x : α} (hx : l[i]? = some x) (hp : p x = true) (hn : ∀ (j : Nat) (y : α), j < i → l[j]? = some y → p y = false) : l.findIdx? p = some i := by
  obtain ⟨hl, e⟩ := List.getElem?_eq_some_iff.1 hx
  rw [List.findIdx?_eq_some_iff_getElem]
  refine ⟨hl, by rw [e]; exact hp, fun j hj => ?_⟩
  rw [hn j l[j] hj (List.getElem?_eq_getElem (by omega))]
  decide
theorem find_miss {α : Type} {p : α → Bool} {l : List α} (hn : ∀ (j : Nat) (y : α), l[j]? = some y → p y = false) : l.findIdx? p = none := by
  rw [List.findIdx?_eq_none_iff]
  intro x hx
  obtain ⟨j, hj, e⟩ := List.getElem_of_mem hx
  exact hn j x (by rw [List.getElem?_eq_getElem hj, e])
theorem heap_alloc_newD (w : World) (o : Obj) : (w.alloc o).heap[w.heap.size]? = some o := (Go.MapKept.heap_alloc w o).1
set_option maxRecDepth 100000 in
set_option maxHeartbeats 4000000 in
theorem dat_any {w : World} {S base : Nat} {σ : DSto} (h : DStAt w S base σ) (k : ByteArray) :
    Calls Try.prog 17 #[.pointer (some ⟨S, 0, none⟩), .string k] w fun e w' => e = .returned (.int .i64 (atK σ.objs k)) ∧ w' = w := by
  have c0 := cell_blkD h.blk (i := 0) (u := .slice σ.oa σ.objs.length σ.oc) rfl
  have HV := Lib.hid h.objs
  have hof := h.of
  obtain ⟨l, hl⟩ : ∃ l, l = σ.objs := ⟨_, rfl⟩
  rw [← hl] at HV c0 hof
  rw [← hl]
  obtain ⟨n, hn⟩ : ∃ n, n = l.length := ⟨_, rfl⟩
  rw [← hn] at HV c0 hof
  have hcp := HV.out.cap
  have hcm := HV.out.capm
  clear h hl
  go_enter Try.func17, Try.ntmps17
  go_wp2_with fail
  go_loopw [11] (fun s11 wr => ∃ i : Nat, i ≤ n ∧ s11 = .int .i64 (i : Int) ∧ wr = w ∧ Hid (∀ j y, j < i → l[j]? = some y → decide (y.key = k) = false)) (fun s11 _ => n - (intOf s11).toNat)
  case atStart => exact ⟨0, by omega, rfl, rfl, Lib.hid (fun j y hj => by omega)⟩
  case round =>
    obtain ⟨i, hi, rfl, rfl, HN⟩ := hrel
    by_cases hin : i < n
    · obtain ⟨b, off, ha, _, _, hc⟩ := HV.out.get hin
      have hgl : l[i]? = some (l.getD i DObjS.z) := by
        have hl : i < l.length := by omega
        rw [List.getElem?_eq_getElem hl, List.getD_eq_getElem?_getD, List.getElem?_eq_getElem hl]; rfl
      obtain ⟨x, hx⟩ : ∃ x, x = l.getD i DObjS.z := ⟨_, rfl⟩
      rw [← hx] at hc hgl
      obtain ⟨q, hq⟩ : ∃ q, q = x.key := ⟨_, rfl⟩
      have k0 : wr.cell? ⟨b, off + i * 4, none⟩ = some (.string q) := hc 0 _ (by rw [hq]; rfl)
      have HGL := Lib.hid hgl
      have HQ := Lib.hid hq
      have zi : (i : Int) < (n : Int) := by omega
      have zi0 : (0 : Int) ≤ (i : Int) := by omega
      have wi : IntKind.i64.wrap ((i : Int) + 1) = (i : Int) + 1 := IntWalk.i64_in _ (by omega)
      rw [ha] at c0
      clear hc hx hgl hq ha
      by_cases e : q = k
      · have HR := Lib.hid (show atK l k = (i : Int) from by unfold atK; rw [find_hit HGL.out (by rw [← HQ.out]; exact decide_eq_true e) HN.out])
        subst e
        go_wp2_with fail
        first | go_ret2 | go_ret
        exact ⟨by rw [HR.out]; rfl, rfl⟩
      · have e2 := tl_neD e
        have HN2 := Lib.hid (show ∀ j y, j < i + 1 → l[j]? = some y → decide (y.key = k) = false from fun j y hj hy => by
          rcases Nat.lt_or_ge j i with g | g
          · exact HN.out j y g hy
          · obtain rfl : j = i := by omega
            rw [HGL.out] at hy
            cases hy
            exact decide_eq_false (by rw [← HQ.out]; exact e))
        go_wp2_with fail
        go_roundw
        case rel => exact ⟨i + 1, by omega, by push_cast; rfl, trivial, HN2⟩
        case measure => simp only [intOf]; omega
    · have e : i = n := by omega
      have HR := Lib.hid (show atK l k = -1 from by unfold atK; rw [find_miss (fun j y hy => HN.out j y (by have := (List.getElem?_eq_some_iff.1 hy).1; omega) hy)])
      go_wp2_with fail
      first | go_ret2 | go_ret
      exact ⟨by rw [HR.out]; rfl, rfl⟩
set_option maxRecDepth 100000 in
set_option maxHeartbeats 4000000 in
theorem dopen_any {w : World} {S base : Nat} {σ : DSto} (h : DStAt w S base σ) (k : Int) :
    Calls Try.prog 40 #[.pointer (some ⟨S, 0, none⟩), .int .i64 k] w fun e w' => e = .returned (.int .i64 (openK σ.ups k)) ∧ w' = w := by
  have c0 := cell_blkD h.blk (i := 1) (u := .slice σ.ua σ.ups.length σ.uc) rfl
  have HV := Lib.hid h.ups
  have hof := h.uf
  obtain ⟨l, hl⟩ : ∃ l, l = σ.ups := ⟨_, rfl⟩
  rw [← hl] at HV c0 hof
  rw [← hl]
  obtain ⟨n, hn⟩ : ∃ n, n = l.length := ⟨_, rfl⟩
  rw [← hn] at HV c0 hof
  have hcp := HV.out.cap
  have hcm := HV.out.capm
  clear h hl
  go_enter Try.func40, Try.ntmps40
  go_wp2_with fail
  go_loopw [11] (fun s11 wr => ∃ i : Nat, i ≤ n ∧ s11 = .int .i64 (i : Int) ∧ wr = w ∧ Hid (∀ j y, j < i → l[j]? = some y → decide (y.id = k) = false)) (fun s11 _ => n - (intOf s11).toNat)
  case atStart => exact ⟨0, by omega, rfl, rfl, Lib.hid (fun j y hj => by omega)⟩
  case round =>
    obtain ⟨i, hi, rfl, rfl, HN⟩ := hrel
    by_cases hin : i < n
    · obtain ⟨b, off, ha, _, _, hc⟩ := HV.out.get hin
      have hgl : l[i]? = some (l.getD i DUplS.z) := by
        have hl : i < l.length := by omega
        rw [List.getElem?_eq_getElem hl, List.getD_eq_getElem?_getD, List.getElem?_eq_getElem hl]; rfl
      obtain ⟨x, hx⟩ : ∃ x, x = l.getD i DUplS.z := ⟨_, rfl⟩
      rw [← hx] at hc hgl
      obtain ⟨q, hq⟩ : ∃ q, q = x.id := ⟨_, rfl⟩
      have k0 : wr.cell? ⟨b, off + i * 4, none⟩ = some (.int .i64 q) := hc 0 _ (by rw [hq]; rfl)
      have HGL := Lib.hid hgl
      have HQ := Lib.hid hq
      have zi : (i : Int) < (n : Int) := by omega
      have zi0 : (0 : Int) ≤ (i : Int) := by omega
      have wi : IntKind.i64.wrap ((i : Int) + 1) = (i : Int) + 1 := IntWalk.i64_in _ (by omega)
      rw [ha] at c0
      clear hc hx hgl hq ha
      by_cases e : q = k
      · have HR := Lib.hid (show openK l k = (i : Int) from by unfold openK; rw [find_hit HGL.out (by rw [← HQ.out]; exact decide_eq_true e) HN.out])
        subst e
        go_wp2_with fail
        first | go_ret2 | go_ret
        exact ⟨by rw [HR.out]; rfl, rfl⟩
      · have e2 : (q == k) = false := by simpa using e
        have HN2 := Lib.hid (show ∀ j y, j < i + 1 → l[j]? = some y → decide (y.id = k) = false from fun j y hj hy => by
          rcases Nat.lt_or_ge j i with g | g
          · exact HN.out j y g hy
          · obtain rfl : j = i := by omega
            rw [HGL.out] at hy
            cases hy
            exact decide_eq_false (by rw [← HQ.out]; exact e))
        go_wp2_with fail
        go_roundw
        case rel => exact ⟨i + 1, by omega, by push_cast; rfl, trivial, HN2⟩
        case measure => simp only [intOf]; omega
    · have e : i = n := by omega
      have HR := Lib.hid (show openK l k = -1 from by unfold openK; rw [find_miss (fun j y hy => HN.out j y (by have := (List.getElem?_eq_some_iff.1 hy).1; omega) hy)])
      go_wp2_with fail
      first | go_ret2 | go_ret
      exact ⟨by rw [HR.out]; rfl, rfl⟩
def psum (l : List DPrt) : Nat := (l.map (·.dn)).sum
def osum (l : List DObj) : Nat := (l.map (·.dn)).sum
def usum (l : List DUpl) : Nat := (l.map fun u => psum u.parts).sum
theorem sum_take {α : Type} (f : α → Nat) {l : List α} {i : Nat} {x : α} (h : l[i]? = some x) : ((l.take (i + 1)).map f).sum = ((l.take i).map f).sum + f x := by
  rw [List.take_add_one, h, Option.toList_some, List.map_append, List.sum_append]; simp
theorem sum_bound {α : Type} (f : α → Nat) {B : Nat} : ∀ {l : List α}, (∀ x ∈ l, f x ≤ B) → (l.map f).sum ≤ B * l.length
  | [], _ => by simp
  | a :: r, h => by
    have h1 := h a List.mem_cons_self
    have h2 := sum_bound f (B := B) (l := r) (fun x hx => h x (List.mem_cons_of_mem _ hx))
    rw [List.map_cons, List.sum_cons, List.length_cons, Nat.mul_add, Nat.mul_one]
    omega
theorem getD_some {α : Type} {l : List α} {i : Nat} {d : α} (h : i < l.length) : l[i]? = some (l.getD i d) := by
  rw [List.getElem?_eq_getElem h, List.getD_eq_getElem?_getD, List.getElem?_eq_getElem h]; rfl
set_option maxRecDepth 100000 in
set_option maxHeartbeats 4000000 in
theorem dsize1_any {w : World} {pa : Option Addr} {pn pc : Nat} {parts : List DPrt} (h : VecAt DPrtS w pa pn pc parts) (hs : ∀ p ∈ parts, p.dn ≤ 262144) (hn : pn ≤ 32) (i0 b0 : Int) (k : ByteArray) :
    Calls Try.prog 50 #[.agg #[.int .i64 i0, .int .i64 b0, .string k, .slice pa pn pc]] w fun e w' => e = .returned (.int .i64 (psum parts : Int)) ∧ Below w.heap.size w w' := by
  have HV := Lib.hid h
  have HS := Lib.hid hs
  have hcp := h.cap
  have hcm := h.capm
  obtain ⟨B, hB⟩ : ∃ B, B = w.heap.size := ⟨_, rfl⟩
  obtain ⟨W1, hW1⟩ : ∃ W1, W1 = w.alloc (.cells #[.int .i64 i0, .int .i64 b0, .string k, .slice pa pn pc] 85) := ⟨_, rfl⟩
  have hb1 : Below w.heap.size w W1 := by rw [hW1]; exact (Below.refl _ _).alloc (Nat.le_refl _) _
  have hk1 : W1.heap[B]? = some (.cells #[.int .i64 i0, .int .i64 b0, .string k, .slice pa pn pc] 85 (0, 0)) := by rw [hW1, hB]; exact heap_alloc_newD w _
  have c3 := cell_blkD hk1 (i := 3) (u := .slice pa pn pc) rfl
  have HB1 := Lib.hid hb1
  have HW1 := Lib.hid hW1
  have HBE := Lib.hid hB
  clear h hs hb1 hk1 hW1 hB
  go_enter Try.func50, Try.ntmps50
  go_upto_region 1 with fail
  rw [← HW1.out, ← HBE.out]
  go_wp2_with fail
  go_loopw [3, 9] (fun s3 s9 wr => ∃ (i z : Nat), i ≤ pn ∧ z ≤ 262144 * i ∧ s9 = .int .i64 i ∧ s3 = .int .i64 z ∧ Hid (z = psum (parts.take i)) ∧ Hid (Below w.heap.size w wr)) (fun _ s9 _ => pn - (intOf s9).toNat)
  case atStart => exact ⟨0, 0, by omega, by omega, rfl, rfl, Lib.hid rfl, HB1⟩
  case round =>
    clear HB1 c3
    obtain ⟨i, z, hi, hz, rfl, rfl, HZ, HB⟩ := hrel
    rename World => wr
    by_cases hin : i < pn
    · obtain ⟨b, off, rfl, _, _, hc⟩ := (HV.out.kept HB.out).get hin
      have hgl := getD_some (d := DPrtS.z) (show i < parts.length by rw [HV.out.len]; exact hin)
      obtain ⟨x, hx⟩ : ∃ x, x = parts.getD i DPrtS.z := ⟨_, rfl⟩
      rw [← hx] at hc hgl
      have hsm := HS.out x (List.mem_of_getElem? hgl)
      have HZ2 := Lib.hid (show psum (parts.take (i + 1)) = z + x.dn from by rw [HZ.out]; exact sum_take (·.dn) hgl)
      obtain ⟨xn, xa, xd, xc, xs⟩ := x
      have k0 : wr.cell? ⟨b, off + i * 2, none⟩ = some (.int .i64 xn) := hc 0 _ rfl
      have k1 : wr.cell? ⟨b, off + i * 2 + 1, none⟩ = some (.slice xa xd xc) := hc 1 _ rfl
      have hxd : xd ≤ 262144 := hsm
      obtain ⟨bx, hbx⟩ : ∃ bx, bx = wr.heap.size := ⟨_, rfl⟩
      obtain ⟨W3, hW3⟩ : ∃ W3, W3 = wr.alloc (.cells #[.int .i64 xn, .slice xa xd xc] 115) := ⟨_, rfl⟩
      have hb3 : Below wr.heap.size wr W3 := by rw [hW3]; exact (Below.refl _ _).alloc (Nat.le_refl _) _
      have hk3 : W3.heap[bx]? = some (.cells #[.int .i64 xn, .slice xa xd xc] 115 (0, 0)) := by rw [hW3, hbx]; exact heap_alloc_newD wr _
      have d1 := cell_blkD hk3 (i := 1) (u := .slice xa xd xc) rfl
      have HB3 := Lib.hid (HB.out.trans (hb3.mono HB.out.size))
      have HW3 := Lib.hid hW3
      have HBX := Lib.hid hbx
      have zi : (i : Int) < (pn : Int) := by omega
      have zi0 : (0 : Int) ≤ (i : Int) := by omega
      have wi : IntKind.i64.wrap ((i : Int) + 1) = (i : Int) + 1 := IntWalk.i64_in _ (by omega)
      have wz : IntKind.i64.wrap ((z : Int) + (xd : Int)) = (z : Int) + (xd : Int) := IntWalk.i64_in _ (by omega)
      clear hc hx hgl hsm hbx hW3 hb3 hk3 HB
      go_upto_region 5 with fail
      rw [← HW3.out, ← HBX.out]
      clear k0 k1
      go_wp2_with fail
      go_roundw
      case rel => exact ⟨i + 1, z + xd, by omega, by omega, by push_cast; rfl, by push_cast; rfl, Lib.hid HZ2.out.symm, HB3⟩
      case measure => simp only [intOf]; omega
    · have HE := Lib.hid (show psum parts = z from by rw [HZ.out, List.take_of_length_le (by rw [HV.out.len]; omega)])
      go_wp2_with fail
      first | go_ret2 | go_ret
      exact ⟨by rw [HE.out]; rfl, HB.out⟩
end Go.Proofs.Ytodoklnohedolaa
end PkUC1_7
