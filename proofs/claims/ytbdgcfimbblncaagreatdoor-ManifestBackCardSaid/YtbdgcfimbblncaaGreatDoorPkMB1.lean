/- Texts put together by packtpl2.py: Kit, Twin, Own, NumsPlain, NumsPut, NumsZig, NPuti, NU, NRU, NI, Cur, Vec, LabPlain, MfA, MfB. -/
import Derived.Test.YtbdgcfimbblncaaGreatDoorRows
import Derived.WalkKit
import Derived.Lib.Hide
import Derived.Laws.BytesArg
import Derived.Lib.SlBytesRow
import Derived.Outline
import Derived.Laws.Strings
import Derived.Laws.AppendOwnNone
import Derived.WalkSpells
import Derived.WalkSmall
import Derived.Deep.QuietTactic
import Derived.BigQuiet
import Derived.Deep.RegionHeld3
import Derived.Laws.BitsAllLaws
import Derived.Deep.Onto
import Derived.Deep.Slices
import Derived.Deep.Fields
import Derived.SizedLaws
import Derived.Below
import Derived.OpenShut
import Derived.Laws.Cover1
section PkMB1_0
/- Small words for walks over slices of bytes: a slice of bytes wherever it lies, kept behind calls that leave old memory alone; its text; two of them compared. No condition beyond what each lemma names. -/
namespace Go.Proofs.YtbdgcfimbblncaaGreatDoor
open Go.RowKit
set_option linter.unusedVariables false

theorem info_u8 : (Tryz.prog.info? 5).map (fun i => (i.zero, i.size, i.bytes)) = some (some (.int .u8 0), 1, 1) := by kernel_rfl

/-- bytes as values -/
def bv (l : List Nat) : List Value := l.map fun (x : Nat) => Value.int .u8 (x : Int)
theorem bv_length (l : List Nat) : (bv l).length = l.length := by simp [bv]
theorem bv_append (l r : List Nat) : bv (l ++ r) = bv l ++ bv r := by simp [bv]
theorem bv_get (l : List Nat) (i : Nat) (h : i < l.length) : (bv l)[i]? = some (Value.int .u8 ((l.getD i 0 : Nat) : Int)) := by simp [bv, h]
theorem bv_oneCell (l : List Nat) : ∀ u ∈ bv l, u.oneCell' = true := by
  intro u hu
  simp only [bv, List.mem_map] at hu
  obtain ⟨x, _, rfl⟩ := hu
  rfl

theorem one_oneCell {v : Value} (h : v.oneCell' = true) : ∀ u ∈ [v], u.oneCell' = true := by
  intro u hu
  simp at hu
  subst hu
  exact h

theorem one_src (w : World) (x : Value) (t : TypeId) : ∀ j u, [x][j]? = some u → (w.alloc (.cells #[x] t)).cell? ((⟨w.heap.size, 0, none⟩ : Addr).add j) = some u := by
  intro j u hj
  match j, hj with
  | 0, hj =>
    simp at hj
    subst hj
    simp [Addr.add]

/-- a slice of bytes: whatever its address where it has none -/
structure BytesAt (w : World) (a : Option Addr) (n c : Nat) (xs : List Nat) : Prop where
  len : xs.length = n
  cap : n ≤ c
  byte : ∀ x ∈ xs, x < 256
  reach : n ≤ 140737488351232
  capm : c ≤ 9223372036854775807
  nl : a = none → c = 0
  cells : 0 < n → ∃ b off, a = some ⟨b, off, none⟩ ∧ b < w.heap.size ∧ ∀ i, i < n → w.cell? ⟨b, off + i, none⟩ = some (.int .u8 ((xs.getD i 0 : Nat) : Int))

theorem BytesAt.keep {w w' : World} {a : Option Addr} {n c : Nat} {xs : List Nat} (h : BytesAt w a n c xs) {B : Nat} (hb : Below B w w') (hB : w.heap.size ≤ B) : BytesAt w' a n c xs :=
  ⟨h.len, h.cap, h.byte, h.reach, h.capm, h.nl, fun hn => by
    obtain ⟨b, off, ha, hlt, hc⟩ := h.cells hn
    exact ⟨b, off, ha, Nat.lt_of_lt_of_le hlt hb.size, fun i hi => (hb.cell (p := ⟨b, off + i, none⟩) (Nat.lt_of_lt_of_le hlt hB)).trans (hc i hi)⟩⟩

theorem BytesAt.kept {w w' : World} {a : Option Addr} {n c : Nat} {xs : List Nat} (h : BytesAt w a n c xs) (hb : Below w.heap.size w w') : BytesAt w' a n c xs := h.keep hb (Nat.le_refl _)
theorem BytesAt.alloc {w : World} {a : Option Addr} {n c : Nat} {xs : List Nat} (h : BytesAt w a n c xs) (o : Obj) : BytesAt (w.alloc o) a n c xs := h.kept ((Below.refl _ _).alloc (Nat.le_refl _) o)

theorem BytesAt.empty (w : World) (a : Option Addr) (c : Nat) (hc : c ≤ 9223372036854775807) (ha : a = none → c = 0) : BytesAt w a 0 c [] :=
  ⟨rfl, Nat.zero_le _, (fun x hx => by cases hx), Nat.zero_le _, hc, ha, fun h => absurd h (Nat.lt_irrefl 0)⟩

theorem BytesAt.upto {w : World} {a : Option Addr} {n c : Nat} {xs : List Nat} (h : BytesAt w a n c xs) (k : Nat) (hk : k ≤ n) : BytesAt w a k c (xs.take k) := by
  have hl := h.len
  have hc := h.cap
  have hr := h.reach
  refine ⟨by simp; omega, by omega, fun x hx => h.byte x (List.mem_of_mem_take hx), by omega, h.capm, h.nl, fun hp => ?_⟩
  obtain ⟨b, off, ha, hlt, hcell⟩ := h.cells (by omega)
  refine ⟨b, off, ha, hlt, fun i hi => ?_⟩
  rw [hcell i (by omega)]
  have : i < xs.length := by omega
  simp [hi]

theorem BytesAt.src {w : World} {ad : Addr} {n c : Nat} {xs : List Nat} (h : BytesAt w (some ad) n c xs) : ∀ j u, (bv xs)[j]? = some u → w.cell? (ad.add j) = some u := by
  intro j u hj
  have hlt : j < xs.length := by
    rcases Nat.lt_or_ge j xs.length with g | g
    · exact g
    · rw [List.getElem?_eq_none (by rw [bv_length]; exact g)] at hj; cases hj
  have hl := h.len
  obtain ⟨b, off, ha, _, hc⟩ := h.cells (by omega)
  cases ha
  have h4 : (⟨b, off, none⟩ : Addr).add j = ⟨b, off + j, none⟩ := by unfold Addr.add; split <;> simp_all
  rw [h4, hc j (by omega), ← bv_get xs j hlt, hj]

/-- what the call owns -/
theorem BytesAt.own {w : World} {base n : Nat} {v : Value} {xs : List Nat} (h : w.ownsRow base 5 1 v n (bv xs)) (hb : ∀ x ∈ xs, x < 256) (hp : 0 < n) (hr : n ≤ 140737488351232) :
    ∃ g c, v = .slice (some ⟨g, 0, none⟩) n c ∧ base ≤ g ∧ g < w.heap.size ∧ BytesAt w (some ⟨g, 0, none⟩) n c xs := by
  rcases h.2 with ⟨_, h0⟩ | ⟨g, cap, cur, rfl, hg, hh, hn, hcap, hsz, htake⟩
  · omega
  · have hlt : g < w.heap.size := (Array.getElem?_eq_some_iff.1 hh).1
    have hl : xs.length = n := by have := h.1; simpa [bv_length] using this
    refine ⟨g, cap, rfl, hg, hlt, hl, hn, hb, hr, (by unfold maxLen at hcap; exact hcap), (fun e => by cases e), fun _ => ⟨g, 0, rfl, hlt, fun i hi => ?_⟩⟩
    have := h.cellAt i (by omega)
    rw [Nat.zero_add, this, bv_get _ _ (by omega)]

/-- bytes written out in a new block -/
theorem BytesAt.lit (w : World) (cs : Array Value) (l : List Nat) (hcs : cs.toList = bv l) (hl : ∀ x ∈ l, x < 256) (hp : 0 < l.length) (hr : l.length ≤ 140737488351232) :
    BytesAt (w.alloc (.cells cs 5)) (some ⟨w.heap.size, 0, none⟩) l.length l.length l := by
  have hsz : cs.size = l.length := by rw [← Array.length_toList, hcs, bv_length]
  have h := World.ownsRow_lit (base := w.heap.size) (e := 5) (size := 1) w cs l.length (Nat.le_refl _) (by unfold maxLen; omega) (by omega)
  rw [hcs] at h
  obtain ⟨g, c, hv, _, _, hb⟩ := BytesAt.own h hl hp hr
  simp only [Value.slice.injEq, Option.some.injEq, Addr.mk.injEq, and_true, true_and] at hv
  obtain ⟨rfl, rfl⟩ := hv
  exact hb

/-- append of bytes, wherever they lie, to bytes that the call owns -/
theorem wpList_append_bytes {w : World} {ops : Array Oper} {rest : List Oper} {o : Oper} {a : Act} {Q : Exit → Act → World → Prop} (hgd : o.guard = none) (s x : Operand)
    (ho : o.op = .call { callee := .builtin .append, args := #[s, x], argTypes := #[30, 30] })
    (base : Nat) (v : Value) (n : Nat) (xs : List Nat) (hs : a.eval s = v) (hown : w.ownsRow base 5 1 v n (bv xs))
    (src : Option Addr) (m c : Nat) (ys : List Nat) (hx : a.eval x = .slice src m c) (hb : BytesAt w src m c ys)
    (h63 : n + m ≤ 140737488355328) (hbase : base ≤ w.heap.size)
    (h : ∀ v' w', w'.ownsRow base 5 1 v' (n + m) (bv (xs ++ ys)) → w.grownBy w' v.ownBlock → wpList Tryz.prog ops Q rest (a.put o.dst v') w') : wpList Tryz.prog ops Q (o :: rest) a w := by
  obtain ⟨i0, hi, hz0, hz1, hz2⟩ := info_parts info_u8
  rcases src with _ | ad
  · have hc := hb.nl rfl
    have hm : m = 0 := by have := hb.cap; omega
    subst hm
    subst hc
    have hy : ys = [] := List.eq_nil_of_length_eq_zero hb.len
    subst hy
    refine wpList_append_own_none hgd s x 30 ho base 5 i0 1 Tryz.underlying30 hi v n (bv xs) hs hown hx ?_
    exact h v w (by simpa using hown) (World.grownBy.refl _ _)
  · refine wpList_append_own w hgd s x 30 ho base 5 i0 (.int .u8 0) 1 1 Tryz.underlying30 hi hz0 hz1 hz2 rfl (by decide) v n (bv xs) hs hown ad m c (bv ys) hx (by rw [bv_length, hb.len]; omega) hb.src (bv_oneCell _) (by unfold maxLen; omega) (by omega) hbase ?_
    intro v' w' h1 h2 _
    exact h v' w' (by rw [bv_append]; exact h1) h2

/-- the text of bytes -/
def bs (xs : List Nat) : ByteArray := strOfNums (xs.map fun (x : Nat) => (x : Int))

theorem bs_inj {xs ys : List Nat} (hx : ∀ x ∈ xs, x < 256) (hy : ∀ y ∈ ys, y < 256) (h : (bs xs).data.toList = (bs ys).data.toList) : xs = ys := by
  have e : ∀ l : List Nat, (∀ x ∈ l, x < 256) → (bs l).data.toList.map UInt8.toNat = l := by
    intro l hl
    simp only [bs, strOfNums_data, List.map_map]
    conv => rhs; rw [← List.map_id l]
    apply List.map_congr_left
    intro x hx
    have := hl x hx
    simp [Nat.mod_eq_of_lt this]
  rw [← e xs hx, ← e ys hy, h]

theorem bs_toList (xs : List Nat) : (bs xs).toList = (bs xs).data.toList := ByteArray.toList_eq _
theorem bs_eq {xs ys : List Nat} (hx : ∀ x ∈ xs, x < 256) (hy : ∀ y ∈ ys, y < 256) : ((bs xs).toList == (bs ys).toList) = (xs == ys) := by
  rw [Bool.eq_iff_iff]
  simp only [beq_iff_eq, bs_toList]
  exact ⟨fun h => bs_inj hx hy h, fun h => by rw [h]⟩

theorem BytesAt.conv {w : World} {a : Option Addr} {n c : Nat} {xs : List Nat} (h : BytesAt w a n c xs) :
    (convert 30 9 (.slice a n c)).run Tryz.prog w = .ok (.string (bs xs)) w := by
  rcases Nat.eq_zero_or_pos n with h0 | hp
  · subst h0
    have hx : xs = [] := List.eq_nil_of_length_eq_zero h.len
    subst hx
    rw [run_convert_bytes_string w 30 9 5 _ 0 c Tryz.underlying30 Tryz.underlying5 Tryz.underlying9]
    cases a <;> simp [Conv.bytesToString, loadCells] <;> rfl
  · obtain ⟨b, off, rfl, _, hc⟩ := h.cells hp
    exact run_convert_bytes_arg (P := Tryz.prog) w 30 5 Tryz.underlying30 Tryz.underlying5 b off n c (xs.map fun (x : Nat) => (x : Int)) (by simpa using h.len) (fun i hi => by
      rw [hc i hi]
      have : i < xs.length := by have := h.len; omega
      simp [this]) 9 Tryz.underlying9

set_option maxHeartbeats 400000 in
theorem same_any {a a' : Option Addr} {n n' c c' : Nat} {xs ys : List Nat} {w : World} (hx : BytesAt w a n c xs) (hy : BytesAt w a' n' c' ys) :
    Calls Tryz.prog 13 #[.slice a n c, .slice a' n' c'] w fun e w' => e = .returned (.bool (xs == ys)) ∧ w = w' := by
  have h1 := hx.conv
  have h2 := hy.conv
  have he := bs_eq hx.byte hy.byte
  clear hx hy
  go_enter Tryz.func13, Tryz.ntmps13
  go_wp2
  go_ret
  exact ⟨by rw [← he]; rfl, rfl⟩

/-- what a walk is told of a slice of integers that came in: nil; or it leads to a row of 'cap' cells, the numbers 'zs', each fitting its kind; it takes at most the reach -/
def IsRow (k : IntKind) (sz : Nat) (w : World) (a : Option Addr) (len cap : Nat) (zs : List Int) : Prop :=
  (a = none ∧ len = 0 ∧ cap = 0 ∧ zs = []) ∨
  ∃ x, a = some x ∧ len ≤ cap ∧ cap ≤ maxLen ∧ zs.length = cap ∧ (∀ i, i < zs.length → w.cell? (x.add i) = some (.int k (zs.getD i 0))) ∧ (∀ n ∈ zs, (Lit.int k n).wf = true) ∧ cap * sz ≤ 140737488351232

theorem byte_of_wf {n : Int} (h : (Lit.int .u8 n).wf = true) : 0 ≤ n ∧ n ≤ 255 := by
  simpa [Lit.wf, IntKind.min, IntKind.max, IntKind.signed, IntKind.bits] using h

theorem IsRow.bytes {w : World} {a : Option Addr} {len cap : Nat} {zs : List Int} (h : IsRow .u8 1 w a len cap zs) : ∃ xs : List Nat, BytesAt w a len cap xs := by
  rcases h with ⟨rfl, rfl, rfl, rfl⟩ | ⟨x, rfl, hl, hm, hz, hcell, hwz, hr⟩
  · exact ⟨[], BytesAt.empty w none 0 (by omega) (fun _ => rfl)⟩
  · refine ⟨(zs.take len).map Int.toNat, by simp; omega, hl, ?_, by omega, by omega, (fun e => by cases e), fun hp => ?_⟩
    · intro y hy
      simp only [List.mem_map] at hy
      obtain ⟨z, hzm, rfl⟩ := hy
      have := byte_of_wf (hwz z (List.mem_of_mem_take hzm))
      omega
    · obtain ⟨b, off, spot⟩ := x
      have hc := hcell 0 (by omega)
      have hspot : spot = none := by simpa [Addr.add] using World.cell?_spot hc
      subst hspot
      refine ⟨b, off, rfl, ?_, fun i hi => ?_⟩
      · have := World.block_lt_of_cell? w _ hc
        simpa [Addr.add] using this
      · have h1 := hcell i (by omega)
        have h2 : i < zs.length := by omega
        have h3 := byte_of_wf (hwz zs[i] (List.getElem_mem h2))
        have h4 : (⟨b, off, none⟩ : Addr).add i = ⟨b, off + i, none⟩ := by unfold Addr.add; split <;> simp_all
        rw [h4] at h1
        rw [h1]
        have e1 : zs.getD i 0 = zs[i] := by simp [h2]
        have e2 : (((zs.take len).map Int.toNat).getD i 0 : Nat) = zs[i].toNat := by
          simp [h2, hi]
        rw [e1, e2]
        congr 2
        omega
end Go.Proofs.YtbdgcfimbblncaaGreatDoor
end PkMB1_0
section PkMB1_1
/- Twin and bytes.Clone, walked; small words beside them. -/
namespace Go.Proofs.YtbdgcfimbblncaaGreatDoor
open Go.RowKit
set_option linter.unusedVariables false

theorem u32_of_wf' {n : Int} (h : (Lit.int .u32 n).wf = true) : ∃ m : Nat, n = (m : Int) ∧ m < 4294967296 := by
  have : 0 ≤ n ∧ n ≤ 4294967295 := by simpa [Lit.wf, IntKind.min, IntKind.max, IntKind.signed, IntKind.bits] using h
  exact ⟨n.toNat, by omega, by omega⟩
theorem u64_of_wf {n : Int} (h : (Lit.int .u64 n).wf = true) : ∃ m : Nat, n = (m : Int) ∧ m < 18446744073709551616 := by
  have : 0 ≤ n ∧ n ≤ 18446744073709551615 := by simpa [Lit.wf, IntKind.min, IntKind.max, IntKind.signed, IntKind.bits] using h
  exact ⟨n.toNat, by omega, by omega⟩

theorem i64_of_wf {n : Int} (h : (Lit.int .i64 n).wf = true) : -9223372036854775808 ≤ n ∧ n ≤ 9223372036854775807 := by
  simpa [Lit.wf, IntKind.min, IntKind.max, IntKind.signed, IntKind.bits] using h

theorem BytesAt.drew {w : World} {a : Option Addr} {n c : Nat} {xs : List Nat} (h : BytesAt w a n c xs) : BytesAt w.drew a n c xs :=
  ⟨h.len, h.cap, h.byte, h.reach, h.capm, h.nl, h.cells⟩

theorem BytesAt.drewN {w : World} {a : Option Addr} {n c : Nat} {xs : List Nat} (h : BytesAt w a n c xs) (k : Nat) : BytesAt (w.drewN k) a n c xs :=
  h.kept ⟨rfl, rfl, rfl, Nat.le_refl _, fun _ _ => rfl⟩

theorem grown_drewN (w : World) (k : Nat) (r : Option Nat) : w.grownBy (w.drewN k) r := ⟨rfl, rfl, rfl, Nat.le_refl _, fun _ _ _ => rfl⟩
theorem _root_.Go.World.grownBy.trans' {a b c : World} {r : Option Nat} (h : a.grownBy b r) (k : b.grownBy c r) : a.grownBy c r :=
  ⟨k.os.trans h.os, k.tape.trans h.tape, k.output.trans h.output, Nat.le_trans h.size k.size, fun i hi hr => (k.block i (Nat.lt_of_lt_of_le hi h.size) hr).trans (h.block i hi hr)⟩

/-- a row of integers that came in -/
structure RowAt (k : IntKind) (w : World) (a : Option Addr) (n c : Nat) (zs : List Int) : Prop where
  cap : n ≤ c
  capm : c ≤ 9223372036854775807
  nl : a = none → c = 0
  cells : 0 < n → ∃ b off, a = some ⟨b, off, none⟩ ∧ b < w.heap.size ∧ ∀ i, i < n → w.cell? ⟨b, off + i, none⟩ = some (.int k (zs.getD i 0)) ∧ (Lit.int k (zs.getD i 0)).wf = true

theorem IsRow.at_ {k : IntKind} {s : Nat} {w : World} {a : Option Addr} {len cap : Nat} {zs : List Int} (h : IsRow k s w a len cap zs) : RowAt k w a len cap zs := by
  rcases h with ⟨rfl, rfl, rfl, rfl⟩ | ⟨x, rfl, hl, hm, hz, hcell, hwz, hr⟩
  · exact ⟨Nat.le_refl _, by omega, fun _ => rfl, fun h => absurd h (Nat.lt_irrefl 0)⟩
  · refine ⟨hl, by unfold maxLen at hm; exact hm, (fun e => by cases e), fun hp => ?_⟩
    obtain ⟨b, off, spot⟩ := x
    have hc := hcell 0 (by omega)
    have hspot : spot = none := by simpa [Addr.add] using World.cell?_spot hc
    subst hspot
    refine ⟨b, off, rfl, ?_, fun i hi => ?_⟩
    · have := World.block_lt_of_cell? w _ hc
      simpa [Addr.add] using this
    · have h1 := hcell i (by omega)
      have h4 : (⟨b, off, none⟩ : Addr).add i = ⟨b, off + i, none⟩ := by unfold Addr.add; split <;> simp_all
      rw [h4] at h1
      have h2 : i < zs.length := by omega
      refine ⟨h1, hwz _ ?_⟩
      have : zs.getD i 0 = zs[i] := by simp [h2]
      rw [this]
      exact List.getElem_mem h2

theorem BytesAt.ofOwn {w : World} {base n : Nat} {v : Value} {xs : List Nat} (h : w.ownsRow base 5 1 v n (bv xs)) (hb : ∀ x ∈ xs, x < 256) (hr : n ≤ 140737488351232) :
    ∃ a c, v = .slice a n c ∧ BytesAt w a n c xs ∧ (∀ b off s, a = some ⟨b, off, s⟩ → base ≤ b) := by
  rcases Nat.eq_zero_or_pos n with h0 | hp
  · subst h0
    have hx : xs = [] := by
      have := h.1
      simp only [Nat.zero_mul, bv_length] at this
      exact List.eq_nil_of_length_eq_zero this
    subst hx
    rcases h.2 with ⟨h1, _⟩ | ⟨g, cap, cur, rfl, hg, hh, hn, hcap, hsz, htake⟩
    · subst h1
      exact ⟨none, 0, rfl, BytesAt.empty _ _ _ (by omega) (fun _ => rfl), fun _ _ _ e => by cases e⟩
    · exact ⟨some ⟨g, 0, none⟩, cap, rfl, BytesAt.empty _ _ _ (by unfold maxLen at hcap; exact hcap) (fun e => by cases e), fun b off s e => by cases e; exact hg⟩
  · obtain ⟨g, c, rfl, hg, hlt, hba⟩ := BytesAt.own h hb hp hr
    exact ⟨some ⟨g, 0, none⟩, c, rfl, hba, fun b off s e => by cases e; exact hg⟩

set_option maxRecDepth 100000 in
set_option maxHeartbeats 1000000 in
theorem twin_any {a : Option Addr} {n c : Nat} {xs : List Nat} {w : World} (h : BytesAt w a n c xs) :
    Calls Tryz.prog 15 #[.slice a n c] w fun e w' => ∃ v, e = .returned v ∧ w'.ownsRow w.heap.size 5 1 v n (bv xs) ∧ v ≠ .slice none 0 0 ∧ Below w.heap.size w w' := by
  obtain ⟨i0, hi, hz0, hz1, hz2⟩ := info_parts info_u8
  have hown0 := World.ownsRow_lit (base := w.heap.size) (e := 5) (size := 1) w #[] 0 (Nat.le_refl _) (by unfold maxLen; omega) rfl
  have hreach := h.reach
  have hlen := h.len
  rcases a with _ | ad
  · have hc0 := h.nl rfl
    have hn0 : n = 0 := by have := h.cap; omega
    subst hn0
    subst hc0
    obtain rfl : xs = [] := List.eq_nil_of_length_eq_zero hlen
    clear h
    go_enter Tryz.func15, Tryz.ntmps15
    go_wp2_with (at_builtin; refine wpList_append_own_none rfl (.tmp 3) (.tmp 4) 30 rfl w.heap.size 5 i0 1 Tryz.underlying30 hi _ _ _ rfl hown0 rfl ?_)
    go_ret
    exact ⟨_, rfl, hown0, (fun e => by cases e), (Below.refl _ _).alloc (Nat.le_refl _) _⟩
  · have hsrc := (h.alloc (.cells #[] 5)).src
    have HS := Lib.hid hsrc
    clear hsrc h
    go_enter Tryz.func15, Tryz.ntmps15
    go_wp2_with (at_builtin; refine wpList_append_own _ rfl (.tmp 3) (.tmp 4) 30 rfl w.heap.size 5 i0 (.int .u8 0) 1 1 Tryz.underlying30 hi hz0 hz1 hz2 rfl (by decide) _ _ _ rfl hown0 ad n c (bv xs) rfl ?c1 HS.out (bv_oneCell _) ?c3 ?c4 (by simp) ?_)
    case c1 => simp [bv_length, hlen]
    case c3 => unfold maxLen; omega
    case c4 => omega
    intro v' w1 hown' hgrow hnil
    go_wp2
    go_ret
    refine ⟨v', rfl, ?_, ?_, ?_⟩
    · simpa using hown'
    · exact hnil
    · exact ((Below.refl _ _).alloc (Nat.le_refl _) _).grown hgrow (by simp) (fun k hk => by simp [Value.ownBlock] at hk; omega)

/-- as a slice of bytes wherever -/
theorem twin {a : Option Addr} {n c : Nat} {xs : List Nat} {w : World} (h : BytesAt w a n c xs) :
    Calls Tryz.prog 15 #[.slice a n c] w fun e w' => ∃ g k, e = .returned (.slice (some ⟨g, 0, none⟩) n k) ∧ w.heap.size ≤ g ∧ g < w'.heap.size ∧
      w'.ownsRow w.heap.size 5 1 (.slice (some ⟨g, 0, none⟩) n k) n (bv xs) ∧ BytesAt w' (some ⟨g, 0, none⟩) n k xs ∧ Below w.heap.size w w' := by
  refine (twin_any h).mono ?_
  rintro e w' ⟨v, rfl, hown, hnn, hb⟩
  rcases hown.2 with ⟨h0, _⟩ | ⟨g, cap, cur, rfl, hg, hh, hn, hcap, hsz, htake⟩
  · exact absurd h0 hnn
  · have hlt : g < w'.heap.size := (Array.getElem?_eq_some_iff.1 hh).1
    refine ⟨g, cap, rfl, hg, hlt, hown, ⟨h.len, hn, h.byte, h.reach, (by unfold maxLen at hcap; exact hcap), (fun e => by cases e), fun hp => ⟨g, 0, rfl, hlt, fun i hi => ?_⟩⟩, hb⟩
    have := hown.cellAt i (by omega)
    rw [Nat.zero_add, this, bv_get _ _ (by have := h.len; omega)]

set_option maxRecDepth 100000 in
set_option maxHeartbeats 1000000 in
theorem clone_any {a : Option Addr} {n c : Nat} {xs : List Nat} {w : World} (h : BytesAt w a n c xs) :
    Calls Tryz.prog 89 #[.slice a n c] w fun e w' => ∃ a' c', e = .returned (.slice a' n c') ∧ BytesAt w' a' n c' xs ∧ Below w.heap.size w w' ∧ (∀ b off s, a' = some ⟨b, off, s⟩ → w.heap.size ≤ b) := by
  have q : ∀ (w : World) (a : Option Addr) (n c n' c' : Nat), (binOp .eql 30 (.slice a n c) (.slice none n' c')).run Tryz.prog w = .ok (.bool a.isNone) w := fun w a n c n' c' => Lib.run_eql_slice_nil w _ _ a n c n' c' Tryz.underlying30
  have hown0 := World.ownsRow_lit (base := w.heap.size) (e := 5) (size := 1) w #[] 0 (Nat.le_refl _) (by unfold maxLen; omega) rfl
  have hreach := h.reach
  have hlen := h.len
  rcases a with _ | ad
  · have hc0 := h.nl rfl
    have hn0 : n = 0 := by have := h.cap; omega
    subst hn0
    subst hc0
    have HH := Lib.hid h
    clear h hlen
    go_enter Tryz.func89, Tryz.ntmps89
    go_wp2_with fail
    go_ret
    exact ⟨none, 0, rfl, HH.out, Below.refl _ _, fun _ _ _ e => by cases e⟩
  · have HH := Lib.hid h
    have ha := h.alloc (.cells #[] 5)
    have HA := Lib.hid ha
    clear h ha
    go_enter Tryz.func89, Tryz.ntmps89
    go_wp2_with (at_builtin; refine wpList_append_bytes rfl (.tmp 5) (.tmp 6) rfl w.heap.size _ _ [] rfl hown0 _ _ _ _ rfl HA.out (by omega) (by simp) ?_)
    intro v' w1 hown' hgrow
    have hown2 : w1.ownsRow w.heap.size 5 1 v' n (bv xs) := by simpa using hown'
    clear hown'
    have hb : Below w.heap.size w w1 := ((Below.refl _ _).alloc (Nat.le_refl _) _).grown hgrow (by simp) (fun k hk => by simp [Value.ownBlock] at hk; omega)
    go_wp2_with fail
    go_ret
    rcases hown2.2 with ⟨h0, h1⟩ | ⟨g, cap, cur, rfl, hg, hh, hn, hcap, hsz, htake⟩
    · subst h0
      subst h1
      obtain rfl : xs = [] := List.eq_nil_of_length_eq_zero hlen
      exact ⟨none, 0, rfl, BytesAt.empty _ _ _ (by omega) (fun _ => rfl), hb, fun _ _ _ e => by cases e⟩
    · have hlt : g < w1.heap.size := (Array.getElem?_eq_some_iff.1 hh).1
      refine ⟨some ⟨g, 0, none⟩, cap, rfl, ⟨hlen, hn, HH.out.byte, hreach, (by unfold maxLen at hcap; exact hcap), (fun e => by cases e), fun hp => ⟨g, 0, rfl, hlt, fun i hi => ?_⟩⟩, hb, fun b off s e => by cases e; exact hg⟩
      have := hown2.cellAt i (by omega)
      rw [Nat.zero_add, this, bv_get _ _ (by omega)]

end Go.Proofs.YtbdgcfimbblncaaGreatDoor
end PkMB1_1
section PkMB1_2
/- Bytes that the call owns, kept behind calls that leave old memory alone; bytes.Clone gives such ones. -/
namespace Go.Proofs.YtbdgcfimbblncaaGreatDoor
open Go.RowKit
set_option linter.unusedVariables false

theorem own_below {w w' : World} {base : Nat} {e : TypeId} {size : Nat} {v : Value} {n : Nat} {xs : List Value} (h : w.ownsRow base e size v n xs) (hb : Below w.heap.size w w') : w'.ownsRow base e size v n xs :=
  h.kept (row := none) ⟨hb.os, hb.tape, hb.output, hb.size, fun k hk _ => hb.block k hk⟩ (by cases hv : v.ownBlock <;> simp)

theorem own_nil_bytes (w : World) (base : Nat) : w.ownsRow base 5 1 (.slice none 0 0) 0 (bv []) := World.ownsRow_nil w base _ _

/-- what is appended to what a call owns: the frame stays below -/
theorem below_own {w w' : World} {B base : Nat} {e : TypeId} {size : Nat} {v : Value} {n : Nat} {xs : List Value} {w0 : World} (hb : Below B w0 w) (hown : w.ownsRow base e size v n xs) (hg : w.grownBy w' v.ownBlock) (hB : B ≤ base) (hs : B ≤ w.heap.size) : Below B w0 w' :=
  hb.grown hg hs (fun k hk => Nat.le_trans hB (hown.lt k hk).1)
/-- what a call owns of one type, and of another: not in one block -/
theorem own_ne2 {w : World} {base base' : Nat} {e e' : TypeId} {size size' : Nat} {v v' : Value} {n n' : Nat} {xs xs' : List Value} (h : w.ownsRow base e size v n xs) (h' : w.ownsRow base' e' size' v' n' xs') (hne : e ≠ e') : v.ownBlock = none ∨ v.ownBlock ≠ v'.ownBlock := by
  rcases h.2 with ⟨rfl, _⟩ | ⟨g, cap, cur, rfl, _, hg, _⟩
  · exact .inl rfl
  · rcases h'.2 with ⟨rfl, _⟩ | ⟨g', cap', cur', rfl, _, hg', _⟩
    · exact .inr (by simp [Value.ownBlock])
    · refine .inr fun e1 => ?_
      simp [Value.ownBlock] at e1
      subst e1
      rw [hg] at hg'
      simp at hg'
      exact hne hg'.2

/-- what was made later than another one's row is kept when that one is appended to -/
theorem own_other {w w' w0 : World} {base base' : Nat} {e e' : TypeId} {size size' : Nat} {v v' : Value} {n n' : Nat} {xs xs' : List Value} (h : w.ownsRow base e size v n xs) (hg : w.grownBy w' v'.ownBlock) (h' : w0.ownsRow base' e' size' v' n' xs') (hb : w0.heap.size ≤ base) : w'.ownsRow base e size v n xs := by
  refine h.kept hg ?_
  cases hv : v.ownBlock with
  | none => exact .inl rfl
  | some k =>
    refine .inr fun e => ?_
    have h1 := (h.lt k hv).1
    have h2 := (h'.lt k e.symm).2
    omega

set_option maxRecDepth 100000 in
set_option maxHeartbeats 1000000 in
theorem clone_own {a : Option Addr} {n c : Nat} {xs : List Nat} {w : World} (h : BytesAt w a n c xs) :
    Calls Tryz.prog 89 #[.slice a n c] w fun e w' => ∃ v, e = .returned v ∧ w'.ownsRow w.heap.size 5 1 v n (bv xs) ∧ Below w.heap.size w w' := by
  have q : ∀ (w : World) (a : Option Addr) (n c n' c' : Nat), (binOp .eql 30 (.slice a n c) (.slice none n' c')).run Tryz.prog w = .ok (.bool a.isNone) w := fun w a n c n' c' => Lib.run_eql_slice_nil w _ _ a n c n' c' Tryz.underlying30
  have hown0 := World.ownsRow_lit (base := w.heap.size) (e := 5) (size := 1) w #[] 0 (Nat.le_refl _) (by unfold maxLen; omega) rfl
  have hreach := h.reach
  have hlen := h.len
  rcases a with _ | ad
  · have hc0 := h.nl rfl
    have hn0 : n = 0 := by have := h.cap; omega
    subst hn0
    subst hc0
    obtain rfl : xs = [] := List.eq_nil_of_length_eq_zero hlen
    have HH := Lib.hid h
    clear h hlen
    go_enter Tryz.func89, Tryz.ntmps89
    go_wp2_with fail
    go_ret
    exact ⟨_, rfl, own_nil_bytes _ _, Below.refl _ _⟩
  · have HH := Lib.hid h
    have ha := h.alloc (.cells #[] 5)
    have HA := Lib.hid ha
    clear h ha
    go_enter Tryz.func89, Tryz.ntmps89
    go_wp2_with (at_builtin; refine wpList_append_bytes rfl (.tmp 5) (.tmp 6) rfl w.heap.size _ _ [] rfl hown0 _ _ _ _ rfl HA.out (by omega) (by simp) ?_)
    intro v' w1 hown' hgrow
    have hown2 : w1.ownsRow w.heap.size 5 1 v' n (bv xs) := by simpa using hown'
    clear hown'
    have hb : Below w.heap.size w w1 := ((Below.refl _ _).alloc (Nat.le_refl _) _).grown hgrow (by simp) (fun k hk => by simp [Value.ownBlock] at hk; omega)
    go_wp2_with fail
    go_ret
    exact ⟨v', rfl, hown2, hb⟩
end Go.Proofs.YtbdgcfimbblncaaGreatDoor
end PkMB1_2
section PkMB1_3
/- Plain facts on numbers as few bytes: what PutU and U compute, on lists of naturals. No Go in sight. -/
namespace Go.Proofs.YtbdgcfimbblncaaGreatDoor.NumsPlain

/-- the bytes of a number -/
def pu (n : Nat) : List Nat := if n < 128 then [n] else (128 + n % 128) :: pu (n / 128)
termination_by n
decreasing_by omega

theorem pu_small {n : Nat} (h : n < 128) : pu n = [n] := by rw [pu, if_pos h]
theorem pu_big {n : Nat} (h : 128 ≤ n) : pu n = (128 + n % 128) :: pu (n / 128) := by rw [pu, if_neg (by omega)]

theorem pu_pos (n : Nat) : 1 ≤ (pu n).length := by
  by_cases h : n < 128
  · simp [pu_small h]
  · simp [pu_big (show 128 ≤ n by omega)]

/-- a number below 128 to the k has at most k bytes -/
theorem pu_le : ∀ (k n : Nat), n < 128 ^ (k + 1) → (pu n).length ≤ k + 1
  | 0, n, h => by simp [pu_small (show n < 128 by simpa using h)]
  | k + 1, n, h => by
    by_cases hs : n < 128
    · simp [pu_small hs]
    · rw [pu_big (by omega)]
      have h2 : n / 128 < 128 ^ (k + 1) := by
        rw [Nat.div_lt_iff_lt_mul (by omega)]
        rw [Nat.pow_succ 128 (k + 1)] at h
        exact h
      have := pu_le k (n / 128) h2
      simp; omega

theorem pu_ten {n : Nat} (h : n < 18446744073709551616) : (pu n).length ≤ 10 :=
  pu_le 9 n (Nat.lt_of_lt_of_le h (by decide))

theorem pu_mono : ∀ (k m n : Nat), n < 128 ^ (k + 1) → m ≤ n → (pu m).length ≤ (pu n).length
  | 0, m, n, h, hmn => by
    have h1 : n < 128 := by simpa using h
    rw [pu_small h1, pu_small (show m < 128 by omega)]
    simp
  | k + 1, m, n, h, hmn => by
    by_cases hs : m < 128
    · rw [pu_small hs]; exact pu_pos n
    · have hn : 128 ≤ n := by omega
      rw [pu_big hn, pu_big (show 128 ≤ m by omega)]
      have h2 : n / 128 < 128 ^ (k + 1) := by
        rw [Nat.div_lt_iff_lt_mul (by omega)]
        rw [Nat.pow_succ 128 (k + 1)] at h
        exact h
      have := pu_mono k (m / 128) (n / 128) h2 (Nat.div_le_div_right hmn)
      simp; omega

theorem pu_grows {m n : Nat} (h : n < 18446744073709551616) (hmn : m ≤ n) : (pu m).length ≤ (pu n).length :=
  pu_mono 9 m n (Nat.lt_of_lt_of_le h (by decide)) hmn

/-- each is a byte -/
theorem pu_byte : ∀ (k n : Nat), n < 128 ^ (k + 1) → ∀ x ∈ pu n, x < 256
  | 0, n, h, x, hx => by
    have h1 : n < 128 := by simpa using h
    rw [pu_small h1] at hx
    simp at hx; omega
  | k + 1, n, h, x, hx => by
    by_cases hs : n < 128
    · rw [pu_small hs] at hx
      simp at hx; omega
    · rw [pu_big (by omega)] at hx
      rcases List.mem_cons.1 hx with e | e
      · omega
      · have h2 : n / 128 < 128 ^ (k + 1) := by
          rw [Nat.div_lt_iff_lt_mul (by omega)]
          rw [Nat.pow_succ 128 (k + 1)] at h
          exact h
        exact pu_byte k (n / 128) h2 x e
theorem pu_bytes {n : Nat} (h : n < 18446744073709551616) : ∀ x ∈ pu n, x < 256 := pu_byte 9 n (Nat.lt_of_lt_of_le h (by decide))

/-- what reading a number comes to: the value so far, how many bytes are behind, the bytes ahead; the value, how many bytes, the error (0; 3: ErrShort; 4: ErrForm) -/
def uu : Nat → Nat → List Nat → Nat × Nat × Nat
  | _, _, [] => (0, 0, 3)
  | acc, i, x :: xs =>
    if i = 9 ∧ 1 < x then (0, 0, 4)
    else if 128 ≤ x then uu (acc + x % 128 * 128 ^ i) (i + 1) xs
    else if x = 0 ∧ 0 < i then (0, 0, 4)
    else (acc + x % 128 * 128 ^ i, i + 1, 0)

/-- what was put is read, whatever stands behind it -/
theorem uu_pu : ∀ (k acc i n : Nat) (rest : List Nat), k + i = 9 → n < 128 ^ (k + 1) → (i = 0 ∨ 0 < n) → (n * 128 ^ i < 18446744073709551616) →
    uu acc i (pu n ++ rest) = (acc + n * 128 ^ i, i + (pu n).length, 0)
  | 0, acc, i, n, rest, hki, h, h0, hb => by
    have h1 : n < 128 := by simpa using h
    obtain rfl : i = 9 := by omega
    have hn : n ≤ 1 := by
      rcases Nat.lt_or_ge 1 n with g | g
      · have : 2 * 128 ^ 9 ≤ n * 128 ^ 9 := Nat.mul_le_mul_right _ g
        have e : (2 : Nat) * 128 ^ 9 = 18446744073709551616 := by decide
        omega
      · exact g
    rw [pu_small h1]
    have hpos : 0 < n := by omega
    simp only [List.cons_append, List.nil_append, uu, List.length_cons, List.length_nil]
    rw [if_neg (by omega), if_neg (by omega), if_neg (by omega), Nat.mod_eq_of_lt h1]
  | k + 1, acc, i, n, rest, hki, h, h0, hb => by
    by_cases hs : n < 128
    · rw [pu_small hs]
      simp only [List.cons_append, List.nil_append, uu, List.length_cons, List.length_nil]
      rw [if_neg (by omega), if_neg (by omega), if_neg (by omega), Nat.mod_eq_of_lt hs]
    · have hn : 128 ≤ n := by omega
      rw [pu_big hn]
      simp only [List.cons_append, uu, List.length_cons]
      rw [if_neg (by omega), if_pos (by omega)]
      have h2 : n / 128 < 128 ^ (k + 1) := by
        rw [Nat.div_lt_iff_lt_mul (by omega)]
        rw [Nat.pow_succ 128 (k + 1)] at h
        exact h
      have hd : n / 128 * 128 + n % 128 = n := by omega
      have e1 : n / 128 * 128 ^ (i + 1) + n % 128 * 128 ^ i = n * 128 ^ i := by
        rw [Nat.pow_succ]
        calc n / 128 * (128 ^ i * 128) + n % 128 * 128 ^ i = (n / 128 * 128 + n % 128) * 128 ^ i := by
              rw [Nat.add_mul, Nat.mul_assoc, Nat.mul_comm 128 (128 ^ i)]
          _ = n * 128 ^ i := by rw [hd]
      have hb2 : n / 128 * 128 ^ (i + 1) < 18446744073709551616 := by omega
      rw [uu_pu k _ (i + 1) (n / 128) rest (by omega) h2 (.inr (by omega)) hb2]
      have e2 : (128 + n % 128) % 128 = n % 128 := by omega
      rw [e2]
      have e3 : acc + n % 128 * 128 ^ i + n / 128 * 128 ^ (i + 1) = acc + n * 128 ^ i := by omega
      rw [e3]
      congr 2
      omega

theorem uu_back {n : Nat} (h : n < 18446744073709551616) (rest : List Nat) : uu 0 0 (pu n ++ rest) = (n, (pu n).length, 0) := by
  have := uu_pu 9 0 0 n rest rfl (Nat.lt_of_lt_of_le h (by decide)) (.inl rfl) (by simpa using h)
  simpa using this

/-- none begins another -/
theorem pu_inj {m n : Nat} (hm : m < 18446744073709551616) (hn : n < 18446744073709551616) (h : ∃ r, pu n = pu m ++ r) : m = n := by
  obtain ⟨r, hr⟩ := h
  have h1 := uu_back hm r
  have h2 := uu_back hn []
  rw [List.append_nil, hr, h1] at h2
  exact congrArg Prod.fst h2
end Go.Proofs.YtbdgcfimbblncaaGreatDoor.NumsPlain
end PkMB1_3
section PkMB1_4
/- PutU of package nums, walked: the bytes that it makes are the plain function's, in memory of its own. Condition: the number fits 64 bits. -/
namespace Go.Proofs.YtbdgcfimbblncaaGreatDoor
open Go.RowKit NumsPlain
set_option linter.unusedVariables false

theorem or128_fin : ∀ x : Fin 256, bits .or .u8 ((x.val : Nat) : Int) 128 = ((128 + x.val % 128 : Nat) : Int) := by decide +kernel
theorem or128 (m : Nat) : bits .or .u8 ((m : Int) % 256) 128 = ((128 + m % 128 : Nat) : Int) := by
  have h := or128_fin ⟨m % 256, by omega⟩
  simp only at h
  have e1 : ((m % 256 : Nat) : Int) = (m : Int) % 256 := by omega
  have e2 : m % 256 % 128 = m % 128 := by omega
  rw [e1, e2] at h
  exact h

set_option maxRecDepth 100000 in
set_option maxHeartbeats 1000000 in
theorem putu_any (n : Nat) (hn : n < 18446744073709551616) (w : World) :
    Calls Tryz.prog 77 #[.int .u64 n] w fun e w' => ∃ v, e = .returned v ∧ w'.ownsRow w.heap.size 5 1 v (pu n).length (bv (pu n)) ∧ Below w.heap.size w w' := by
  obtain ⟨i0, hi, hz0, hz1, hz2⟩ := info_parts info_u8
  go_enter Tryz.func77, Tryz.ntmps77
  go_wp2_with (at_make; refine wpList_make_own _ rfl _ _ 30 rfl w.heap.size 5 i0 (.int .u8 0) 1 Tryz.underlying30 hi hz0 hz1 _ _ _ 10 rfl rfl (by omega) ?b2 ?b3 (Nat.le_refl _) ?_)
  case b2 => rw [hz2]; omega
  case b3 => unfold maxLen; omega
  intro w0 hown0 hgrow0
  go_wp2
  go_loopw [0, 3] (fun sn b wr => ∃ (m : Nat) (xs : List Nat), m < 18446744073709551616 ∧ sn = .int .u64 m ∧ wr.ownsRow w.heap.size 5 1 b xs.length (bv xs) ∧ xs ++ pu m = pu n ∧ Below w.heap.size w wr) (fun sn _ _ => (intOf sn).toNat)
  case atStart => exact ⟨n, [], hn, rfl, hown0, rfl, (Below.refl _ _).grown hgrow0 (Nat.le_refl _) (fun k h => by cases h)⟩
  case round =>
    obtain ⟨m, xs, hm, rfl, hown, hx, hnx⟩ := hrel
    have hl : xs.length ≤ 9 := by
      have h1 := congrArg List.length hx
      rw [List.length_append] at h1
      have h2 := pu_pos m
      have h3 := pu_ten hn
      omega
    have hB := hnx.size
    have HX := Lib.hid hx
    have HM := Lib.hid hm
    have HN := Lib.hid hn
    by_cases hlt : m < 128
    · clear hx hm hn
      go_wp2_with (at_builtin; refine wpList_append_own _ rfl (.tmp 15) (.tmp 18) 30 rfl w.heap.size 5 i0 (.int .u8 0) 1 1 Tryz.underlying30 hi hz0 hz1 hz2 rfl (by decide) _ _ _ rfl (hown.alloc _) ⟨wr.heap.size, 0, none⟩ 1 1 [.int .u8 m] rfl rfl ?c1 ?c2 ?c3 ?c4 ?c5 ?_)
      case c1 =>
        intro j u hj
        match j, hj with
        | 0, hj => simp at hj; subst hj; simp [Addr.add]
      case c2 => intro u hu; simp at hu; subst hu; rfl
      case c3 => unfold maxLen; omega
      case c4 => omega
      case c5 => simp; omega
      intro v' w1 hown' hgrow _
      go_wp2
      go_ret
      have hs := pu_small hlt
      have e1 : pu n = xs ++ [m] := by rw [← HX.out, hs]
      refine ⟨v', rfl, ?_, ?_⟩
      · rw [e1]; simpa [bv] using hown'
      · exact (hnx.alloc hnx.size _).grown hgrow (by simp; omega) (fun k hk => (hown.lt k hk).1)
    · clear hx hm hn
      go_wp2_with (at_builtin; refine wpList_append_own _ rfl (.tmp 7) (.tmp 11) 30 rfl w.heap.size 5 i0 (.int .u8 0) 1 1 Tryz.underlying30 hi hz0 hz1 hz2 rfl (by decide) _ _ _ rfl (hown.alloc _) ⟨wr.heap.size, 0, none⟩ 1 1 [.int .u8 (bits .or .u8 ((m : Int) % 256) 128)] rfl rfl ?d1 ?d2 ?d3 ?d4 ?d5 ?_)
      case d1 =>
        intro j u hj
        match j, hj with
        | 0, hj => simp at hj; subst hj; simp [Addr.add]
      case d2 => intro u hu; simp at hu; subst hu; rfl
      case d3 => unfold maxLen; omega
      case d4 => omega
      case d5 => simp; omega
      intro v' w1 hown' hgrow _
      go_wp2
      have hs := pu_big (show 128 ≤ m by omega)
      have hm' := HM.out
      go_roundw
      case rel =>
        refine ⟨m / 128, xs ++ [128 + m % 128], by omega, by go_num, ?_, ?_, ?_⟩
        · rw [or128] at hown'; simpa [bv] using hown'
        · rw [← HX.out, hs]; simp
        · exact (hnx.alloc hnx.size _).grown hgrow (by simp; omega) (fun k hk => (hown.lt k hk).1)
      case measure => simp [intOf]; omega

/-- as a slice of bytes wherever -/
theorem putu (n : Nat) (hn : n < 18446744073709551616) (w : World) :
    Calls Tryz.prog 77 #[.int .u64 n] w fun e w' => ∃ g c, e = .returned (.slice (some ⟨g, 0, none⟩) (pu n).length c) ∧ w.heap.size ≤ g ∧ BytesAt w' (some ⟨g, 0, none⟩) (pu n).length c (pu n) ∧ Below w.heap.size w w' := by
  refine (putu_any n hn w).mono ?_
  rintro e w' ⟨v, rfl, hown, hb⟩
  obtain ⟨g, c, rfl, h1, _, h2⟩ := BytesAt.own hown (pu_bytes hn) (pu_pos n) (by have := pu_ten hn; omega)
  exact ⟨g, c, rfl, h1, h2, hb⟩
end Go.Proofs.YtbdgcfimbblncaaGreatDoor
end PkMB1_4
section PkMB1_5
/- Signed numbers as unsigned ones and back: package nums' Zig, Zag and the document's. Condition: each number fits its 64 bits. -/
namespace Go.Proofs.YtbdgcfimbblncaaGreatDoor
open Go.RowKit
set_option linter.unusedVariables false

theorem xor_ones_u64 (x : Int) : bits .xor .u64 x 18446744073709551615 = IntKind.u64.wrap (-1 - x) := by
  have h : BitVec.ofInt 64 18446744073709551615 = BitVec.allOnes 64 := by decide
  show IntKind.u64.wrap ((BitVec.ofInt 64 x ^^^ BitVec.ofInt 64 18446744073709551615).toNat : Int) = _
  rw [h, BitVec.xor_allOnes, BitVec.toNat_not, BitVec.toNat_ofInt, IntKind.wrap_u64, IntKind.wrap_u64]
  omega
theorem xor_zero_u64 (x : Int) : bits .xor .u64 x 0 = IntKind.u64.wrap x := by
  show IntKind.u64.wrap ((BitVec.ofInt 64 x ^^^ BitVec.ofInt 64 0).toNat : Int) = _
  have h : BitVec.ofInt 64 0 = 0#64 := by decide
  rw [h, BitVec.xor_zero, BitVec.toNat_ofInt, IntKind.wrap_u64, IntKind.wrap_u64]
  omega
theorem xor_ones_i64 (x : Int) : bits .xor .i64 x (-1) = IntKind.i64.wrap (-1 - x) := by
  have h : BitVec.ofInt 64 (-1) = BitVec.allOnes 64 := by decide
  show IntKind.i64.wrap ((BitVec.ofInt 64 x ^^^ BitVec.ofInt 64 (-1)).toNat : Int) = _
  rw [h, BitVec.xor_allOnes, BitVec.toNat_not, BitVec.toNat_ofInt, IntKind.wrap_i64, IntKind.wrap_i64]
  omega
theorem xor_zero_i64 (x : Int) : bits .xor .i64 x 0 = IntKind.i64.wrap x := by
  show IntKind.i64.wrap ((BitVec.ofInt 64 x ^^^ BitVec.ofInt 64 0).toNat : Int) = _
  have h : BitVec.ofInt 64 0 = 0#64 := by decide
  rw [h, BitVec.xor_zero, BitVec.toNat_ofInt, IntKind.wrap_i64, IntKind.wrap_i64]
  omega

/-- a signed number as an unsigned one -/
def zig (m : Int) : Nat := if m < 0 then (2 * -(m + 1) + 1).toNat else (2 * m).toNat
/-- and back -/
def zag (n : Nat) : Int := if n % 2 = 1 then -((n : Int) / 2) - 1 else (n : Int) / 2
theorem zig_neg {m : Int} (h : m < 0) : (zig m : Int) = 2 * -(m + 1) + 1 := by unfold zig; rw [if_pos h]; omega
theorem zig_pos {m : Int} (h : ¬ m < 0) : (zig m : Int) = 2 * m := by unfold zig; rw [if_neg h]; omega
theorem zag_odd {n : Nat} (h : n % 2 = 1) : zag n = -((n : Int) / 2) - 1 := by unfold zag; rw [if_pos h]
theorem zag_even {n : Nat} (h : ¬ n % 2 = 1) : zag n = (n : Int) / 2 := by unfold zag; rw [if_neg h]
theorem zag_zig (m : Int) : zag (zig m) = m := by
  by_cases h : m < 0
  · have h1 := zig_neg h
    rw [zag_odd (by omega), h1]; omega
  · have h1 := zig_pos h
    rw [zag_even (by omega), h1]; omega
theorem zig_lt {m : Int} (hlo : -9223372036854775808 ≤ m) (hhi : m ≤ 9223372036854775807) : zig m < 18446744073709551616 := by
  by_cases h : m < 0
  · have h1 := zig_neg h; omega
  · have h1 := zig_pos h; omega
theorem zag_lo {n : Nat} (h : n < 18446744073709551616) : -9223372036854775808 ≤ zag n := by
  unfold zag; split <;> omega
theorem zag_hi {n : Nat} (h : n < 18446744073709551616) : zag n ≤ 9223372036854775807 := by
  unfold zag; split <;> omega

end Go.Proofs.YtbdgcfimbblncaaGreatDoor
end PkMB1_5
section PkMB1_6
/- PutI and the document's PutU, walked. -/
namespace Go.Proofs.YtbdgcfimbblncaaGreatDoor
open Go.RowKit NumsPlain
set_option linter.unusedVariables false


set_option maxRecDepth 100000 in
set_option maxHeartbeats 1000000 in
theorem rputu_any (n : Nat) (hn : n < 18446744073709551616) (w : World) :
    Calls Tryz.prog 86 #[.int .u64 n] w fun e w' => ∃ v, e = .returned v ∧ w'.ownsRow w.heap.size 5 1 v (pu n).length (bv (pu n)) ∧ Below w.heap.size w w' := by
  obtain ⟨i0, hi, hz0, hz1, hz2⟩ := info_parts info_u8
  have hown0 := World.ownsRow_lit (base := w.heap.size) (e := 5) (size := 1) w #[] 0 (Nat.le_refl _) (by unfold maxLen; omega) rfl
  have h3 := pu_ten hn
  have HN := Lib.hid hn
  clear hn
  go_enter Tryz.func86, Tryz.ntmps86
  go_wp2
  go_loopw [0, 3] (fun sn b wr => ∃ (m : Nat) (xs : List Nat), Hid (m < 18446744073709551616) ∧ sn = .int .u64 m ∧ wr.ownsRow w.heap.size 5 1 b xs.length (bv xs) ∧ Hid (xs ++ pu m = pu n) ∧ Below w.heap.size w wr) (fun sn _ _ => (intOf sn).toNat)
  case atStart => exact ⟨n, [], HN, rfl, hown0, Lib.hid rfl, (Below.refl _ _).alloc (Nat.le_refl _) _⟩
  case round =>
    obtain ⟨m, xs, HM, rfl, hown, HX, hnx⟩ := hrel
    have hl : xs.length ≤ 9 := by
      have h1 := congrArg List.length HX.out
      rw [List.length_append] at h1
      have h2 := pu_pos m
      omega
    have hB := hnx.size
    have hmm : m ≤ 18446744073709551615 := by have := HM.out; omega
    by_cases hlt : m < 128
    · have hq : ¬ (0 : Int) < (m : Int) / 128 := by omega
      go_wp2_with (at_builtin; refine wpList_append_own _ rfl (.tmp 17) (.tmp 20) 30 rfl w.heap.size 5 i0 (.int .u8 0) 1 1 Tryz.underlying30 hi hz0 hz1 hz2 rfl (by decide) _ _ _ rfl (hown.alloc _) ⟨wr.heap.size, 0, none⟩ 1 1 [.int .u8 m] rfl rfl (one_src _ _ _) (one_oneCell rfl) (by unfold maxLen; omega) (by omega) (by simp; omega) ?_)
      intro v' w1 hown' hgrow _
      go_wp2
      go_ret
      have hs := pu_small hlt
      have e1 : pu n = xs ++ [m] := by rw [← HX.out, hs]
      refine ⟨v', rfl, ?_, ?_⟩
      · rw [e1]; simpa [bv] using hown'
      · exact (hnx.alloc hnx.size _).grown hgrow (by simp; omega) (fun k hk => (hown.lt k hk).1)
    · have hq : (0 : Int) < (m : Int) / 128 := by omega
      go_wp2_with (at_builtin; refine wpList_append_own _ rfl (.tmp 8) (.tmp 13) 30 rfl w.heap.size 5 i0 (.int .u8 0) 1 1 Tryz.underlying30 hi hz0 hz1 hz2 rfl (by decide) _ _ _ rfl (hown.alloc _) ⟨wr.heap.size, 0, none⟩ 1 1 [.int .u8 (128 + (m : Int) % 128)] rfl rfl (one_src _ _ _) (one_oneCell rfl) (by unfold maxLen; omega) (by omega) (by simp; omega) ?_)
      intro v' w1 hown' hgrow _
      go_wp2
      have hs := pu_big (show 128 ≤ m by omega)
      have hm' := HM.out
      go_roundw
      case rel =>
        refine ⟨m / 128, xs ++ [128 + m % 128], Lib.hid (by omega), by go_num, ?_, ?_, ?_⟩
        · simpa [bv] using hown'
        · exact Lib.hid (by rw [← HX.out, hs]; simp)
        · exact (hnx.alloc hnx.size _).grown hgrow (by simp; omega) (fun k hk => (hown.lt k hk).1)
      case measure => simp [intOf]; omega

/-- as a slice of bytes wherever -/
theorem rputu (n : Nat) (hn : n < 18446744073709551616) (w : World) :
    Calls Tryz.prog 86 #[.int .u64 n] w fun e w' => ∃ g c, e = .returned (.slice (some ⟨g, 0, none⟩) (pu n).length c) ∧ w.heap.size ≤ g ∧ BytesAt w' (some ⟨g, 0, none⟩) (pu n).length c (pu n) ∧ Below w.heap.size w w' := by
  refine (rputu_any n hn w).mono ?_
  rintro e w' ⟨v, rfl, hown, hb⟩
  obtain ⟨g, c, rfl, h1, _, h2⟩ := BytesAt.own hown (pu_bytes hn) (pu_pos n) (by have := pu_ten hn; omega)
  exact ⟨g, c, rfl, h1, h2, hb⟩
end Go.Proofs.YtbdgcfimbblncaaGreatDoor
end PkMB1_6
section PkMB1_7
/- Package nums' U, walked: at any place of any bytes it answers what the plain function says. -/
namespace Go.Proofs.YtbdgcfimbblncaaGreatDoor
open Go.RowKit NumsPlain
set_option linter.unusedVariables false

/-- what U says of bytes at a place -/
def ru (xs : List Nat) (at_ : Int) : Nat × Nat × Nat := if at_ < 0 then (0, 0, 3) else uu 0 0 (xs.drop at_.toNat)
theorem ru_nat (xs : List Nat) (i : Nat) : ru xs (i : Int) = uu 0 0 (xs.drop i) := by
  unfold ru; rw [if_neg (by omega)]; simp
def ruV (r : Nat × Nat × Nat) : Value := .tuple #[.int .u64 (r.1 : Int), .int .i64 (r.2.1 : Int), .int .i64 (r.2.2 : Int)]

theorem mask127 (x : Nat) (h : x < 256) : bits .and .u8 (x : Int) 127 = ((x % 128 : Nat) : Int) := by
  have := u8_and_nat x 127 h (by omega)
  rw [nat_mask7] at this
  exact this

theorem pow128 (k : Nat) : (128 : Nat) ^ k = 2 ^ (7 * k) := by rw [Nat.pow_mul]

theorem or_step {X k x : Nat} (hX : X < 128 ^ k) (hk : k ≤ 9) (hx : x < 128) (h9 : k = 9 → x ≤ 1) :
    bits .or .u64 (X : Int) (IntKind.u64.wrap ((x : Int) * 2 ^ (7 * k))) = ((X + x * 128 ^ k : Nat) : Int) := by
  have hb : x * 128 ^ k < 18446744073709551616 := by
    rcases Nat.lt_or_ge k 9 with g | g
    · have h1 : 128 ^ k ≤ 128 ^ 8 := Nat.pow_le_pow_right (by omega) (by omega)
      have h2 : x * 128 ^ k ≤ 127 * 128 ^ 8 := Nat.mul_le_mul (by omega) h1
      have h3 : (127 : Nat) * 128 ^ 8 < 18446744073709551616 := by decide
      omega
    · have hk9 : k = 9 := by omega
      have h2 : x * 128 ^ k ≤ 1 * 128 ^ 9 := Nat.mul_le_mul (h9 hk9) (by rw [hk9]; exact Nat.le_refl _)
      have h3 : (1 : Nat) * 128 ^ 9 < 18446744073709551616 := by decide
      omega
  have hXb : X < 18446744073709551616 := by
    have h1 : 128 ^ k ≤ 128 ^ 9 := Nat.pow_le_pow_right (by omega) (by omega)
    have h3 : (128 : Nat) ^ 9 < 18446744073709551616 := by decide
    omega
  have e1 : (x : Int) * 2 ^ (7 * k) = ((x * 128 ^ k : Nat) : Int) := by rw [pow128]; push_cast; rfl
  rw [e1, IntKind.wrap_u64, show ((x * 128 ^ k : Nat) : Int) % 18446744073709551616 = ((x * 128 ^ k : Nat) : Int) from by omega, u64_or_nat X (x * 128 ^ k) hXb hb, Nat.or_comm, nat_join (7 * k) (x * 128 ^ k) X (by rw [pow128]; exact Nat.mul_mod_left _ _) (by rw [← pow128]; exact hX), Nat.add_comm]

set_option maxRecDepth 100000 in
set_option maxHeartbeats 1000000 in
theorem u_any {a : Option Addr} {n c : Nat} {xs : List Nat} {w : World} (h : BytesAt w a n c xs) (at_ : Int) :
    Calls Tryz.prog 140 #[.slice a n c, .int .i64 at_] w fun e w' => e = .returned (ruV (ru xs at_)) ∧ w = w' := by
  have hlen := h.len
  have hcap := h.cap
  have hcm := h.capm
  have hrm := h.reach
  by_cases hneg : at_ < 0
  · have hr : ru xs at_ = (0, 0, 3) := by unfold ru; rw [if_pos hneg]
    have HR := Lib.hid hr
    clear hr h
    have d1 : decide (at_ < 0) = true := by simp; omega
    go_enter Tryz.func140, Tryz.ntmps140
    go_wp2_with fail
    go_ret3
    exact ⟨by rw [HR.out]; rfl, rfl⟩
  · obtain ⟨i, rfl⟩ := Int.eq_ofNat_of_zero_le (show 0 ≤ at_ by omega)
    by_cases hin : i < n
    · obtain ⟨b, off, rfl, _, hcell⟩ := h.cells (by omega)
      have hbyte := h.byte
      have HC := Lib.hid hcell
      have HB := Lib.hid hbyte
      clear h hcell hbyte
      go_enter Tryz.func140, Tryz.ntmps140
      go_wp2_with fail
      go_loop [7, 22] (fun sx si => ∃ k X : Nat, k ≤ n - i ∧ k ≤ 9 ∧ si = .int .i64 k ∧ sx = .int .u64 X ∧ Hid (X < 128 ^ k) ∧ Hid (ru xs (i : Int) = uu X k (xs.drop (i + k)))) (fun _ si => n - i - (intOf si).toNat)
      case atStart => exact ⟨0, 0, by omega, by omega, rfl, rfl, Lib.hid (by simp), Lib.hid (ru_nat xs i)⟩
      case round =>
        obtain ⟨k, X, hk, hk9, rfl, rfl, HX, HU⟩ := hrel
        by_cases hkn : k < n - i
        · have hc0 := HC.out (i + k) (by omega)
          obtain ⟨x, hx⟩ : ∃ x, x = xs.getD (i + k) 0 := ⟨_, rfl⟩
          have hx256 : x < 256 := by
            have h1 : i + k < xs.length := by omega
            rw [hx]
            have : xs.getD (i + k) 0 = xs[i + k] := by simp [h1]
            rw [this]
            exact HB.out _ (List.getElem_mem h1)
          rw [← hx, ← Nat.add_assoc] at hc0
          have hd : xs.drop (i + k) = x :: xs.drop (i + k + 1) := by
            have h1 : i + k < xs.length := by omega
            rw [List.drop_eq_getElem_cons h1, hx]; simp [h1]
          have hu := HU.out
          rw [hd] at hu
          simp only [uu] at hu
          have hm := mask127 x hx256
          have hX := HX.out
          clear HU hx
          have hdd : xs.drop (i + k + 1) = xs.drop (i + (k + 1)) := by rw [Nat.add_assoc]
          by_cases h9 : k = 9
          · have q9 : ((k : Int) == 9) = true := by rw [beq_iff_eq]; omega
            by_cases hx1 : 1 < x
            · have hr : ru xs (i : Int) = (0, 0, 4) := by rw [hu, if_pos ⟨h9, hx1⟩]
              have HR := Lib.hid hr
              clear hu hd hX hr hdd h9
              go_wp2_with fail
              go_ret3
              exact ⟨by rw [HR.out]; rfl, rfl⟩
            · by_cases hx0 : x = 0
              · have hr : ru xs (i : Int) = (0, 0, 4) := by rw [hu, if_neg (by omega), if_neg (by omega), if_pos ⟨hx0, by omega⟩]
                have z0 : ((x : Int) == 0) = true := by rw [beq_iff_eq]; omega
                have p0 : (0 : Int) < (k : Int) := by omega
                have HR := Lib.hid hr
                clear hu hd hX hr hdd h9 hx0
                go_wp2_with fail
                go_ret3
                exact ⟨by rw [HR.out]; rfl, rfl⟩
              · have hr : ru xs (i : Int) = (X + x % 128 * 128 ^ k, k + 1, 0) := by rw [hu, if_neg (by omega), if_neg (by omega), if_neg (by omega)]
                have z0 : ((x : Int) == 0) = false := by rw [beq_eq_false_iff_ne]; omega
                have ho := or_step hX hk9 (show x % 128 < 128 by omega) (fun _ => by omega)
                have HR := Lib.hid hr
                have HO := Lib.hid ho
                clear hu hd hX hr hdd h9 ho
                go_wp2_with fail
                go_ret3
                exact ⟨by rw [HR.out]; simp only [ruV, ← HO.out]; rfl, rfl⟩
          · have q9 : ((k : Int) == 9) = false := by rw [beq_eq_false_iff_ne]; omega
            have ho := or_step hX hk9 (show x % 128 < 128 by omega) (fun e => absurd e h9)
            have HO := Lib.hid ho
            by_cases h128 : 128 ≤ x
            · have hr : ru xs (i : Int) = uu (X + x % 128 * 128 ^ k) (k + 1) (xs.drop (i + (k + 1))) := by rw [hu, if_neg (by omega), if_pos h128, hdd]
              have HR := Lib.hid hr
              have hXn : X + x % 128 * 128 ^ k < 128 ^ (k + 1) := by
                have h1 : x % 128 * 128 ^ k ≤ 127 * 128 ^ k := Nat.mul_le_mul_right _ (by omega)
                have h2 : (128 : Nat) ^ (k + 1) = 128 ^ k * 128 := Nat.pow_succ ..
                omega
              have HXn := Lib.hid hXn
              clear hu hd hX hr hdd ho hXn
              go_wp2_with fail
              go_round
              case rel => exact ⟨k + 1, X + x % 128 * 128 ^ k, by omega, by omega, by go_num, by rw [← HO.out]; rfl, HXn, HR⟩
              case measure => simp [intOf]; omega
            · by_cases hx0 : x = 0
              · have z0 : ((x : Int) == 0) = true := by rw [beq_iff_eq]; omega
                by_cases hk0 : 0 < k
                · have hr : ru xs (i : Int) = (0, 0, 4) := by rw [hu, if_neg (by omega), if_neg (by omega), if_pos ⟨hx0, hk0⟩]
                  have HR := Lib.hid hr
                  clear hu hd hX hr hdd hx0 ho
                  go_wp2_with fail
                  go_ret3
                  exact ⟨by rw [HR.out]; rfl, rfl⟩
                · have hr : ru xs (i : Int) = (X + x % 128 * 128 ^ k, k + 1, 0) := by rw [hu, if_neg (by omega), if_neg (by omega), if_neg (by omega)]
                  have HR := Lib.hid hr
                  clear hu hd hX hr hdd hx0 ho
                  go_wp2_with fail
                  go_ret3
                  exact ⟨by rw [HR.out]; simp only [ruV, ← HO.out]; rfl, rfl⟩
              · have z0 : ((x : Int) == 0) = false := by rw [beq_eq_false_iff_ne]; omega
                have hr : ru xs (i : Int) = (X + x % 128 * 128 ^ k, k + 1, 0) := by rw [hu, if_neg (by omega), if_neg (by omega), if_neg (by omega)]
                have HR := Lib.hid hr
                clear hu hd hX hr hdd ho
                go_wp2_with fail
                go_ret3
                exact ⟨by rw [HR.out]; simp only [ruV, ← HO.out]; rfl, rfl⟩
        · have hr : ru xs (i : Int) = (0, 0, 3) := by
            rw [HU.out, List.drop_eq_nil_of_le (by omega)]; rfl
          have HR := Lib.hid hr
          clear hr HU
          go_wp2_with fail
          go_ret3
          exact ⟨by rw [HR.out]; rfl, rfl⟩
    · have hr : ru xs (i : Int) = (0, 0, 3) := by
        unfold ru; rw [if_neg hneg]
        simp only [Int.toNat_natCast]
        rw [List.drop_eq_nil_of_le (by omega)]; rfl
      have HR := Lib.hid hr
      clear hr h
      go_enter Tryz.func140, Tryz.ntmps140
      go_wp2_with fail
      go_ret3
      exact ⟨by rw [HR.out]; rfl, rfl⟩
end Go.Proofs.YtbdgcfimbblncaaGreatDoor
end PkMB1_7
section PkMB1_8
/- The document's U, walked: at any place of any bytes it answers what the plain function says. -/
namespace Go.Proofs.YtbdgcfimbblncaaGreatDoor
open Go.RowKit NumsPlain
set_option linter.unusedVariables false

namespace NumsPlain
/-- the value of the first k digits -/
def val (ys : List Nat) : Nat → Nat
  | 0 => 0
  | k + 1 => val ys k + ys.getD k 0 % 128 * 128 ^ k
theorem val_lt (ys : List Nat) : ∀ k, val ys k < 128 ^ k
  | 0 => by simp [val]
  | k + 1 => by
    have h := val_lt ys k
    have h1 : ys.getD k 0 % 128 * 128 ^ k ≤ 127 * 128 ^ k := Nat.mul_le_mul_right _ (by omega)
    have h2 : (128 : Nat) ^ (k + 1) = 128 ^ k * 128 := Nat.pow_succ ..
    simp only [val]
    omega
theorem val_u64 (ys : List Nat) (k : Nat) (hk : k ≤ 9) (h9 : k = 9 → ys.getD k 0 ≤ 1) : val ys (k + 1) < 18446744073709551616 := by
  rcases Nat.lt_or_ge k 9 with g | g
  · have h := val_lt ys (k + 1)
    have h1 : (128 : Nat) ^ (k + 1) ≤ 128 ^ 9 := Nat.pow_le_pow_right (by omega) (by omega)
    have h3 : (128 : Nat) ^ 9 < 18446744073709551616 := by decide
    omega
  · obtain rfl : k = 9 := by omega
    have h := val_lt ys 9
    have h1 := h9 rfl
    have h3 : (128 : Nat) ^ 9 = 9223372036854775808 := by decide
    simp only [val] at h ⊢
    rw [h3] at h ⊢
    have h2 : ys.getD 9 0 % 128 * 9223372036854775808 ≤ 1 * 9223372036854775808 := Nat.mul_le_mul_right _ (by omega)
    omega
end NumsPlain

theorem rest_step {N n d j v vj : Nat} (h : n * 128 ^ (j + 1) + vj = v) (hj : vj = N + d * 128 ^ j) (hv : v < 18446744073709551616) : n * 128 + d < 18446744073709551616 ∧ (n * 128 + d) * 128 ^ j + N = v := by
  have e1 : n * 128 ^ (j + 1) = n * 128 * 128 ^ j := by rw [Nat.pow_succ, Nat.mul_comm (128 ^ j) 128, Nat.mul_assoc]
  have e2 : (n * 128 + d) * 128 ^ j = n * 128 * 128 ^ j + d * 128 ^ j := Nat.add_mul ..
  have hp : 1 ≤ 128 ^ j := Nat.one_le_pow _ _ (by omega)
  have e3 : n * 128 + d ≤ (n * 128 + d) * 128 ^ j := Nat.le_mul_of_pos_right _ (by omega)
  constructor
  · omega
  · omega

set_option maxRecDepth 100000 in
set_option maxHeartbeats 4000000 in
theorem ru_any {a : Option Addr} {n c : Nat} {xs : List Nat} {w : World} (h : BytesAt w a n c xs) (at_ : Int) :
    Calls Tryz.prog 120 #[.slice a n c, .int .i64 at_] w fun e w' => e = .returned (ruV (ru xs at_)) ∧ w = w' := by
  have hlen := h.len
  have hcap := h.cap
  have hcm := h.capm
  have hrm := h.reach
  by_cases hneg : at_ < 0
  · have hr : ru xs at_ = (0, 0, 3) := by unfold ru; rw [if_pos hneg]
    have HR := Lib.hid hr
    clear hr h
    have d1 : decide (at_ < 0) = true := by simp; omega
    go_enter Tryz.func120, Tryz.ntmps120
    go_wp2_with fail
    go_ret3
    exact ⟨by rw [HR.out]; rfl, rfl⟩
  · obtain ⟨i, rfl⟩ := Int.eq_ofNat_of_zero_le (show 0 ≤ at_ by omega)
    by_cases hin : i < n
    · obtain ⟨b, off, rfl, _, hcell⟩ := h.cells (by omega)
      have hbyte := h.byte
      have HC := Lib.hid hcell
      have HB := Lib.hid hbyte
      clear h hcell hbyte
      have hget : ∀ k, k < n - i → xs.getD (i + k) 0 < 256 := by
        intro k hk
        have h1 : i + k < xs.length := by omega
        have : xs.getD (i + k) 0 = xs[i + k] := by simp [h1]
        rw [this]
        exact HB.out _ (List.getElem_mem h1)
      have hdr : ∀ k, (xs.drop i).getD k 0 = xs.getD (i + k) 0 := by intro k; simp [List.getD]
      have HG := Lib.hid hget
      have HDR := Lib.hid hdr
      have HLEN := Lib.hid hlen
      clear hget hdr hlen
      go_enter Tryz.func120, Tryz.ntmps120
      go_wp2_with fail
      go_loop [7] (fun sk => ∃ k : Nat, k ≤ n - i ∧ k ≤ 9 ∧ sk = .int .i64 k ∧ Hid (ru xs (i : Int) = uu (val (xs.drop i) k) k (xs.drop (i + k)))) (fun sk => n - i - (intOf sk).toNat)
      case atStart => exact ⟨0, by omega, by omega, rfl, Lib.hid (ru_nat xs i)⟩
      case round =>
        obtain ⟨k, hk, hk9, rfl, HU⟩ := hrel
        by_cases hkn : k < n - i
        · have hc0 := HC.out (i + k) (by omega)
          obtain ⟨x, hx⟩ : ∃ x, x = xs.getD (i + k) 0 := ⟨_, rfl⟩
          have hx256 : x < 256 := by rw [hx]; exact HG.out k hkn
          rw [← hx] at hc0
          have hd : xs.drop (i + k) = x :: xs.drop (i + (k + 1)) := by
            have h1 : i + k < xs.length := by have := HLEN.out; omega
            rw [List.drop_eq_getElem_cons h1, hx]; simp [h1, Nat.add_assoc]
          have hu := HU.out
          rw [hd] at hu
          simp only [uu] at hu
          have hv : val (xs.drop i) (k + 1) = val (xs.drop i) k + x % 128 * 128 ^ k := by simp only [val]; rw [HDR.out k, ← hx]
          have HV := Lib.hid hv
          have HX := Lib.hid hx
          clear HU hx hd hv
          by_cases h9 : k = 9
          · have q9 : ((k : Int) == 9) = true := by rw [beq_iff_eq]; omega
            have l9 : ¬ (k : Int) < 9 := by omega
            by_cases hx1 : 1 < x
            · have hr : ru xs (i : Int) = (0, 0, 4) := by rw [hu, if_pos ⟨h9, hx1⟩]
              have HR := Lib.hid hr
              clear hu hr h9
              go_wp2_with fail
              go_ret3
              exact ⟨by rw [HR.out]; rfl, rfl⟩
            · by_cases hx0 : x = 0
              · have hr : ru xs (i : Int) = (0, 0, 4) := by rw [hu, if_neg (by omega), if_neg (by omega), if_pos ⟨hx0, by omega⟩]
                have z0 : ((x : Int) == 0) = true := by rw [beq_iff_eq]; omega
                have p0 : (0 : Int) < (k : Int) := by omega
                have HR := Lib.hid hr
                clear hu hr h9 hx0
                go_wp2_with fail
                go_ret3
                exact ⟨by rw [HR.out]; rfl, rfl⟩
              · have z0 : ((x : Int) == 0) = false := by rw [beq_eq_false_iff_ne]; omega
                have p0 : (0 : Int) < (k : Int) := by omega
                have hr : ru xs (i : Int) = (val (xs.drop i) (k + 1), k + 1, 0) := by rw [hu, if_neg (by omega), if_neg (by omega), if_neg (by omega), HV.out]
                have hvu := val_u64 (xs.drop i) k hk9 (fun e => by rw [HDR.out k, ← HX.out]; omega)
                have HR := Lib.hid hr
                have HVU := Lib.hid hvu
                clear hu hr hvu h9
                go_wp2_with fail
                go_loop [9, 10] (fun sn sj => ∃ (m j : Nat), j ≤ k + 1 ∧ sj = .int .i64 ((j : Int) - 1) ∧ sn = .int .u64 m ∧ Hid (m * 128 ^ j + val (xs.drop i) j = val (xs.drop i) (k + 1))) (fun _ sj => (intOf sj + 1).toNat)
                case atStart => exact ⟨0, k + 1, by omega, by go_num, rfl, Lib.hid (by simp)⟩
                case round =>
                  obtain ⟨m, j, hj, rfl, rfl, HS⟩ := hrel
                  rcases j with _ | j
                  · have hs := HS.out
                    have hs2 : m = val (xs.drop i) (k + 1) := by simpa [val] using hs
                    have HS2 := Lib.hid hs2
                    clear hs hs2 HS
                    go_wp2_with fail
                    go_ret3
                    exact ⟨by rw [HR.out, ← HS2.out]; rfl, rfl⟩
                  · have hcj := HC.out (i + j) (by omega)
                    obtain ⟨y, hy⟩ : ∃ y, y = xs.getD (i + j) 0 := ⟨_, rfl⟩
                    have hy256 : y < 256 := by rw [hy]; exact HG.out j (by omega)
                    have hst := rest_step (N := val (xs.drop i) j) (d := y % 128) HS.out (by simp only [val]; rw [HDR.out j, ← hy]) HVU.out
                    rw [← hy] at hcj
                    have hb1 : (m : Int) * 128 + (y : Int) % 128 ≤ 18446744073709551615 := by have := hst.1; omega
                    have HST := Lib.hid hst.2
                    clear hst hy HS
                    go_wp2_with fail
                    go_round
                    case rel => exact ⟨m * 128 + y % 128, j, by omega, by go_num, by go_num, HST⟩
                    case measure => simp [intOf]
          · have q9 : ((k : Int) == 9) = false := by rw [beq_eq_false_iff_ne]; omega
            have l9 : (k : Int) < 9 := by omega
            by_cases h128 : 128 ≤ x
            · have hr : ru xs (i : Int) = uu (val (xs.drop i) (k + 1)) (k + 1) (xs.drop (i + (k + 1))) := by rw [hu, if_neg (by omega), if_pos h128, HV.out]
              have HR := Lib.hid hr
              clear hu hr
              go_wp2_with fail
              go_round
              case rel => exact ⟨k + 1, by omega, by omega, by go_num, HR⟩
              case measure => simp [intOf]; omega
            · by_cases hx0 : x = 0
              · have z0 : ((x : Int) == 0) = true := by rw [beq_iff_eq]; omega
                by_cases hk0 : 0 < k
                · have hr : ru xs (i : Int) = (0, 0, 4) := by rw [hu, if_neg (by omega), if_neg (by omega), if_pos ⟨hx0, hk0⟩]
                  have HR := Lib.hid hr
                  clear hu hr hx0
                  go_wp2_with fail
                  go_ret3
                  exact ⟨by rw [HR.out]; rfl, rfl⟩
                · have p0 : ¬ (0 : Int) < (k : Int) := by omega
                  have hr : ru xs (i : Int) = (val (xs.drop i) (k + 1), k + 1, 0) := by rw [hu, if_neg (by omega), if_neg (by omega), if_neg (by omega), HV.out]
                  have hvu := val_u64 (xs.drop i) k hk9 (fun e => by rw [HDR.out k, ← HX.out]; omega)
                  have HR := Lib.hid hr
                  have HVU := Lib.hid hvu
                  clear hu hr hvu hx0
                  go_wp2_with fail
                  go_loop [9, 10] (fun sn sj => ∃ (m j : Nat), j ≤ k + 1 ∧ sj = .int .i64 ((j : Int) - 1) ∧ sn = .int .u64 m ∧ Hid (m * 128 ^ j + val (xs.drop i) j = val (xs.drop i) (k + 1))) (fun _ sj => (intOf sj + 1).toNat)
                  case atStart => exact ⟨0, k + 1, by omega, by go_num, rfl, Lib.hid (by simp)⟩
                  case round =>
                    obtain ⟨m, j, hj, rfl, rfl, HS⟩ := hrel
                    rcases j with _ | j
                    · have hs := HS.out
                      have hs2 : m = val (xs.drop i) (k + 1) := by simpa [val] using hs
                      have HS2 := Lib.hid hs2
                      clear hs hs2 HS
                      go_wp2_with fail
                      go_ret3
                      exact ⟨by rw [HR.out, ← HS2.out]; rfl, rfl⟩
                    · have hcj := HC.out (i + j) (by omega)
                      obtain ⟨y, hy⟩ : ∃ y, y = xs.getD (i + j) 0 := ⟨_, rfl⟩
                      have hy256 : y < 256 := by rw [hy]; exact HG.out j (by omega)
                      have hst := rest_step (N := val (xs.drop i) j) (d := y % 128) HS.out (by simp only [val]; rw [HDR.out j, ← hy]) HVU.out
                      rw [← hy] at hcj
                      have hb1 : (m : Int) * 128 + (y : Int) % 128 ≤ 18446744073709551615 := by have := hst.1; omega
                      have HST := Lib.hid hst.2
                      clear hst hy HS
                      go_wp2_with fail
                      go_round
                      case rel => exact ⟨m * 128 + y % 128, j, by omega, by go_num, by go_num, HST⟩
                      case measure => simp [intOf]
              · have z0 : ((x : Int) == 0) = false := by rw [beq_eq_false_iff_ne]; omega
                by_cases hk0 : 0 < k
                · have p0 : (0 : Int) < (k : Int) := by omega
                  have hr : ru xs (i : Int) = (val (xs.drop i) (k + 1), k + 1, 0) := by rw [hu, if_neg (by omega), if_neg (by omega), if_neg (by omega), HV.out]
                  have hvu := val_u64 (xs.drop i) k hk9 (fun e => by rw [HDR.out k, ← HX.out]; omega)
                  have HR := Lib.hid hr
                  have HVU := Lib.hid hvu
                  clear hu hr hvu
                  go_wp2_with fail
                  go_loop [9, 10] (fun sn sj => ∃ (m j : Nat), j ≤ k + 1 ∧ sj = .int .i64 ((j : Int) - 1) ∧ sn = .int .u64 m ∧ Hid (m * 128 ^ j + val (xs.drop i) j = val (xs.drop i) (k + 1))) (fun _ sj => (intOf sj + 1).toNat)
                  case atStart => exact ⟨0, k + 1, by omega, by go_num, rfl, Lib.hid (by simp)⟩
                  case round =>
                    obtain ⟨m, j, hj, rfl, rfl, HS⟩ := hrel
                    rcases j with _ | j
                    · have hs := HS.out
                      have hs2 : m = val (xs.drop i) (k + 1) := by simpa [val] using hs
                      have HS2 := Lib.hid hs2
                      clear hs hs2 HS
                      go_wp2_with fail
                      go_ret3
                      exact ⟨by rw [HR.out, ← HS2.out]; rfl, rfl⟩
                    · have hcj := HC.out (i + j) (by omega)
                      obtain ⟨y, hy⟩ : ∃ y, y = xs.getD (i + j) 0 := ⟨_, rfl⟩
                      have hy256 : y < 256 := by rw [hy]; exact HG.out j (by omega)
                      have hst := rest_step (N := val (xs.drop i) j) (d := y % 128) HS.out (by simp only [val]; rw [HDR.out j, ← hy]) HVU.out
                      rw [← hy] at hcj
                      have hb1 : (m : Int) * 128 + (y : Int) % 128 ≤ 18446744073709551615 := by have := hst.1; omega
                      have HST := Lib.hid hst.2
                      clear hst hy HS
                      go_wp2_with fail
                      go_round
                      case rel => exact ⟨m * 128 + y % 128, j, by omega, by go_num, by go_num, HST⟩
                      case measure => simp [intOf]
                · have p0 : ¬ (0 : Int) < (k : Int) := by omega
                  have hr : ru xs (i : Int) = (val (xs.drop i) (k + 1), k + 1, 0) := by rw [hu, if_neg (by omega), if_neg (by omega), if_neg (by omega), HV.out]
                  have hvu := val_u64 (xs.drop i) k hk9 (fun e => by rw [HDR.out k, ← HX.out]; omega)
                  have HR := Lib.hid hr
                  have HVU := Lib.hid hvu
                  clear hu hr hvu
                  go_wp2_with fail
                  go_loop [9, 10] (fun sn sj => ∃ (m j : Nat), j ≤ k + 1 ∧ sj = .int .i64 ((j : Int) - 1) ∧ sn = .int .u64 m ∧ Hid (m * 128 ^ j + val (xs.drop i) j = val (xs.drop i) (k + 1))) (fun _ sj => (intOf sj + 1).toNat)
                  case atStart => exact ⟨0, k + 1, by omega, by go_num, rfl, Lib.hid (by simp)⟩
                  case round =>
                    obtain ⟨m, j, hj, rfl, rfl, HS⟩ := hrel
                    rcases j with _ | j
                    · have hs := HS.out
                      have hs2 : m = val (xs.drop i) (k + 1) := by simpa [val] using hs
                      have HS2 := Lib.hid hs2
                      clear hs hs2 HS
                      go_wp2_with fail
                      go_ret3
                      exact ⟨by rw [HR.out, ← HS2.out]; rfl, rfl⟩
                    · have hcj := HC.out (i + j) (by omega)
                      obtain ⟨y, hy⟩ : ∃ y, y = xs.getD (i + j) 0 := ⟨_, rfl⟩
                      have hy256 : y < 256 := by rw [hy]; exact HG.out j (by omega)
                      have hst := rest_step (N := val (xs.drop i) j) (d := y % 128) HS.out (by simp only [val]; rw [HDR.out j, ← hy]) HVU.out
                      rw [← hy] at hcj
                      have hb1 : (m : Int) * 128 + (y : Int) % 128 ≤ 18446744073709551615 := by have := hst.1; omega
                      have HST := Lib.hid hst.2
                      clear hst hy HS
                      go_wp2_with fail
                      go_round
                      case rel => exact ⟨m * 128 + y % 128, j, by omega, by go_num, by go_num, HST⟩
                      case measure => simp [intOf]
        · have hr : ru xs (i : Int) = (0, 0, 3) := by
            rw [HU.out, List.drop_eq_nil_of_le (i := i + k) (by have := HLEN.out; omega)]; rfl
          have HR := Lib.hid hr
          clear hr HU
          by_cases h9 : (k : Int) < 9
          all_goals
            go_wp2_with fail
            go_ret3
            exact ⟨by rw [HR.out]; rfl, rfl⟩
    · have hr : ru xs (i : Int) = (0, 0, 3) := by
        rw [ru_nat, List.drop_eq_nil_of_le (by omega)]; rfl
      have HR := Lib.hid hr
      clear hr h
      go_enter Tryz.func120, Tryz.ntmps120
      go_wp2_with fail
      go_ret3
      exact ⟨by rw [HR.out]; rfl, rfl⟩
end Go.Proofs.YtbdgcfimbblncaaGreatDoor
end PkMB1_8
section PkMB1_9
/- What is read fits; PutI's reader I, walked; what is read is written so. -/
namespace Go.Proofs.YtbdgcfimbblncaaGreatDoor
open Go.RowKit NumsPlain
set_option linter.unusedVariables false

theorem uu_lt : ∀ (l : List Nat) (acc i : Nat), i ≤ 9 → acc < 128 ^ i → (uu acc i l).1 < 18446744073709551616
  | [], _, _, _, _ => by simp [uu]
  | x :: xs, acc, i, hi, ha => by
    have h2 : (128 : Nat) ^ (i + 1) = 128 ^ i * 128 := Nat.pow_succ ..
    have h1 : x % 128 * 128 ^ i ≤ 127 * 128 ^ i := Nat.mul_le_mul_right _ (by omega)
    have h3 : (128 : Nat) ^ 9 = 9223372036854775808 := by decide
    simp only [uu]
    split
    · simp
    · rename_i hn
      rcases Nat.lt_or_ge i 9 with g | g
      · have h4 : (128 : Nat) ^ (i + 1) ≤ 128 ^ 9 := Nat.pow_le_pow_right (by omega) (by omega)
        split
        · exact uu_lt xs _ (i + 1) (by omega) (by omega)
        · split
          · simp
          · simp only; omega
      · obtain rfl : i = 9 := by omega
        rw [h3] at *
        have h5 : x % 128 * 9223372036854775808 ≤ 1 * 9223372036854775808 := Nat.mul_le_mul_right _ (by omega)
        split
        · omega
        · split
          · simp
          · simp only; omega

theorem uu_err : ∀ (l : List Nat) (acc i : Nat), (uu acc i l).2.2 ≠ 0 → (uu acc i l).1 = 0
  | [], _, _, _ => by simp [uu]
  | x :: xs, acc, i, h => by
    revert h
    simp only [uu]
    split
    · simp
    · split
      · exact uu_err xs _ _
      · split
        · simp
        · simp

theorem ru_lt (xs : List Nat) (at_ : Int) : (ru xs at_).1 < 18446744073709551616 := by
  unfold ru; split
  · simp
  · exact uu_lt _ 0 0 (by omega) (by simp)
theorem ru_err (xs : List Nat) (at_ : Int) (h : (ru xs at_).2.2 ≠ 0) : (ru xs at_).1 = 0 := by
  revert h
  unfold ru; split
  · simp
  · exact uu_err _ 0 0



/-- what is read is written so -/
theorem uu_conv : ∀ (l : List Nat) (acc i v j : Nat), (∀ x ∈ l, x < 256) → uu acc i l = (v, j, 0) → ∃ k n, j = i + k ∧ k ≤ l.length ∧ v = acc + n * 128 ^ i ∧ l.take k = pu n ∧ (i = 0 ∨ 0 < n)
  | [], _, _, _, _, _, h => by simp [uu] at h
  | x :: xs, acc, i, v, j, hb, h => by
    have hx := hb x (by simp)
    simp only [uu] at h
    split at h
    · simp at h
    · split at h
      · rename_i h128
        obtain ⟨k, n, rfl, hk, rfl, ht, hn⟩ := uu_conv xs _ _ v j (fun y hy => hb y (by simp [hy])) h
        have hn' : 0 < n := by omega
        refine ⟨k + 1, x % 128 + 128 * n, by omega, by simp; omega, ?_, ?_, by omega⟩
        · rw [Nat.pow_succ, Nat.add_mul, Nat.mul_comm 128 n, Nat.mul_assoc n 128, Nat.mul_comm 128 (128 ^ i)]; omega
        · rw [List.take_succ_cons, ht, pu_big (show 128 ≤ x % 128 + 128 * n by omega)]
          have e1 : (x % 128 + 128 * n) / 128 = n := by omega
          have e2 : 128 + (x % 128 + 128 * n) % 128 = x := by omega
          rw [e1, e2]
      · split at h
        · simp at h
        · simp only [Prod.mk.injEq, and_true] at h
          obtain ⟨rfl, rfl⟩ := h
          refine ⟨1, x, by omega, by simp, ?_, ?_, by omega⟩
          · rw [Nat.mod_eq_of_lt (by omega)]
          · rw [pu_small (by omega)]; simp

theorem ru_conv {xs : List Nat} {v j : Nat} (hb : ∀ x ∈ xs, x < 256) (h : ru xs 0 = (v, j, 0)) : j ≤ xs.length ∧ xs.take j = pu v := by
  rw [show (0 : Int) = ((0 : Nat) : Int) from rfl, ru_nat] at h
  simp only [List.drop_zero] at h
  obtain ⟨k, n, rfl, hk, rfl, ht, _⟩ := uu_conv xs 0 0 v j hb h
  simp only [Nat.zero_add, Nat.pow_zero, Nat.mul_one] at *
  exact ⟨hk, ht⟩

theorem ru_back {n : Nat} (h : n < 18446744073709551616) (r : List Nat) : ru (pu n ++ r) 0 = (n, (pu n).length, 0) := by
  rw [show (0 : Int) = ((0 : Nat) : Int) from rfl, ru_nat]
  simpa using uu_back h r

end Go.Proofs.YtbdgcfimbblncaaGreatDoor
end PkMB1_9
section PkMB1_10
/- A cursor of package nums, walked, for seats beside stage 1's. (Written by catcur.py out of XNumsCur, XNumsCur2, XNumsCur3.) -/
namespace Go.Proofs.YtbdgcfimbblncaaGreatDoor
open Go.RowKit NumsPlain
set_option linter.unusedVariables false

/-- a cursor's block: the bytes, the place, the error -/
structure CurAt (T : TypeId) (w : World) (B : Nat) (a : Option Addr) (n c : Nat) (xs : List Nat) (i e : Nat) : Prop where
  blk : w.heap[B]? = some (.cells #[.slice a n c, .int .i64 (i : Int), .int .i64 (e : Int)] T (0, 0))
  src : BytesAt w a n c xs
  apart : ∀ b off s, 0 < n → a = some ⟨b, off, s⟩ → b ≠ B
  le : i ≤ n

theorem CurAt.c0 {T : TypeId} {w : World} {B : Nat} {a : Option Addr} {n c : Nat} {xs : List Nat} {i e : Nat} (h : CurAt T w B a n c xs i e) : w.cell? ⟨B, 0, none⟩ = some (.slice a n c) := by
  rw [cell_of_row w B 0 _ T (0, 0) h.blk]; rfl
theorem CurAt.c1 {T : TypeId} {w : World} {B : Nat} {a : Option Addr} {n c : Nat} {xs : List Nat} {i e : Nat} (h : CurAt T w B a n c xs i e) : w.cell? ⟨B, 1, none⟩ = some (.int .i64 (i : Int)) := by
  rw [cell_of_row w B 1 _ T (0, 0) h.blk]; rfl
theorem CurAt.c2 {T : TypeId} {w : World} {B : Nat} {a : Option Addr} {n c : Nat} {xs : List Nat} {i e : Nat} (h : CurAt T w B a n c xs i e) : w.cell? ⟨B, 2, none⟩ = some (.int .i64 (e : Int)) := by
  rw [cell_of_row w B 2 _ T (0, 0) h.blk]; rfl
theorem CurAt.f {T : TypeId} {w : World} {B : Nat} {a : Option Addr} {n c : Nat} {xs : List Nat} {i e : Nat} (h : CurAt T w B a n c xs i e) (j : Nat) : w.frozen? ⟨B, j, none⟩ = false := frozen_of_row w B j _ T h.blk

set_option maxHeartbeats 400000 in
theorem reads_yes {w : World} {B : Nat} {a : Option Addr} {n c : Nat} {xs : List Nat} {i : Nat} (h : CurAt 123 w B a n c xs i 0) :
    Calls Tryz.prog 91 #[.pointer (some ⟨B, 0, none⟩)] w fun e w' => e = .returned (.bool true) ∧ w = w' := by
  have h2 := h.c2
  clear h
  go_enter Tryz.func91, Tryz.ntmps91
  go_wp2_with fail
  go_ret
  exact ⟨rfl, rfl⟩
set_option maxHeartbeats 400000 in
theorem reads_no {w : World} {B : Nat} {a : Option Addr} {n c : Nat} {xs : List Nat} {i e : Nat} (h : CurAt 123 w B a n c xs i e) (he : e ≠ 0) :
    Calls Tryz.prog 91 #[.pointer (some ⟨B, 0, none⟩)] w fun e w' => e = .returned (.bool false) ∧ w = w' := by
  have h2 := h.c2
  have z : ((e : Int) == 0) = false := by rw [beq_eq_false_iff_ne]; omega
  clear h
  go_enter Tryz.func91, Tryz.ntmps91
  go_wp2_with fail
  go_ret
  exact ⟨rfl, rfl⟩
set_option maxHeartbeats 400000 in
theorem reads_nil (w : World) :
    Calls Tryz.prog 91 #[.pointer none] w fun e w' => e = .returned (.bool false) ∧ w = w' := by
  go_enter Tryz.func91, Tryz.ntmps91
  go_wp2_with fail
  go_ret
  exact ⟨rfl, rfl⟩

theorem ru_count {xs : List Nat} {i v j : Nat} (hb : ∀ x ∈ xs, x < 256) (h : ru xs (i : Int) = (v, j, 0)) : i + j ≤ xs.length ∨ xs.length < i := by
  rw [ru_nat] at h
  obtain ⟨k, m, rfl, hk, _, _, _⟩ := uu_conv (xs.drop i) 0 0 v j (fun x hx => hb x (List.mem_of_mem_drop hx)) h
  rw [List.length_drop] at hk
  omega

/-- what reading a number makes of the place and the error: the value, the place, the error -/
def cu (xs : List Nat) (i e : Nat) : Nat × Nat × Nat :=
  if e = 0 then (if (ru xs (i : Int)).2.2 = 0 then ((ru xs (i : Int)).1, i + (ru xs (i : Int)).2.1, 0) else (0, i, (ru xs (i : Int)).2.2)) else (0, i, e)

theorem CurAt.set1 {T : TypeId} {w : World} {B : Nat} {a : Option Addr} {n c : Nat} {xs : List Nat} {i e : Nat} (h : CurAt T w B a n c xs i e) (j : Nat) (hj : j ≤ n) :
    CurAt T (w.setCell ⟨B, 1, none⟩ (.int .i64 (j : Int))) B a n c xs j e ∧ w.grownBy (w.setCell ⟨B, 1, none⟩ (.int .i64 (j : Int))) (some B) := by
  have hg : w.grownBy (w.setCell ⟨B, 1, none⟩ (.int .i64 (j : Int))) (some B) := ⟨rfl, rfl, rfl, by simp, fun k _ hk => heap_setCell_other w ⟨B, 1, none⟩ k _ (fun e => hk (by simp [e]))⟩
  refine ⟨⟨?_, ?_, h.apart, hj⟩, hg⟩
  · rw [heap_setCell_same w B 1 _ T _ h.blk]; rfl
  · exact ⟨h.src.len, h.src.cap, h.src.byte, h.src.reach, h.src.capm, h.src.nl, fun hp => by
      obtain ⟨b, off, ha, hlt, hc⟩ := h.src.cells hp
      exact ⟨b, off, ha, Nat.lt_of_lt_of_le hlt hg.size, fun k hk => hg.cell (hc k hk) (fun e => h.apart b off _ hp ha (Option.some.inj e))⟩⟩
theorem CurAt.set2 {T : TypeId} {w : World} {B : Nat} {a : Option Addr} {n c : Nat} {xs : List Nat} {i e : Nat} (h : CurAt T w B a n c xs i e) (j : Nat) :
    CurAt T (w.setCell ⟨B, 2, none⟩ (.int .i64 (j : Int))) B a n c xs i j ∧ w.grownBy (w.setCell ⟨B, 2, none⟩ (.int .i64 (j : Int))) (some B) := by
  have hg : w.grownBy (w.setCell ⟨B, 2, none⟩ (.int .i64 (j : Int))) (some B) := ⟨rfl, rfl, rfl, by simp, fun k _ hk => heap_setCell_other w ⟨B, 2, none⟩ k _ (fun e => hk (by simp [e]))⟩
  refine ⟨⟨?_, ?_, h.apart, h.le⟩, hg⟩
  · rw [heap_setCell_same w B 2 _ T _ h.blk]; rfl
  · exact ⟨h.src.len, h.src.cap, h.src.byte, h.src.reach, h.src.capm, h.src.nl, fun hp => by
      obtain ⟨b, off, ha, hlt, hc⟩ := h.src.cells hp
      exact ⟨b, off, ha, Nat.lt_of_lt_of_le hlt hg.size, fun k hk => hg.cell (hc k hk) (fun e => h.apart b off _ hp ha (Option.some.inj e))⟩⟩
theorem CurAt.drewN {T : TypeId} {w : World} {B : Nat} {a : Option Addr} {n c : Nat} {xs : List Nat} {i e : Nat} (h : CurAt T w B a n c xs i e) (k : Nat) : CurAt T (w.drewN k) B a n c xs i e :=
  ⟨h.blk, h.src.drewN k, h.apart, h.le⟩
set_option maxRecDepth 100000 in
set_option maxHeartbeats 1000000 in
theorem cu_any {w : World} {B : Nat} {a : Option Addr} {n c : Nat} {xs : List Nat} {i e : Nat} (h : CurAt 123 w B a n c xs i e) :
    Calls Tryz.prog 119 #[.pointer (some ⟨B, 0, none⟩)] w fun r w' => r = .returned (.int .u64 ((cu xs i e).1 : Int)) ∧ CurAt 123 w' B a n c xs (cu xs i e).2.1 (cu xs i e).2.2 ∧ w.grownBy w' (some B) := by
  by_cases he : e = 0
  · subst he
    have hr := reads_yes h
    have HR := Lib.hid hr
    have HH := Lib.hid h
    have h0 := h.c0
    have h1 := h.c1
    have h2 := h.c2
    have f1 := h.f 1
    have f2 := h.f 2
    have hin := h.le
    have hnr := h.src.reach
    have hu : ∀ k, Calls Tryz.prog 140 #[.slice a n c, .int .i64 (i : Int)] (w.drewN k) fun e w' => e = .returned (ruV (ru xs i)) ∧ w' = w.drewN k := fun k => (u_any (h.src.drewN k) i).mono fun e w' h => ⟨h.1, h.2.symm⟩
    obtain ⟨v, hv⟩ : ∃ u, u = (ru xs (i : Int)).1 := ⟨_, rfl⟩
    obtain ⟨j, hj⟩ : ∃ m, m = (ru xs (i : Int)).2.1 := ⟨_, rfl⟩
    obtain ⟨f, hf⟩ : ∃ f, f = (ru xs (i : Int)).2.2 := ⟨_, rfl⟩
    have hV : ruV (ru xs (i : Int)) = .tuple #[.int .u64 (v : Int), .int .i64 (j : Int), .int .i64 (f : Int)] := by unfold ruV; rw [hv, hj, hf]
    have hE : ru xs (i : Int) = (v, j, f) := by rw [hv, hj, hf]
    rw [hV] at hu
    have HU := Lib.hid hu
    have HV := Lib.hid hV
    have HE := Lib.hid hE
    clear hr h hu hv hj hf hV hE
    go_enter Tryz.func119, Tryz.ntmps119
    go_wp2_with fail
    refine HR.out.mono ?_
    rintro e w' ⟨rfl, rfl⟩
    go_wp2_with fail
    go_quiet ((go_at_call 140; exact Calls.quiet_of_same (HU.out _)))
    by_cases hf0 : f = 0
    · subst hf0
      have hcnt := ru_count HH.out.src.byte HE.out
      rw [HH.out.src.len] at hcnt
      have hij : i + j ≤ n := by omega
      have hc : cu xs i 0 = (v, i + j, 0) := by unfold cu; rw [HE.out]; rfl
      have HC := Lib.hid hc
      clear hc hcnt
      go_wp2_with fail
      go_ret
      rw [HC.out]
      obtain ⟨hs, hg⟩ := (HH.out.drewN _).set1 (i + j) hij
      exact ⟨rfl, hs, (grown_drewN _ _ _).trans' hg⟩
    · have z0 : ((f : Int) != 0) = true := by rw [bne_iff_ne]; omega
      have hc : cu xs i 0 = (0, i, f) := by unfold cu; rw [HE.out, if_pos rfl, if_neg hf0]
      have HC := Lib.hid hc
      clear hc hf0
      go_wp2_with fail
      go_ret
      rw [HC.out]
      obtain ⟨hs, hg⟩ := (HH.out.drewN _).set2 f
      exact ⟨rfl, hs, (grown_drewN _ _ _).trans' hg⟩
  · have hr := reads_no h he
    have HR := Lib.hid hr
    have hc : cu xs i e = (0, i, e) := by unfold cu; rw [if_neg he]
    have HC := Lib.hid hc
    have HH := Lib.hid h
    clear hr h hc he
    go_enter Tryz.func119, Tryz.ntmps119
    go_wp2_with fail
    refine HR.out.mono ?_
    rintro e w' ⟨rfl, rfl⟩
    go_wp2_with fail
    go_ret
    rw [HC.out]
    exact ⟨rfl, HH.out, World.grownBy.refl _ _⟩


set_option maxRecDepth 100000 in
set_option maxHeartbeats 1000000 in
theorem new_any {a : Option Addr} {n c : Nat} {xs : List Nat} {w : World} (h : BytesAt w a n c xs) :
    Calls Tryz.prog 48 #[.slice a n c] w fun e w' => ∃ B a' c', e = .returned (.pointer (some ⟨B, 0, none⟩)) ∧ CurAt 123 w' B a' n c' xs 0 0 ∧ Below w.heap.size w w' ∧ w.heap.size ≤ B ∧ (∀ b off s, a' = some ⟨b, off, s⟩ → w.heap.size ≤ b) := by
  have hc := clone_any h
  have HC := Lib.hid hc
  clear hc h
  go_enter Tryz.func48, Tryz.ntmps48
  go_wp2_with fail
  refine HC.out.mono ?_
  rintro e w1 ⟨a', c', rfl, hb1, hbel, hfresh⟩
  have HB := Lib.hid hb1
  clear hb1
  go_wp2_with fail
  go_ret
  refine ⟨w1.heap.size, a', c', rfl, ⟨?_, HB.out.alloc _, ?_, Nat.zero_le _⟩, hbel.alloc hbel.size _, hbel.size, hfresh⟩
  · exact heap_alloc_new w1 _
  · intro b off s hp ha
    obtain ⟨b', off', ha', hlt, _⟩ := HB.out.cells hp
    rw [ha] at ha'
    cases ha'
    omega

/-- what the end answers -/
def cend (n i e : Nat) : Nat := if e = 0 then (if i < n then 5 else 0) else e

set_option maxHeartbeats 400000 in
theorem end_any {w : World} {B : Nat} {a : Option Addr} {n c : Nat} {xs : List Nat} {i e : Nat} (h : CurAt 123 w B a n c xs i e) :
    Calls Tryz.prog 57 #[.pointer (some ⟨B, 0, none⟩)] w fun r w' => r = .returned (.int .i64 (cend n i e : Int)) ∧ ∃ q, w' = w.drewN q := by
  have h0 := h.c0
  have h1 := h.c1
  have h2 := h.c2
  clear h
  by_cases he : e = 0
  · subst he
    by_cases hi : i < n
    · have HE := Lib.hid (show cend n i 0 = 5 from by unfold cend; rw [if_pos rfl, if_pos hi])
      have hi' : (i : Int) < (n : Int) := by omega
      go_enter Tryz.func57, Tryz.ntmps57
      go_wp2_with fail
      go_quiet (fail)
      go_wp2_with fail
      go_ret
      exact ⟨by rw [HE.out]; rfl, _, rfl⟩
    · have HE := Lib.hid (show cend n i 0 = 0 from by unfold cend; rw [if_pos rfl, if_neg hi])
      have hi' : ¬ (i : Int) < (n : Int) := by omega
      go_enter Tryz.func57, Tryz.ntmps57
      go_wp2_with fail
      go_quiet (fail)
      go_wp2_with fail
      go_ret
      exact ⟨by rw [HE.out]; rfl, _, rfl⟩
  · have HE := Lib.hid (show cend n i e = e from by unfold cend; rw [if_neg he])
    have z : ((e : Int) != 0) = true := by rw [bne_iff_ne]; omega
    clear he
    go_enter Tryz.func57, Tryz.ntmps57
    go_wp2_with fail
    go_ret
    exact ⟨by rw [HE.out]; rfl, 0, rfl⟩


theorem cu_lt (xs : List Nat) (i e : Nat) : (cu xs i e).1 < 18446744073709551616 := by
  unfold cu
  split
  · split
    · exact ru_lt xs _
    · simp
  · simp
theorem cu_zero {xs : List Nat} {i e : Nat} (h : (cu xs i e).2.2 ≠ 0) : (cu xs i e).1 = 0 ∧ (cu xs i e).2.1 = i := by
  revert h
  unfold cu
  split
  · split
    · simp
    · simp
  · simp


/-- what reading a number up to most makes: the number, the place, the error -/
def ccn (xs : List Nat) (i e : Nat) (most : Int) (above : Nat) : Nat × Nat × Nat :=
  if e ≠ 0 then (0, i, e) else if (cu xs i 0).2.2 ≠ 0 then (0, i, (cu xs i 0).2.2) else if most < 0 ∨ most < ((cu xs i 0).1 : Int) then (0, i, above) else cu xs i 0

set_option maxRecDepth 100000 in
set_option maxHeartbeats 2000000 in
theorem cn_any {w : World} {B : Nat} {a : Option Addr} {n c : Nat} {xs : List Nat} {i e : Nat} (h : CurAt 123 w B a n c xs i e) (most : Int) (hmlo : -9223372036854775808 ≤ most) (hmhi : most ≤ 9223372036854775807) (above : Nat) :
    Calls Tryz.prog 92 #[.pointer (some ⟨B, 0, none⟩), .int .i64 most, .int .i64 (above : Int)] w fun r w' => r = .returned (.int .i64 ((ccn xs i e most above).1 : Int)) ∧ CurAt 123 w' B a n c xs (ccn xs i e most above).2.1 (ccn xs i e most above).2.2 ∧ w.grownBy w' (some B) := by
  by_cases he : e = 0
  · subst he
    have hr := reads_yes h
    have h1 := h.c1
    have HU := Lib.hid (cu_any h)
    have HR := Lib.hid hr
    have HH := Lib.hid h
    obtain ⟨v, hv⟩ : ∃ u, u = (cu xs i 0).1 := ⟨_, rfl⟩
    obtain ⟨j, hj⟩ : ∃ m, m = (cu xs i 0).2.1 := ⟨_, rfl⟩
    obtain ⟨f, hf⟩ : ∃ f, f = (cu xs i 0).2.2 := ⟨_, rfl⟩
    have hvl : v < 18446744073709551616 := by rw [hv]; exact cu_lt xs i 0
    have hz : f ≠ 0 → v = 0 ∧ j = i := by rw [hf, hv, hj]; exact cu_zero
    have HV := Lib.hid hv
    have HJ := Lib.hid hj
    have HF := Lib.hid hf
    have HZ := Lib.hid hz
    have HVL := Lib.hid hvl
    have HM1 := Lib.hid hmlo
    have HM2 := Lib.hid hmhi
    clear h hr hv hj hf hz hvl hmlo hmhi
    go_enter Tryz.func92, Tryz.ntmps92
    go_wp2_with fail
    refine HR.out.mono ?_
    rintro r w' ⟨rfl, rfl⟩
    go_wp2_with fail
    refine HU.out.mono ?_
    rintro r w1 ⟨rfl, hc1, hg1⟩
    rw [← HV.out]
    rw [← HJ.out, ← HF.out] at hc1
    have g1 := hc1.c1
    have g2 := hc1.c2
    have gf1 := hc1.f 1
    have gf2 := hc1.f 2
    have HC1 := Lib.hid hc1
    have HG1 := Lib.hid hg1
    clear hc1 hg1
    by_cases hf0 : f = 0
    · subst hf0
      by_cases hm : most < 0 ∨ most < (v : Int)
      · have hcn : ccn xs i 0 most above = (0, i, above) := by unfold ccn; rw [if_neg (by omega), if_neg (by rw [← HF.out]; simp), if_pos (by rw [← HV.out]; exact hm)]
        have HCN := Lib.hid hcn
        have HMM := Lib.hid hm
        obtain ⟨s1, t1⟩ := HC1.out.set1 i HH.out.le
        obtain ⟨s2, t2⟩ := s1.set2 above
        have HS := Lib.hid s2
        have HT := Lib.hid (HG1.out.trans' (t1.trans' t2))
        clear hcn s1 t1 s2 t2 hm
        by_cases hneg : most < 0
        · have d1 : decide (most < 0) = true := by simp; omega
          go_wp2_with fail
          go_ret
          rw [HCN.out]
          exact ⟨rfl, HS.out, HT.out⟩
        · have hmv : most < (v : Int) := HMM.out.resolve_left hneg
          have e3 : IntKind.u64.wrap most = most := by rw [IntKind.wrap_u64]; have := HM2.out; omega
          go_wp2_with fail
          go_ret
          rw [HCN.out]
          exact ⟨rfl, HS.out, HT.out⟩
      · have hcn : ccn xs i 0 most above = (v, j, 0) := by
          unfold ccn; rw [if_neg (by omega), if_neg (by rw [← HF.out]; simp), if_neg (by rw [← HV.out]; exact hm)]
          exact Prod.ext HV.out.symm (Prod.ext HJ.out.symm HF.out.symm)
        have HCN := Lib.hid hcn
        have hneg : ¬ most < 0 := fun h => hm (Or.inl h)
        have hmv : (v : Int) ≤ most := by have h2 : ¬ most < (v : Int) := fun h => hm (Or.inr h); omega
        have e3 : IntKind.u64.wrap most = most := by rw [IntKind.wrap_u64]; have := HM2.out; omega
        have e4 : wrap64 (v : Int) = (v : Int) := by unfold wrap64; have := HM2.out; omega
        have hv63 : (v : Int) ≤ 9223372036854775807 := by have := HM2.out; omega
        clear hcn hm
        go_wp2_with fail
        go_ret
        rw [HCN.out]
        exact ⟨rfl, HC1.out, HG1.out⟩
    · obtain ⟨hv0, hji⟩ := HZ.out hf0
      have hcn : ccn xs i 0 most above = (0, i, f) := by unfold ccn; rw [if_neg (by omega), if_pos (by rw [← HF.out]; exact hf0), HF.out]
      have HCN := Lib.hid hcn
      have z0 : ((f : Int) == 0) = false := by rw [beq_eq_false_iff_ne]; omega
      have HJI := Lib.hid hji
      clear hcn hji
      subst hv0
      clear hf0
      go_wp2_with fail
      go_ret
      rw [HCN.out]
      exact ⟨rfl, by rw [← HJI.out]; exact HC1.out, HG1.out⟩
  · have hr := reads_no h he
    have HR := Lib.hid hr
    have hc : ccn xs i e most above = (0, i, e) := by unfold ccn; rw [if_pos he]
    have HC := Lib.hid hc
    have HH := Lib.hid h
    clear hr h hc he
    go_enter Tryz.func92, Tryz.ntmps92
    go_wp2_with fail
    refine HR.out.mono ?_
    rintro r w' ⟨rfl, rfl⟩
    go_wp2_with fail
    go_ret
    rw [HC.out]
    exact ⟨rfl, HH.out, World.grownBy.refl _ _⟩

set_option maxHeartbeats 1000000 in
theorem cnum_any {w : World} {B : Nat} {a : Option Addr} {n c : Nat} {xs : List Nat} {i e : Nat} (h : CurAt 123 w B a n c xs i e) (most : Int) (hmlo : -9223372036854775808 ≤ most) (hmhi : most ≤ 9223372036854775807) :
    Calls Tryz.prog 50 #[.pointer (some ⟨B, 0, none⟩), .int .i64 most] w fun r w' => r = .returned (.int .i64 ((ccn xs i e most 2).1 : Int)) ∧ CurAt 123 w' B a n c xs (ccn xs i e most 2).2.1 (ccn xs i e most 2).2.2 ∧ w.grownBy w' (some B) := by
  have H1 := Lib.hid (cn_any h most hmlo hmhi 2)
  clear h hmlo hmhi
  go_enter Tryz.func50, Tryz.ntmps50
  go_wp2_with fail
  refine H1.out.mono ?_
  rintro r w1 ⟨rfl, hc, hg⟩
  have HC := Lib.hid hc
  have HG := Lib.hid hg
  clear hc hg
  go_wp2_with fail
  go_ret
  exact ⟨rfl, HC.out, HG.out⟩

theorem BytesAt.sub {w : World} {b off n c : Nat} {xs : List Nat} (h : BytesAt w (some ⟨b, off, none⟩) n c xs) (i m : Nat) (him : i + m ≤ n) (hm : 0 < m) : BytesAt w (some ⟨b, off + i, none⟩) m (c - i) ((xs.drop i).take m) := by
  have hl := h.len
  have hc := h.cap
  have hr := h.reach
  have hcm := h.capm
  refine ⟨by simp; omega, by omega, fun x hx => h.byte x (List.mem_of_mem_drop (List.mem_of_mem_take hx)), by omega, by omega, (fun e => by cases e), fun _ => ?_⟩
  obtain ⟨b', off', ha, hlt, hcell⟩ := h.cells (by omega)
  cases ha
  refine ⟨b, off + i, rfl, hlt, fun k hk => ?_⟩
  rw [Nat.add_assoc, hcell (i + k) (by omega)]
  have e : ((xs.drop i).take m).getD k 0 = xs.getD (i + k) 0 := by
    simp [List.getD, hk]
  rw [e]

theorem BytesAt.subAny {w : World} {a : Option Addr} {n c : Nat} {xs : List Nat} (h : BytesAt w a n c xs) (i m : Nat) (him : i + m ≤ n) : BytesAt w (if c = i then a else a.map (·.add i)) m (c - i) ((xs.drop i).take m) := by
  have hc := h.cap
  have hcm := h.capm
  rcases Nat.eq_zero_or_pos m with h0 | hp
  · subst h0
    rw [List.take_zero]
    refine BytesAt.empty _ _ _ (by omega) (fun e => ?_)
    split at e
    · omega
    · have hn : a = none := by cases a with | none => rfl | some _ => simp at e
      have := h.nl hn
      omega
  · obtain ⟨b, off, rfl, _, _⟩ := h.cells (by omega)
    rw [if_neg (by omega)]
    have h4 : (⟨b, off, none⟩ : Addr).add i = ⟨b, off + i, none⟩ := by unfold Addr.add; split <;> simp_all
    simp only [Option.map_some, h4]
    exact h.sub i m him hp
theorem size_u8 (w : World) : (Go.sizeOf 5).run Tryz.prog w = .ok 1 w := by kernel_rfl
set_option maxRecDepth 100000 in
theorem slice_run (a : Option Addr) (n c i m : Nat) (him : i + m ≤ c) (w : World) :
    (Instr.slice 30 (.slice a n c) (some (.int .i64 (i : Int))) (some (.int .i64 ((i : Int) + (m : Int)))) none).run Tryz.prog w = .ok (.slice (if c = i then a else a.map (·.add i)) m (c - i)) w := by
  have ht' : Tryz.prog.underlying 30 = some (.slice (Tryz.prog.elem 30)) := by simp [Program.elem, Tryz.underlying30]
  have he : Tryz.prog.elem 30 = 5 := by simp [Program.elem, Tryz.underlying30]
  rw [run_slice_lh w 30 _ _ _ ht' .i64 .i64 _ _ (by omega) (by omega) (by omega), he, size_u8]
  have e1 : ((i : Int) + (m : Int)).toNat = i + m := by omega
  simp only [Result.andThen, sliced, Int.toNat_natCast, e1, Nat.mul_one]
  congr 2
  omega

theorem CurAt.lt {T : TypeId} {w : World} {B : Nat} {a : Option Addr} {n c : Nat} {xs : List Nat} {i e : Nat} (h : CurAt T w B a n c xs i e) : B < w.heap.size := (Array.getElem?_eq_some_iff.1 h.blk).1
theorem CurAt.keptB {T : TypeId} {w w' : World} {B : Nat} {a : Option Addr} {n c : Nat} {xs : List Nat} {i e : Nat} (h : CurAt T w B a n c xs i e) (hb : Below w.heap.size w w') : CurAt T w' B a n c xs i e :=
  ⟨(hb.block B h.lt).trans h.blk, h.src.kept hb, h.apart, h.le⟩
theorem below_grown {w w' : World} (hb : Below w.heap.size w w') (r : Option Nat) : w.grownBy w' r := ⟨hb.os, hb.tape, hb.output, hb.size, fun k hk _ => hb.block k hk⟩
theorem grown_drew (w : World) (r : Option Nat) : w.grownBy w.drew r := ⟨rfl, rfl, rfl, Nat.le_refl _, fun _ _ _ => rfl⟩
theorem CurAt.drew {T : TypeId} {w : World} {B : Nat} {a : Option Addr} {n c : Nat} {xs : List Nat} {i e : Nat} (h : CurAt T w B a n c xs i e) : CurAt T w.drew B a n c xs i e := ⟨h.blk, h.src.drew, h.apart, h.le⟩

/-- what taking n bytes makes: the bytes, the place, the error -/
def cb (xs : List Nat) (i e : Nat) (k : Int) : List Nat × Nat × Nat :=
  if e ≠ 0 then ([], i, e) else if k < 0 ∨ ((xs.length - i : Nat) : Int) < k then ([], i, 3) else ((xs.drop i).take k.toNat, i + k.toNat, 0)

set_option maxRecDepth 100000 in
set_option maxHeartbeats 4000000 in
theorem cb_any {w : World} {B : Nat} {a : Option Addr} {n c : Nat} {xs : List Nat} {i e : Nat} (h : CurAt 123 w B a n c xs i e) (k : Int) (hmlo : -9223372036854775808 ≤ k) (hmhi : k ≤ 9223372036854775807) :
    Calls Tryz.prog 49 #[.pointer (some ⟨B, 0, none⟩), .int .i64 k] w fun r w' => (∃ a' c', r = .returned (.slice a' (cb xs i e k).1.length c') ∧ BytesAt w' a' (cb xs i e k).1.length c' (cb xs i e k).1) ∧ CurAt 123 w' B a n c xs (cb xs i e k).2.1 (cb xs i e k).2.2 ∧ w.grownBy w' (some B) := by
  have hempty : ∀ w, BytesAt w none 0 0 [] := fun w => BytesAt.empty w none 0 (by omega) (fun _ => rfl)
  have HEM := Lib.hid hempty
  clear hempty
  by_cases he : e = 0
  · subst he
    have HR := Lib.hid (reads_yes h)
    have h0 := h.c0
    have h1 := h.c1
    have h2 := h.c2
    have f1 := h.f 1
    have f2 := h.f 2
    have hle := h.le
    have hlen := h.src.len
    have hnr := h.src.reach
    have hcap := h.src.cap
    have hcm := h.src.capm
    have HH := Lib.hid h
    have HLEN := Lib.hid hlen
    have e1 : IntKind.i64.wrap ((n : Int) - (i : Int)) = (n : Int) - (i : Int) := IntWalk.i64_in _ (by omega)
    clear h hlen
    by_cases hneg : k < 0
    · have hc : cb xs i 0 k = ([], i, 3) := by unfold cb; rw [if_neg (by omega), if_pos (Or.inl hneg)]
      have HC := Lib.hid hc
      have d1 : decide (k < 0) = true := by simp; omega
      clear hc
      go_enter Tryz.func49, Tryz.ntmps49
      go_wp2_with fail
      refine HR.out.mono ?_
      rintro r w' ⟨rfl, rfl⟩
      go_wp2_with fail
      go_quiet (fail)
      go_wp2_with fail
      go_ret
      rw [HC.out]
      obtain ⟨s1, t1⟩ := (HH.out.drewN _).set2 3
      exact ⟨⟨none, 0, rfl, HEM.out _⟩, s1, (grown_drewN _ _ _).trans' t1⟩
    · by_cases hbig : (n : Int) - (i : Int) < k
      · have hc : cb xs i 0 k = ([], i, 3) := by unfold cb; rw [if_neg (by omega), if_pos (Or.inr (by rw [HLEN.out]; omega))]
        have HC := Lib.hid hc
        have d0 : decide (k < 0) = false := by simp; omega
        clear hc
        go_enter Tryz.func49, Tryz.ntmps49
        go_wp2_with fail
        refine HR.out.mono ?_
        rintro r w' ⟨rfl, rfl⟩
        go_wp2_with fail
        go_quiet (fail)
        go_wp2_with fail
        go_ret
        rw [HC.out]
        obtain ⟨s1, t1⟩ := (HH.out.drewN _).set2 3
        exact ⟨⟨none, 0, rfl, HEM.out _⟩, s1, (grown_drewN _ _ _).trans' t1⟩
      · obtain ⟨m, rfl⟩ := Int.eq_ofNat_of_zero_le (show 0 ≤ k by omega)
        have him : i + m ≤ n := by omega
        have hc : cb xs i 0 (m : Int) = ((xs.drop i).take m, i + m, 0) := by unfold cb; rw [if_neg (by omega), if_neg (by rw [HLEN.out]; omega)]; simp
        have hml : ((xs.drop i).take m).length = m := by have := HLEN.out; simp; omega
        have HC := Lib.hid hc
        have HML := Lib.hid hml
        have d0 : decide ((m : Int) < 0) = false := by simp
        have hbig2 : (m : Int) ≤ (n : Int) - (i : Int) := by omega
        have e2 : IntKind.i64.wrap ((i : Int) + (m : Int) - (m : Int)) = (i : Int) := by rw [IntWalk.i64_in _ (by omega)]; omega
        have e3 : IntKind.i64.wrap (i : Int) = (i : Int) := IntWalk.i64_in _ (by omega)
        clear hc hml hbig
        go_enter Tryz.func49, Tryz.ntmps49
        go_wp2_with fail
        refine HR.out.mono ?_
        rintro r w' ⟨rfl, rfl⟩
        go_wp2_with fail
        go_quiet (fail)
        go_wp2_with fail
        rename Nat => nq
        obtain ⟨s1, t1⟩ := (HH.out.drewN nq).set1 (i + m) him
        obtain ⟨w2, hw2⟩ : ∃ w2, w2 = (w.drewN nq).setCell ⟨B, 1, none⟩ (.int .i64 ((i : Int) + (m : Int))) := ⟨_, rfl⟩
        have s2 : CurAt 123 w2 B a n c xs (i + m) 0 := by rw [hw2]; exact s1
        have t2 : w.grownBy w2 (some B) := by rw [hw2]; exact (grown_drewN _ _ _).trans' t1
        rw [← hw2]
        have m0 := s2.c0
        have m1 : w2.cell? ⟨B, 1, none⟩ = some (.int .i64 ((i : Int) + (m : Int))) := s2.c1
        have hnl := s2.src.nl
        have S2 := Lib.hid s2
        have T2 := Lib.hid t2
        clear s1 t1 hw2 s2 t2 h0 h1 h2 f1 f2
        have hsl := slice_run a n c i m (by omega)
        have hsub := S2.out.src.subAny i m him
        have hBL : B < w2.heap.size := S2.out.lt
        generalize (if c = i then a else a.map (·.add i)) = A at hsl hsub
        have HSUB := Lib.hid hsub
        clear hsub hnl
        go_region_held3 (fun w' => w'.cell? ⟨B, 0, none⟩ = some (.slice a n c) ∧ w'.cell? ⟨B, 1, none⟩ = some (.int .i64 ((i : Int) + (m : Int)))) (first | go_keep | exact ⟨(hbel3.cell (p := ⟨B, 0, none⟩) hBL).trans m0, (hbel3.cell (p := ⟨B, 1, none⟩) hBL).trans m1⟩) (first | (go_at_call 89; refine (clone_any (HSUB.out.drew)).mono ?_; rintro r w3 ⟨a3, c3, rfl, hb3, hbel3, hf3⟩))
        go_wp2_with fail
        go_ret
        rw [HC.out]
        refine ⟨⟨a3, c3, by rw [HML.out]; rfl, by rw [HML.out]; exact hb3⟩, S2.out.drew.keptB hbel3, T2.out.trans' ((grown_drew w2 _).trans' (below_grown hbel3 _))⟩
  · have HR := Lib.hid (reads_no h he)
    have hc : cb xs i e k = ([], i, e) := by unfold cb; rw [if_pos he]
    have HC := Lib.hid hc
    have HH := Lib.hid h
    clear h hc he
    go_enter Tryz.func49, Tryz.ntmps49
    go_wp2_with fail
    refine HR.out.mono ?_
    rintro r w' ⟨rfl, rfl⟩
    go_wp2_with fail
    go_ret
    rw [HC.out]
    exact ⟨⟨none, 0, rfl, HEM.out _⟩, HH.out, World.grownBy.refl _ _⟩

theorem cb_nil {xs : List Nat} {i e : Nat} {k : Int} (h : (cb xs i e k).2.2 ≠ 0) : (cb xs i e k).1 = [] := by
  revert h
  unfold cb
  split
  · simp
  · split
    · simp
    · simp

/-- what reading a text makes: its bytes, the place, the error -/
def ct (xs : List Nat) (i e : Nat) (most : Int) : List Nat × Nat × Nat :=
  if e ≠ 0 then ([], i, e) else
    if (cb xs (ccn xs i 0 most 5).2.1 (ccn xs i 0 most 5).2.2 ((ccn xs i 0 most 5).1 : Int)).2.2 ≠ 0 then ([], i, (cb xs (ccn xs i 0 most 5).2.1 (ccn xs i 0 most 5).2.2 ((ccn xs i 0 most 5).1 : Int)).2.2)
    else cb xs (ccn xs i 0 most 5).2.1 (ccn xs i 0 most 5).2.2 ((ccn xs i 0 most 5).1 : Int)
theorem curn_le {xs : List Nat} {i e : Nat} {most : Int} {above : Nat} (hmhi : most ≤ 9223372036854775807) : ((ccn xs i e most above).1 : Int) ≤ 9223372036854775807 := by
  unfold ccn
  split
  · simp
  · split
    · simp
    · split
      · simp
      · omega

set_option maxRecDepth 100000 in
set_option maxHeartbeats 4000000 in
theorem ct_any {w : World} {B : Nat} {a : Option Addr} {n c : Nat} {xs : List Nat} {i e : Nat} (h : CurAt 123 w B a n c xs i e) (most : Int) (hmlo : -9223372036854775808 ≤ most) (hmhi : most ≤ 9223372036854775807) :
    Calls Tryz.prog 93 #[.pointer (some ⟨B, 0, none⟩), .int .i64 most] w fun r w' => r = .returned (.string (bs (ct xs i e most).1)) ∧ CurAt 123 w' B a n c xs (ct xs i e most).2.1 (ct xs i e most).2.2 ∧ w.grownBy w' (some B) := by
  by_cases he : e = 0
  · subst he
    have HR := Lib.hid (reads_yes h)
    have h1 := h.c1
    have HU := Lib.hid (cn_any h most hmlo hmhi 5)
    have HH := Lib.hid h
    have hle := curn_le (xs := xs) (i := i) (e := 0) (above := 5) hmhi
    obtain ⟨r, hr⟩ : ∃ r, r = ccn xs i 0 most 5 := ⟨_, rfl⟩
    have hct : ct xs i 0 most = if (cb xs r.2.1 r.2.2 (r.1 : Int)).2.2 ≠ 0 then ([], i, (cb xs r.2.1 r.2.2 (r.1 : Int)).2.2) else cb xs r.2.1 r.2.2 (r.1 : Int) := by
      unfold ct; rw [if_neg (by omega), hr]
    rw [← hr] at HU hle
    obtain ⟨v, j, f⟩ := r
    simp only at hct hle HU
    obtain ⟨s, hs⟩ : ∃ s, s = cb xs j f (v : Int) := ⟨_, rfl⟩
    rw [← hs] at hct
    have HCT := Lib.hid hct
    have HS := Lib.hid hs
    have HLE := Lib.hid hle
    clear h hct hs hle hr hmlo hmhi
    go_enter Tryz.func93, Tryz.ntmps93
    go_wp2_with fail
    refine HR.out.mono ?_
    rintro r w' ⟨rfl, rfl⟩
    go_wp2_with fail
    refine HU.out.mono ?_
    rintro r w1 ⟨rfl, hc1, hg1⟩
    have HB := Lib.hid (cb_any hc1 (v : Int) (by omega) HLE.out)
    have HG1 := Lib.hid hg1
    clear hc1 hg1
    rw [← HS.out] at HB
    go_wp2_with fail
    refine HB.out.mono ?_
    rintro r w2 ⟨⟨a2, c2, rfl, hb2⟩, hc2, hg2⟩
    have g1 := hc2.c1
    have g2 := hc2.c2
    have gf := hc2.f 1
    have HC2 := Lib.hid hc2
    have HB2 := Lib.hid hb2
    have HG2 := Lib.hid (HG1.out.trans' hg2)
    clear hc2 hb2 hg2
    obtain ⟨e2, he2⟩ : ∃ e2, e2 = s.2.2 := ⟨_, rfl⟩
    rw [← he2] at g2
    have HE2 := Lib.hid he2
    clear he2
    by_cases hf0 : e2 = 0
    · have hv : ct xs i 0 most = s := by rw [HCT.out, if_neg (by rw [← HE2.out]; simpa using hf0)]
      have HV := Lib.hid hv
      have hcv := HB2.out.conv
      obtain ⟨l, hl⟩ : ∃ l, l = s.1.length := ⟨_, rfl⟩
      rw [← hl] at hcv ⊢
      subst hf0
      clear hv hl
      go_wp2_with fail
      go_ret
      rw [HV.out]
      exact ⟨rfl, HC2.out, HG2.out⟩
    · have hv : ct xs i 0 most = ([], i, e2) := by rw [HCT.out, if_pos (by rw [← HE2.out]; exact hf0), HE2.out]
      have hnil : s.1 = [] := by rw [HS.out]; exact cb_nil (by rw [← HS.out, ← HE2.out]; exact hf0)
      obtain ⟨s1, t1⟩ := HC2.out.set1 i HH.out.le
      rw [← HE2.out] at s1
      have hba := HB2.out
      rw [hnil] at hba
      have hcv := (BytesAt.empty (w2.setCell ⟨B, 1, none⟩ (.int .i64 (i : Int))) a2 c2 hba.capm hba.nl).conv
      have z : ((e2 : Int) != 0) = true := by rw [bne_iff_ne]; omega
      have HV := Lib.hid hv
      have HS1 := Lib.hid s1
      have HT1 := Lib.hid (HG2.out.trans' t1)
      rw [hnil]
      clear hv hba s1 t1 hf0 hnil
      go_wp2_with fail
      go_ret
      rw [HV.out]
      exact ⟨rfl, HS1.out, HT1.out⟩
  · have HR := Lib.hid (reads_no h he)
    have hc : ct xs i e most = ([], i, e) := by unfold ct; rw [if_pos he]
    have HC := Lib.hid hc
    have HH := Lib.hid h
    clear h hc he
    go_enter Tryz.func93, Tryz.ntmps93
    go_wp2_with fail
    refine HR.out.mono ?_
    rintro r w' ⟨rfl, rfl⟩
    go_wp2_with fail
    go_ret
    rw [HC.out]
    exact ⟨rfl, HH.out, World.grownBy.refl _ _⟩

end Go.Proofs.YtbdgcfimbblncaaGreatDoor
end PkMB1_10
section PkMB1_11
/- Slices of things of any struct, as walks are told of them: wherever they lie; what a call owns; as a law's argument. -/
namespace Go.Proofs.YtbdgcfimbblncaaGreatDoor
open Go.ChangeShapes Go.WideShapes Go.Deep Go.RowKit
set_option linter.unusedVariables false

theorem vflat_len {α : Type} (f : α → List Value) (K : Nat) (hK : ∀ x, (f x).length = K) : ∀ l : List α, (l.flatMap f).length = l.length * K
  | [] => by simp
  | x :: r => by rw [List.flatMap_cons, List.length_append, hK, vflat_len f K hK r, List.length_cons, Nat.succ_mul]; omega
theorem vflat_at {α : Type} (f : α → List Value) (K : Nat) (hK : ∀ x, (f x).length = K) (d : α) : ∀ (l : List α) (i j : Nat), i < l.length → j < K → (l.flatMap f)[i * K + j]? = (f (l.getD i d))[j]?
  | x :: r, 0, j, _, hj => by
    rw [List.flatMap_cons, Nat.zero_mul, Nat.zero_add, List.getElem?_append_left (by rw [hK]; exact hj)]; rfl
  | x :: r, i + 1, j, hi, hj => by
    rw [List.flatMap_cons, List.getElem?_append_right (by rw [hK, Nat.succ_mul]; omega), hK, show (i + 1) * K + j - K = i * K + j from by rw [Nat.succ_mul]; omega, vflat_at f K hK d r i j (by simpa using hi) hj]
    rfl
/-- things of K cells, and what else holds of them in a world -/
structure Sty (α : Type) where
  f : α → List Value
  K : Nat
  z : α
  ok : World → α → Prop
  pos : 0 < K
  wid : ∀ x, (f x).length = K
  one : ∀ x, ∀ u ∈ f x, u.oneCell' = true
  mono : ∀ {w w' : World} {x : α}, Below w.heap.size w w' → ok w x → ok w' x
def Sty.flat {α : Type} (S : Sty α) (l : List α) : List Value := l.flatMap S.f
structure VecAt {α : Type} (S : Sty α) (w : World) (a : Option Addr) (n c : Nat) (l : List α) : Prop where
  len : l.length = n
  cap : n ≤ c
  capm : c ≤ 9223372036854775807
  nl : a = none → c = 0
  all : ∀ x ∈ l, S.ok w x
  cells : 0 < n → ∃ b off, a = some ⟨b, off, none⟩ ∧ b < w.heap.size ∧ ∀ i, i < n → ∀ j u, (S.f (l.getD i S.z))[j]? = some u → w.cell? ⟨b, off + i * S.K + j, none⟩ = some u
section
variable {α : Type} {S : Sty α} {w w' : World} {a : Option Addr} {n c : Nat} {l : List α}
theorem VecAt.kept (h : VecAt S w a n c l) (hb : Below w.heap.size w w') : VecAt S w' a n c l :=
  ⟨h.len, h.cap, h.capm, h.nl, fun x hx => S.mono hb (h.all x hx), fun hn => by
    obtain ⟨b, off, ha, hlt, hc⟩ := h.cells hn
    exact ⟨b, off, ha, Nat.lt_of_lt_of_le hlt hb.size, fun i hi j u hu => (hb.cell (p := ⟨b, off + i * S.K + j, none⟩) hlt).trans (hc i hi j u hu)⟩⟩
theorem VecAt.empty (w : World) (a : Option Addr) (c : Nat) (hc : c ≤ 9223372036854775807) (ha : a = none → c = 0) : VecAt S w a 0 c [] :=
  ⟨rfl, Nat.zero_le _, hc, ha, (fun x hx => by cases hx), fun h => absurd h (Nat.lt_irrefl 0)⟩
theorem vec_mem {i : Nat} (h : i < l.length) : l.getD i S.z ∈ l := by
  have : l.getD i S.z = l[i] := by simp [h]
  rw [this]; exact List.getElem_mem h
theorem VecAt.get (h : VecAt S w a n c l) {i : Nat} (hi : i < n) : ∃ b off, a = some ⟨b, off, none⟩ ∧ b < w.heap.size ∧ S.ok w (l.getD i S.z) ∧ ∀ j u, (S.f (l.getD i S.z))[j]? = some u → w.cell? ⟨b, off + i * S.K + j, none⟩ = some u := by
  obtain ⟨b, off, ha, hlt, hc⟩ := h.cells (by omega)
  exact ⟨b, off, ha, hlt, h.all _ (vec_mem (by rw [h.len]; exact hi)), hc i hi⟩
theorem VecAt.ofOwn {base : Nat} {e : TypeId} (h : w.ownsRow base e S.K (.slice a n c) n (S.flat l)) (hl : l.length = n) (hok : ∀ x ∈ l, S.ok w x) : VecAt S w a n c l := by
  rcases h.2 with ⟨he, h0⟩ | ⟨g, cap, cur, he, hg, hh, hnc, hcap, hsz, htake⟩
  · cases he
    obtain rfl : l = [] := List.eq_nil_of_length_eq_zero hl
    exact VecAt.empty w none 0 (by omega) (fun _ => rfl)
  · cases he
    refine ⟨hl, hnc, by unfold maxLen at hcap; exact hcap, (fun e => by cases e), hok, fun hp => ⟨g, 0, rfl, (Array.getElem?_eq_some_iff.1 hh).1, fun i hi j u hu => ?_⟩⟩
    have hj : j < S.K := by rw [← S.wid (l.getD i S.z)]; exact (List.getElem?_eq_some_iff.1 hu).1
    have h2 : (S.flat l)[i * S.K + j]? = some u := by
      unfold Sty.flat
      rw [vflat_at S.f S.K S.wid S.z l i j (by omega) hj, hu]
    have hlt : i * S.K + j < n * S.K := by
      have := Nat.mul_le_mul_right S.K (show i + 1 ≤ n by omega)
      rw [Nat.succ_mul] at this; omega
    rw [Nat.zero_add, cell_of_row w _ _ _ _ (0, 0) hh, ← h2, ← htake, List.getElem?_take_of_lt hlt, Array.getElem?_toList]
theorem Sty.flat_len (S : Sty α) (l : List α) : (S.flat l).length = l.length * S.K := Go.Proofs.YtbdgcfimbblncaaGreatDoor.vflat_len S.f S.K S.wid l
theorem Sty.flat_snoc (S : Sty α) (l : List α) (x : α) : S.flat (l ++ [x]) = S.flat l ++ S.f x := by unfold Sty.flat; simp
theorem Sty.flat_one (S : Sty α) (l : List α) : ∀ u ∈ S.flat l, u.oneCell' = true := by
  intro u hu
  obtain ⟨x, _, hx⟩ := List.mem_flatMap.1 hu
  exact S.one x u hx
theorem VecAt.src {ad : Addr} (h : VecAt S w (some ad) n c l) : ∀ j u, (S.flat l)[j]? = some u → w.cell? (ad.add j) = some u := by
  intro j u hu
  have hj : j < n * S.K := by rw [← h.len, ← S.flat_len]; exact (List.getElem?_eq_some_iff.1 hu).1
  have hn : 0 < n := by
    rcases Nat.eq_zero_or_pos n with e | e
    · rw [e, Nat.zero_mul] at hj; omega
    · exact e
  obtain ⟨b, off, he, hlt, hc⟩ := h.cells hn
  cases he
  have hdiv : j / S.K < n := (Nat.div_lt_iff_lt_mul S.pos).2 hj
  have hmod : j % S.K < S.K := Nat.mod_lt _ S.pos
  have e1 : j / S.K * S.K + j % S.K = j := by rw [Nat.mul_comm]; exact Nat.div_add_mod j S.K
  have h2 := vflat_at S.f S.K S.wid S.z l (j / S.K) (j % S.K) (by rw [h.len]; exact hdiv) hmod
  rw [e1] at h2
  have h3 := hc (j / S.K) hdiv (j % S.K) u (by rw [← h2]; exact hu)
  have h4 : (⟨b, off, none⟩ : Addr).add j = ⟨b, off + j, none⟩ := by unfold Addr.add; split <;> simp_all
  rw [h4, ← h3, Nat.add_assoc, e1]
end
/-- one thing, newly laid -/
theorem Sty.src {α : Type} (S : Sty α) (w : World) (x : α) (t : TypeId) {cs : Array Value} (hcs : cs = (S.f x).toArray) : ∀ j u, (S.f x)[j]? = some u → (w.alloc (.cells cs t)).cell? ((⟨w.heap.size, 0, none⟩ : Addr).add j) = some u := by
  intro j u hj
  have hblk := heap_alloc_new w (.cells cs t)
  have hadd : (⟨w.heap.size, 0, none⟩ : Addr).add j = ⟨w.heap.size, 0 + j, none⟩ := by unfold Addr.add; split <;> simp_all
  rw [hadd, Nat.zero_add, cell_of_row _ _ _ _ _ (0, 0) hblk, hcs, List.getElem?_toArray]
  exact hj
theorem vec_wadd {H : Type} {P : Program} {e : TypeId} {d : DataW H} {n : Nat} : ∀ {l : List (DataW H)}, d ∈ l → n ∈ DataW.weights P e d → n ∈ DataW.weightsAll P e l
  | [], h, _ => by cases h
  | x :: r, h, hn => by
    rw [DataW.weightsAll]
    rcases List.mem_cons.1 h with rfl | h
    · exact List.mem_append_left _ hn
    · exact List.mem_append_right _ (vec_wadd h hn)
/-- opened, as a law's argument -/
theorem open_vec {α : Type} (S : Sty α) {H : Type} {enc : TypeId × Value → H} {W : World} {fuel : Nat} {T e : TypeId} {a : Option Addr} {len cap : Nat} {x : DataW H × List MemPlace} (ht : Tryz.prog.underlying T = some (.slice e)) (hK : Tryz.prog.cellsOf e = S.K)
    (hfld : ∀ (fuel : Nat) (cs : List Value) (y : DataW H × List MemPlace), DataW.trod enc Tryz.prog W 0 (fun _ => true) true fuel e cs = some y → (∀ n, n ∈ DataW.weights Tryz.prog e y.1 → n ≤ reachBytes) → ∃ r : α, cs = S.f r ∧ S.ok W r)
    (hf : DataW.trod enc Tryz.prog W 0 (fun _ => true) true fuel T [.slice a len cap] = some x) (hw : ∀ n, n ∈ DataW.weights Tryz.prog T x.1 → n ≤ reachBytes) : ∃ l : List α, VecAt S W a len cap l := by
  rcases open_slice ht hf with ⟨hcs, _⟩ | ⟨x0, l, c, m, n, D, Pl, hcs, _, hl, hm, hmm, hx, hi⟩
  · simp at hcs
    obtain ⟨rfl, rfl, rfl⟩ := hcs
    exact ⟨[], VecAt.empty W none 0 (by omega) (fun _ => rfl)⟩
  · simp at hcs
    obtain ⟨rfl, rfl, rfl⟩ := hcs
    rw [hK] at hi
    have hm2 : m = cap := by rw [hmm]; simp
    have hone : ∀ i : Nat, ∃ r : α, i < len → (∀ j u, (S.f r)[j]? = some u → W.cell? (x0.add (i * S.K + j)) = some u) ∧ S.ok W r := by
      intro i
      by_cases hil : i < len
      · obtain ⟨cs, hcc, ht2⟩ := hi i (by omega)
        obtain ⟨r, rfl, hok⟩ := hfld _ _ _ ht2 (fun n hn => hw n (by
          rw [hx]
          simp only [DataW.weights, ht]
          exact List.mem_cons_of_mem _ (List.mem_append_left _ (vec_wadd (List.mem_map.2 ⟨i, List.mem_range.2 hil, rfl⟩) hn))))
        obtain ⟨_, hl9, hat⟩ := World.cells?_some hcc
        refine ⟨r, fun _ => ⟨fun j u hu => ?_, hok⟩⟩
        have := hat j (by rw [← hl9]; exact (List.getElem?_eq_some_iff.1 hu).1)
        rw [add_add, hu] at this
        exact this
      · exact ⟨S.z, fun h => absurd h hil⟩
    obtain ⟨f, hF⟩ := Classical.skolem.1 hone
    have hget : ∀ i, i < len → ((List.range len).map f).getD i S.z = f i := fun i h => by simp [h]
    refine ⟨(List.range len).map f, by simp, hl, by unfold maxLen at hm; exact hm, (fun e => by cases e), ?_, fun hp => ?_⟩
    · intro y hy
      obtain ⟨i, hi', rfl⟩ := List.mem_map.1 hy
      exact (hF i (List.mem_range.1 hi')).2
    · obtain ⟨b, off, spot⟩ := x0
      have h00 : 0 < (S.f (f 0)).length := by rw [S.wid]; exact S.pos
      have hc := (hF 0 hp).1 0 _ (List.getElem?_eq_getElem h00)
      have hspot : spot = none := by simpa [Addr.add] using World.cell?_spot hc
      subst hspot
      refine ⟨b, off, rfl, ?_, fun i hi' j u hu => ?_⟩
      · have := World.block_lt_of_cell? W _ hc
        simpa [Addr.add] using this
      · rw [hget i hi'] at hu
        have h0 := (hF i hi').1 j u hu
        have h4 : (⟨b, off, none⟩ : Addr).add (i * S.K + j) = ⟨b, off + (i * S.K + j), none⟩ := by unfold Addr.add; split <;> simp_all
        rw [h4, ← Nat.add_assoc] at h0
        exact h0
/-- integers, as things of one cell -/
def IntS : Sty Int := ⟨fun z => [.int .i64 z], 1, 0, fun _ z => (Lit.int .i64 z).wf = true, by decide, fun _ => rfl, (fun x u hu => by rw [List.mem_singleton.1 hu]; rfl), fun _ h => h⟩
end Go.Proofs.YtbdgcfimbblncaaGreatDoor
end PkMB1_11
section PkMB1_12
/- Labels, plainly: names, sets, what is asked of them. No Go in sight. -/
namespace Go.Proofs.YtbdgcfimbblncaaGreatDoor.LabPlain
open Go
set_option linter.unusedVariables false

/-- a text's byte -/
def at_ (s : ByteArray) (i : Nat) : Nat := (s.data.toList.getD i 0).toNat
theorem at_get (s : ByteArray) (i : Nat) (h : i < s.size) : at_ s i = (s[i]'h).toNat := by
  unfold at_
  have h2 : i < s.data.toList.length := by simpa using h
  rw [List.getD_eq_getElem?_getD, List.getElem?_eq_getElem h2]
  rfl
theorem at_lt (s : ByteArray) (i : Nat) : at_ s i < 256 := UInt8.toNat_lt _
/-- is it a small letter; may it stand in a name? -/
def isL (c : Nat) : Bool := decide (97 ≤ c) && decide (c ≤ 122)
def okC (c : Nat) : Bool := isL c || decide (c = 95) || (decide (48 ≤ c) && decide (c ≤ 57))
/-- are the first k bytes such? -/
def allC (s : ByteArray) : Nat → Bool
  | 0 => true
  | k + 1 => allC s k && okC (at_ s k)
theorem allC_no {s : ByteArray} {k : Nat} (h : okC (at_ s k) = false) : ∀ d, allC s (k + 1 + d) = false
  | 0 => by simp [allC, h]
  | d + 1 => by rw [← Nat.add_assoc, allC, allC_no h d]; rfl
/-- a name -/
def isNm (s : ByteArray) : Bool := decide (1 ≤ s.size) && decide (s.size ≤ 8) && isL (at_ s 0) && allC s s.size

/-- one text ahead of another one -/
def ltB (a b : ByteArray) : Bool := Op.bytesLess a.toList b.toList
theorem bl_irrefl : ∀ a : List UInt8, Op.bytesLess a a = false
  | [] => rfl
  | a :: x => by simp [Op.bytesLess, bl_irrefl x]
theorem bl_trans : ∀ a b c : List UInt8, Op.bytesLess a b = true → Op.bytesLess b c = true → Op.bytesLess a c = true
  | a, b, [], _, h2 => by cases b <;> simp [Op.bytesLess] at h2
  | a, [], c :: z, h1, _ => by cases a <;> simp [Op.bytesLess] at h1
  | [], b :: y, c :: z, _, _ => rfl
  | a :: x, b :: y, c :: z, h1, h2 => by
    simp only [Op.bytesLess, Bool.or_eq_true, decide_eq_true_eq, Bool.and_eq_true, beq_iff_eq] at h1 h2 ⊢
    rcases h1 with h1 | ⟨h1, h1'⟩
    · rcases h2 with h2 | ⟨h2, _⟩
      · exact .inl (UInt8.lt_trans h1 h2)
      · subst h2; exact .inl h1
    · subst h1
      rcases h2 with h2 | ⟨h2, h2'⟩
      · exact .inl h2
      · subst h2
        exact .inr ⟨rfl, bl_trans x y z h1' h2'⟩
theorem bl_total : ∀ a b : List UInt8, a ≠ b → Op.bytesLess a b = false → Op.bytesLess b a = true
  | [], [], h, _ => absurd rfl h
  | [], b :: y, _, h => by simp [Op.bytesLess] at h
  | a :: x, [], _, _ => rfl
  | a :: x, b :: y, hne, h => by
    simp only [Op.bytesLess, Bool.or_eq_false_iff, decide_eq_false_iff_not, Bool.and_eq_false_imp, beq_iff_eq] at h
    simp only [Op.bytesLess, Bool.or_eq_true, decide_eq_true_eq, Bool.and_eq_true, beq_iff_eq]
    by_cases e : a = b
    · subst e
      exact .inr ⟨rfl, bl_total x y (fun e => hne (by rw [e])) (h.2 rfl)⟩
    · refine .inl ?_
      have h1 := h.1
      rw [UInt8.not_lt] at h1
      rcases UInt8.lt_or_eq_of_le h1 with g | g
      · exact g
      · exact absurd g.symm e
theorem leq_not (a b : ByteArray) : (Op.bytesLess a.toList b.toList || a.toList == b.toList) = !ltB b a := by
  unfold ltB
  cases h : Op.bytesLess b.toList a.toList with
  | true =>
    rw [Bool.not_true, Bool.or_eq_false_iff]
    refine ⟨?_, ?_⟩
    · cases h2 : Op.bytesLess a.toList b.toList with
      | false => rfl
      | true => have := bl_trans _ _ _ h2 h; rw [bl_irrefl] at this; cases this
    · rw [beq_eq_false_iff_ne]; intro e; rw [e, bl_irrefl] at h; cases h
  | false =>
    rw [Bool.not_false]
    by_cases e : a.toList = b.toList
    · rw [e]; simp
    · rw [bl_total _ _ (fun e2 => e e2.symm) h]; rfl
theorem ltB_irrefl (a : ByteArray) : ltB a a = false := bl_irrefl _
theorem ltB_trans {a b c : ByteArray} (h1 : ltB a b = true) (h2 : ltB b c = true) : ltB a c = true := bl_trans _ _ _ h1 h2
theorem toList_inj {a b : ByteArray} (h : a.toList = b.toList) : a = b := by
  rw [ByteArray.toList_eq, ByteArray.toList_eq] at h
  cases a; cases b
  simpa using h
theorem eq_toList (a b : ByteArray) : (a.toList == b.toList) = decide (a = b) := by
  rw [Bool.eq_iff_iff, beq_iff_eq, decide_eq_true_eq]
  exact ⟨toList_inj, fun h => by rw [h]⟩

/-- a label: a name and a value -/
abbrev Lab := ByteArray × ByteArray
def lab0 : Lab := (ByteArray.empty, ByteArray.empty)
/-- are the first k right, each behind the one ahead of it? -/
def upTo (l : List Lab) : Nat → Bool
  | 0 => true
  | k + 1 => upTo l k && (isNm (l.getD k lab0).1 && decide ((l.getD k lab0).2.size ≤ 16) && (decide (k = 0) || ltB (l.getD (k - 1) lab0).1 (l.getD k lab0).1))
/-- a label set -/
def isSet (l : List Lab) : Bool := decide (l.length ≤ 4) && upTo l l.length
theorem upTo_no {l : List Lab} {k : Nat} (h : (isNm (l.getD k lab0).1 && decide ((l.getD k lab0).2.size ≤ 16) && (decide (k = 0) || ltB (l.getD (k - 1) lab0).1 (l.getD k lab0).1)) = false) : ∀ d, upTo l (k + 1 + d) = false
  | 0 => by rw [upTo, h, Bool.and_false]
  | d + 1 => by rw [← Nat.add_assoc, upTo, upTo_no h d]; rfl
theorem upTo_le {l : List Lab} {k : Nat} (h : upTo l k = true) {j : Nat} (hj : j < k) : isNm (l.getD j lab0).1 = true ∧ (l.getD j lab0).2.size ≤ 16 ∧ (j = 0 ∨ ltB (l.getD (j - 1) lab0).1 (l.getD j lab0).1 = true) := by
  obtain ⟨d, rfl⟩ : ∃ d, k = j + 1 + d := ⟨k - (j + 1), by omega⟩
  cases hc : (isNm (l.getD j lab0).1 && decide ((l.getD j lab0).2.size ≤ 16) && (decide (j = 0) || ltB (l.getD (j - 1) lab0).1 (l.getD j lab0).1)) with
  | false => rw [upTo_no hc d] at h; cases h
  | true => simpa [Bool.and_assoc] using hc
/-- names rise all along -/
theorem upTo_lt {l : List Lab} {k : Nat} (h : upTo l k = true) : ∀ d i, i + 1 + d < k → ltB (l.getD i lab0).1 (l.getD (i + 1 + d) lab0).1 = true
  | 0, i, hi => by
    rcases (upTo_le h (j := i + 1) (by omega)).2.2 with g | g
    · omega
    · exact g
  | d + 1, i, hi => by
    rcases (upTo_le h (j := i + 1 + (d + 1)) (by omega)).2.2 with g | g
    · omega
    · exact ltB_trans (upTo_lt h d i (by omega)) g
end Go.Proofs.YtbdgcfimbblncaaGreatDoor.LabPlain
end PkMB1_12
section PkMB1_13
/- Manifests: entries, marks and owners where they lie; small functions, walked. Written by genmfa.py. -/
namespace Go.Proofs.YtbdgcfimbblncaaGreatDoor
open Go.RowKit LabPlain
set_option linter.unusedVariables false

structure EntV where
  key : ByteArray
  win : Int
  part : ByteArray
  fst : Int
  lst : Int
  rows : Int
  size : Int
  sum : Int
  born : Int
def ent0 : EntV := ⟨ByteArray.empty, 0, ByteArray.empty, 0, 0, 0, 0, 0, 0⟩
def EntV.cells (x : EntV) : List Value := [.string x.key, .int .i64 x.win, .string x.part, .int .i64 x.fst, .int .i64 x.lst, .int .i64 x.rows, .int .i64 x.size, .int .u32 x.sum, .int .i64 x.born]
def EntS : Sty EntV := ⟨EntV.cells, 9, ent0, fun _ x => x.key.size ≤ 140737488355328 ∧ x.part.size ≤ 140737488355328 ∧ (0 ≤ x.sum ∧ x.sum ≤ 4294967295), by decide, fun _ => rfl, (fun x u hu => by simp [EntV.cells] at hu; rcases hu with rfl | rfl | rfl | rfl | rfl | rfl | rfl | rfl | rfl <;> rfl), fun _ h => h⟩
def MarkS : Sty (Int × Int) := ⟨fun x => [.int .i64 x.1, .int .i64 x.2], 2, (0, 0), fun _ _ => True, by decide, fun _ => rfl, (fun x u hu => by simp at hu; rcases hu with rfl | rfl <;> rfl), fun _ h => h⟩
def OwnS : Sty (Int × Int × Int) := ⟨fun x => [.int .i64 x.1, .int .i64 x.2.1, .int .i64 x.2.2], 3, (0, 0, 0), fun _ _ => True, by decide, fun _ => rfl, (fun x u hu => by simp at hu; rcases hu with rfl | rfl | rfl <;> rfl), fun _ h => h⟩

theorem within_yes {n a b : Int} (h1 : a ≤ n) (h2 : n ≤ b) (w : World) : Calls Tryz.prog 34 #[.int .i64 n, .int .i64 a, .int .i64 b] w fun e w' => e = .returned (.bool true) ∧ w' = w := by
  go_enter Tryz.func34, Tryz.ntmps34
  go_wp2_with fail
  go_ret
  exact ⟨rfl, rfl⟩
set_option maxRecDepth 100000 in
theorem rightMark_yes {a b : Int} (h1 : 1 ≤ a ∧ a ≤ 64) (h2 : 1 ≤ b ∧ b ≤ 1099511627775) (w : World) : Calls Tryz.prog 41 #[.agg #[.int .i64 a, .int .i64 b]] w fun e w' => e = .returned (.bool true) ∧ Below w.heap.size w w' := by
  have HB := Lib.hid ((Below.refl w.heap.size w).alloc (Nat.le_refl _) (.cells #[.int .i64 a, .int .i64 b] 43))
  have HW1 := Lib.hid (within_yes h1.1 h1.2 (w.alloc (.cells #[.int .i64 a, .int .i64 b] 43)))
  have HW2 := Lib.hid (within_yes h2.1 h2.2 (w.alloc (.cells #[.int .i64 a, .int .i64 b] 43)))
  clear h1 h2
  go_enter Tryz.func41, Tryz.ntmps41
  go_wp2_with fail
  refine HW1.out.mono ?_
  rintro e w1 ⟨rfl, rfl⟩
  go_wp2_with fail
  refine HW2.out.mono ?_
  rintro e w1 ⟨rfl, rfl⟩
  go_wp2_with fail
  go_ret
  exact ⟨rfl, HB.out⟩
set_option maxRecDepth 100000 in
theorem rightOwner_yes {a b c : Int} (h1 : 1 ≤ a ∧ a ≤ 8) (h2 : 1 ≤ b ∧ b ≤ 1099511627775) (h3 : 1 ≤ c ∧ c ≤ 1099511627775) (w : World) : Calls Tryz.prog 44 #[.agg #[.int .i64 a, .int .i64 b, .int .i64 c]] w fun e w' => e = .returned (.bool true) ∧ Below w.heap.size w w' := by
  have HB := Lib.hid ((Below.refl w.heap.size w).alloc (Nat.le_refl _) (.cells #[.int .i64 a, .int .i64 b, .int .i64 c] 45))
  have HW1 := Lib.hid (within_yes h1.1 h1.2 (w.alloc (.cells #[.int .i64 a, .int .i64 b, .int .i64 c] 45)))
  have HW2 := Lib.hid (within_yes h2.1 h2.2 (w.alloc (.cells #[.int .i64 a, .int .i64 b, .int .i64 c] 45)))
  have HW3 := Lib.hid (within_yes h3.1 h3.2 (w.alloc (.cells #[.int .i64 a, .int .i64 b, .int .i64 c] 45)))
  clear h1 h2 h3
  go_enter Tryz.func44, Tryz.ntmps44
  go_wp2_with fail
  refine HW1.out.mono ?_
  rintro e w1 ⟨rfl, rfl⟩
  go_wp2_with fail
  refine HW2.out.mono ?_
  rintro e w1 ⟨rfl, rfl⟩
  go_wp2_with fail
  refine HW3.out.mono ?_
  rintro e w1 ⟨rfl, rfl⟩
  go_wp2_with fail
  go_ret
  exact ⟨rfl, HB.out⟩

set_option maxRecDepth 100000 in
theorem rising_nilE (a : Option Addr) (c : Nat) (cf rf : Value) (w : World) : Calls Tryz.prog 37 #[.slice a 0 c, cf, rf] w fun e w' => e = .returned (.bool true) ∧ w' = w := by
  go_enter Tryz.func37, Tryz.ntmps37
  go_wp2_with fail
  refine wp_loop_rounds 1 ?_
  rw [rounds_succ]
  go_wp2_with fail
  go_ret
  exact ⟨rfl, rfl⟩

set_option maxRecDepth 100000 in
theorem rising_nilM (a : Option Addr) (c : Nat) (cf rf : Value) (w : World) : Calls Tryz.prog 39 #[.slice a 0 c, cf, rf] w fun e w' => e = .returned (.bool true) ∧ w' = w := by
  go_enter Tryz.func39, Tryz.ntmps39
  go_wp2_with fail
  refine wp_loop_rounds 1 ?_
  rw [rounds_succ]
  go_wp2_with fail
  go_ret
  exact ⟨rfl, rfl⟩

set_option maxRecDepth 100000 in
theorem rising_nilO (a : Option Addr) (c : Nat) (cf rf : Value) (w : World) : Calls Tryz.prog 42 #[.slice a 0 c, cf, rf] w fun e w' => e = .returned (.bool true) ∧ w' = w := by
  go_enter Tryz.func42, Tryz.ntmps42
  go_wp2_with fail
  refine wp_loop_rounds 1 ?_
  rw [rounds_succ]
  go_wp2_with fail
  go_ret
  exact ⟨rfl, rfl⟩

set_option maxRecDepth 100000 in
theorem rising_nilS (a : Option Addr) (c : Nat) (cf rf : Value) (w : World) : Calls Tryz.prog 98 #[.slice a 0 c, cf, rf] w fun e w' => e = .returned (.bool true) ∧ w' = w := by
  go_enter Tryz.func98, Tryz.ntmps98
  go_wp2_with fail
  refine wp_loop_rounds 1 ?_
  rw [rounds_succ]
  go_wp2_with fail
  go_ret
  exact ⟨rfl, rfl⟩

end Go.Proofs.YtbdgcfimbblncaaGreatDoor
end PkMB1_13
section PkMB1_14
/- Manifests: a mark, an entry looked up, walked. Written by genmfb.py. -/
namespace Go.Proofs.YtbdgcfimbblncaaGreatDoor
open Go.RowKit LabPlain
set_option linter.unusedVariables false

def cmp3 (x y : Int) : Int := if x < y then -1 else if y < x then 1 else 0
def cmpS (x y : ByteArray) : Int := if ltB x y = true then -1 else if ltB y x = true then 1 else 0
theorem cmp3_0 {x y : Int} : cmp3 x y = 0 ↔ x = y := by
  unfold cmp3
  by_cases h1 : x < y
  · simp [h1]; omega
  · by_cases h2 : y < x
    · simp [h1, h2]; omega
    · simp [h1, h2]; omega
theorem txt_ne {x y : ByteArray} (h : x ≠ y) : (x.toList == y.toList) = false := by
  rw [beq_eq_false_iff_ne]
  exact fun e => h (ByteArray.ext (Array.toList_inj.1 (by rw [← ByteArray.toList_eq, ← ByteArray.toList_eq]; exact e)))
theorem ltB_total' {x y : ByteArray} (h : ltB x y = false) (h2 : ltB y x = false) : x = y := by
  have h1 := leq_not y x
  rw [h] at h1
  simp only [Bool.not_false, Bool.or_eq_true, beq_iff_eq] at h1
  rcases h1 with g | g
  · have : ltB y x = true := g
    rw [h2] at this; cases this
  · exact (ByteArray.ext (Array.toList_inj.1 (by rw [← ByteArray.toList_eq, ← ByteArray.toList_eq]; exact g))).symm
theorem nan_any (x : Int) (w : World) : Calls Tryz.prog 117 #[.int .i64 x] w fun e w' => e = .returned (.bool false) ∧ w' = w := by
  have z : (x != x) = false := by simp
  go_enter Tryz.func117, Tryz.ntmps117
  go_wp2_with fail
  go_ret
  exact ⟨rfl, rfl⟩
theorem nanS_any (x : ByteArray) (w : World) : Calls Tryz.prog 116 #[.string x] w fun e w' => e = .returned (.bool false) ∧ w' = w := by
  have z : (x.toList == x.toList) = true := by simp
  go_enter Tryz.func116, Tryz.ntmps116
  go_wp2_with fail
  go_ret
  exact ⟨rfl, rfl⟩

theorem cmpI_any (x y : Int) (w : World) : Calls Tryz.prog 85 #[.int .i64 x, .int .i64 y] w fun e w' => e = .returned (.int .i64 (cmp3 x y)) ∧ w' = w := by
  rcases Int.lt_trichotomy x y with h | h | h
  · have hh : ¬ y < x := by omega
    go_enter Tryz.func85, Tryz.ntmps85
    go_wp2_with fail
    refine (nan_any x w).mono ?_
    rintro e w2 ⟨rfl, rfl⟩
    go_wp2_with fail
    refine (nan_any y w2).mono ?_
    rintro e w3 ⟨rfl, rfl⟩
    go_wp2_with fail
    go_ret
    exact ⟨by simp [cmp3, h], rfl⟩
  · subst h
    go_enter Tryz.func85, Tryz.ntmps85
    go_wp2_with fail
    refine (nan_any x w).mono ?_
    rintro e w2 ⟨rfl, rfl⟩
    go_wp2_with fail
    refine (nan_any x w2).mono ?_
    rintro e w3 ⟨rfl, rfl⟩
    go_wp2_with fail
    go_ret
    exact ⟨by simp [cmp3], rfl⟩
  · have hh : ¬ x < y := by omega
    go_enter Tryz.func85, Tryz.ntmps85
    go_wp2_with fail
    refine (nan_any x w).mono ?_
    rintro e w2 ⟨rfl, rfl⟩
    go_wp2_with fail
    refine (nan_any y w2).mono ?_
    rintro e w3 ⟨rfl, rfl⟩
    go_wp2_with fail
    go_ret
    exact ⟨by simp [cmp3, h, hh], rfl⟩
theorem cmpS_any (x y : ByteArray) (w : World) : Calls Tryz.prog 84 #[.string x, .string y] w fun e w' => e = .returned (.int .i64 (cmpS x y)) ∧ w' = w := by
  cases h1 : ltB x y with
  | true =>
    have b1 : Op.bytesLess x.toList y.toList = true := h1
    have HE := Lib.hid h1
    clear h1
    go_enter Tryz.func84, Tryz.ntmps84
    go_wp2_with fail
    refine (nanS_any x w).mono ?_
    rintro e w2 ⟨rfl, rfl⟩
    go_wp2_with fail
    refine (nanS_any y w2).mono ?_
    rintro e w3 ⟨rfl, rfl⟩
    go_wp2_with fail
    go_ret
    exact ⟨by unfold cmpS; rw [if_pos HE.out]; rfl, rfl⟩
  | false =>
    have b1 : Op.bytesLess x.toList y.toList = false := h1
    have HE := Lib.hid h1
    clear h1
    cases h2 : ltB y x with
    | true =>
      have b2 : Op.bytesLess y.toList x.toList = true := h2
      have heq : (x.toList == y.toList) = false := txt_ne (fun e => by rw [e, ltB_irrefl] at h2; cases h2)
      have HE2 := Lib.hid h2
      clear h2
      go_enter Tryz.func84, Tryz.ntmps84
      go_wp2_with fail
      refine (nanS_any x w).mono ?_
      rintro e w2 ⟨rfl, rfl⟩
      go_wp2_with fail
      refine (nanS_any y w2).mono ?_
      rintro e w3 ⟨rfl, rfl⟩
      go_wp2_with fail
      go_ret
      exact ⟨by unfold cmpS; rw [if_neg (by rw [HE.out]; simp), if_pos HE2.out]; rfl, rfl⟩
    | false =>
      have b2 : Op.bytesLess y.toList x.toList = false := h2
      have heq : (x.toList == y.toList) = true := by rw [ltB_total' HE.out h2]; simp
      have HE2 := Lib.hid h2
      clear h2
      go_enter Tryz.func84, Tryz.ntmps84
      go_wp2_with fail
      refine (nanS_any x w).mono ?_
      rintro e w2 ⟨rfl, rfl⟩
      go_wp2_with fail
      refine (nanS_any y w2).mono ?_
      rintro e w3 ⟨rfl, rfl⟩
      go_wp2_with fail
      go_ret
      exact ⟨by unfold cmpS; rw [if_neg (by rw [HE.out]; simp), if_neg (by rw [HE2.out]; simp)]; rfl, rfl⟩
theorem cmpS_0 {x y : ByteArray} : cmpS x y = 0 ↔ x = y := by
  unfold cmpS
  constructor
  · intro h
    split at h
    · cases h
    · split at h
      · cases h
      · rename_i h1 h2
        exact ltB_total' (by simpa using h1) (by simpa using h2)
  · intro h
    rw [h, ltB_irrefl]; rfl
theorem find_at {α : Type} (p : α → Bool) (d : α) : ∀ (l : List α) (k : Nat), k < l.length → (∀ j, j < k → p (l.getD j d) = false) → p (l.getD k d) = true → l.find? p = some (l.getD k d)
  | x :: l, 0, _, _, h => by
    have h' : p x = true := h
    rw [List.find?_cons, h']; rfl
  | x :: l, k + 1, hk, h1, h => by
    have hx : p x = false := h1 0 (by omega)
    rw [List.find?_cons, hx]
    exact find_at p d l k (by simpa using hk) (fun j hj => h1 (j + 1) (by omega)) h
theorem find_no {α : Type} (p : α → Bool) (d : α) : ∀ (l : List α), (∀ j, j < l.length → p (l.getD j d) = false) → l.find? p = none
  | [], _ => rfl
  | x :: l, h => by
    have hx : p x = false := h 0 (by simp)
    rw [List.find?_cons, hx]
    exact find_no p d l (fun j hj => h (j + 1) (by simpa using hj))
theorem hao9 (w : World) (o : Obj) (i : Nat) (h : i < w.heap.size) : (w.alloc o).heap[i]? = w.heap[i]? := by
  show (w.heap.push o)[i]? = _
  rw [Array.getElem?_push]
  simp [Nat.ne_of_lt h]
theorem heap_set {w : World} {B : Nat} {cur : Array Value} {t : TypeId} (g : w.heap[B]? = some (.cells cur t (0, 0))) (i : Nat) (u : Value) : (w.setCell ⟨B, i, none⟩ u).heap[B]? = some (.cells (cur.setIfInBounds i u) t (0, 0)) := heap_setCell_same w B i cur t u g
theorem cell_blk {w : World} {B : Nat} {cur : Array Value} {t : TypeId} (g : w.heap[B]? = some (.cells cur t (0, 0))) {i : Nat} {u : Value} (h : cur[i]? = some u) : w.cell? ⟨B, i, none⟩ = some u := by rw [cell_of_row w _ _ _ _ (0, 0) g]; exact h
theorem fro_blk {w : World} {B : Nat} {cur : Array Value} {t : TypeId} (g : w.heap[B]? = some (.cells cur t (0, 0))) (i : Nat) : w.frozen? ⟨B, i, none⟩ = false := by simp [World.frozen?, g]
theorem ret_cell_tmp {P : Program} {fn : Func} {p u : Tmp} {ty : TypeId} (h : fn.results = #[.cell p ty, .tmp u]) (tmps : Array Value) (w : World) (g : Nat) (t : TypeId) (cs : Array Value) (fr : Nat × Nat) (d : TypeDesc)
    (hp : tmps.getD p undef = .pointer (some ⟨g, 0, none⟩)) (hg : w.heap[g]? = some (.cells cs t fr))
    (hu : P.underlying ty = some d) (hd : (match d with | .struct _ | .array _ _ => true | _ => false) = true) (hi : (P.info? ty).map (·.size) = some cs.size) :
    (results fn tmps).run P w = .ok (.tuple #[.agg cs, tmps.getD u undef]) w := by
  rw [results_cell_tmp h]
  have hp' : tmps[p]?.getD undef = .pointer (some ⟨g, 0, none⟩) := by simpa using hp
  simp [hp', asAddr, run_loadVar_row w g t ty cs fr d hg hu hd hi, Result.andThen]

theorem setM {v : World} {R : Nat} {c0 c1 : Value} {t : TypeId} (g : v.heap[R]? = some (.cells #[c0, c1] t (0, 0))) (x0 : Int) (x1 : Int) : ((v.setCell ⟨R, 0, none⟩ (.int .i64 x0)).setCell ⟨R, 1, none⟩ (.int .i64 x1)).heap[R]? = some (.cells #[.int .i64 x0, .int .i64 x1] t (0, 0)) := by
  have h := heap_set (heap_set (g) 0 (.int .i64 x0)) 1 (.int .i64 x1)
  simp only [List.setIfInBounds_toArray, List.set_cons_zero, List.set_cons_succ] at h
  exact h
theorem belowM {B R : Nat} {w v : World} (h : Below B w v) (hR : B ≤ R) (x0 : Int) (x1 : Int) : Below B w ((v.setCell ⟨R, 0, none⟩ (.int .i64 x0)).setCell ⟨R, 1, none⟩ (.int .i64 x1)) :=
  ((((h).setCell (p := ⟨R, 0, none⟩) hR (.int .i64 x0))).setCell (p := ⟨R, 1, none⟩) hR (.int .i64 x1))

theorem setO {v : World} {R : Nat} {c0 c1 c2 : Value} {t : TypeId} (g : v.heap[R]? = some (.cells #[c0, c1, c2] t (0, 0))) (x0 : Int) (x1 : Int) (x2 : Int) : (((v.setCell ⟨R, 0, none⟩ (.int .i64 x0)).setCell ⟨R, 1, none⟩ (.int .i64 x1)).setCell ⟨R, 2, none⟩ (.int .i64 x2)).heap[R]? = some (.cells #[.int .i64 x0, .int .i64 x1, .int .i64 x2] t (0, 0)) := by
  have h := heap_set (heap_set (heap_set (g) 0 (.int .i64 x0)) 1 (.int .i64 x1)) 2 (.int .i64 x2)
  simp only [List.setIfInBounds_toArray, List.set_cons_zero, List.set_cons_succ] at h
  exact h
theorem belowO {B R : Nat} {w v : World} (h : Below B w v) (hR : B ≤ R) (x0 : Int) (x1 : Int) (x2 : Int) : Below B w (((v.setCell ⟨R, 0, none⟩ (.int .i64 x0)).setCell ⟨R, 1, none⟩ (.int .i64 x1)).setCell ⟨R, 2, none⟩ (.int .i64 x2)) :=
  ((((((h).setCell (p := ⟨R, 0, none⟩) hR (.int .i64 x0))).setCell (p := ⟨R, 1, none⟩) hR (.int .i64 x1))).setCell (p := ⟨R, 2, none⟩) hR (.int .i64 x2))

theorem setE {v : World} {R : Nat} {c0 c1 c2 c3 c4 c5 c6 c7 c8 : Value} {t : TypeId} (g : v.heap[R]? = some (.cells #[c0, c1, c2, c3, c4, c5, c6, c7, c8] t (0, 0))) (x0 : ByteArray) (x1 : Int) (x2 : ByteArray) (x3 : Int) (x4 : Int) (x5 : Int) (x6 : Int) (x7 : Int) (x8 : Int) : (((((((((v.setCell ⟨R, 0, none⟩ (.string x0)).setCell ⟨R, 1, none⟩ (.int .i64 x1)).setCell ⟨R, 2, none⟩ (.string x2)).setCell ⟨R, 3, none⟩ (.int .i64 x3)).setCell ⟨R, 4, none⟩ (.int .i64 x4)).setCell ⟨R, 5, none⟩ (.int .i64 x5)).setCell ⟨R, 6, none⟩ (.int .i64 x6)).setCell ⟨R, 7, none⟩ (.int .u32 x7)).setCell ⟨R, 8, none⟩ (.int .i64 x8)).heap[R]? = some (.cells #[.string x0, .int .i64 x1, .string x2, .int .i64 x3, .int .i64 x4, .int .i64 x5, .int .i64 x6, .int .u32 x7, .int .i64 x8] t (0, 0)) := by
  have h := heap_set (heap_set (heap_set (heap_set (heap_set (heap_set (heap_set (heap_set (heap_set (g) 0 (.string x0)) 1 (.int .i64 x1)) 2 (.string x2)) 3 (.int .i64 x3)) 4 (.int .i64 x4)) 5 (.int .i64 x5)) 6 (.int .i64 x6)) 7 (.int .u32 x7)) 8 (.int .i64 x8)
  simp only [List.setIfInBounds_toArray, List.set_cons_zero, List.set_cons_succ] at h
  exact h
theorem belowE {B R : Nat} {w v : World} (h : Below B w v) (hR : B ≤ R) (x0 : ByteArray) (x1 : Int) (x2 : ByteArray) (x3 : Int) (x4 : Int) (x5 : Int) (x6 : Int) (x7 : Int) (x8 : Int) : Below B w (((((((((v.setCell ⟨R, 0, none⟩ (.string x0)).setCell ⟨R, 1, none⟩ (.int .i64 x1)).setCell ⟨R, 2, none⟩ (.string x2)).setCell ⟨R, 3, none⟩ (.int .i64 x3)).setCell ⟨R, 4, none⟩ (.int .i64 x4)).setCell ⟨R, 5, none⟩ (.int .i64 x5)).setCell ⟨R, 6, none⟩ (.int .i64 x6)).setCell ⟨R, 7, none⟩ (.int .u32 x7)).setCell ⟨R, 8, none⟩ (.int .i64 x8)) :=
  ((((((((((((((((((h).setCell (p := ⟨R, 0, none⟩) hR (.string x0))).setCell (p := ⟨R, 1, none⟩) hR (.int .i64 x1))).setCell (p := ⟨R, 2, none⟩) hR (.string x2))).setCell (p := ⟨R, 3, none⟩) hR (.int .i64 x3))).setCell (p := ⟨R, 4, none⟩) hR (.int .i64 x4))).setCell (p := ⟨R, 5, none⟩) hR (.int .i64 x5))).setCell (p := ⟨R, 6, none⟩) hR (.int .i64 x6))).setCell (p := ⟨R, 7, none⟩) hR (.int .u32 x7))).setCell (p := ⟨R, 8, none⟩) hR (.int .i64 x8))

set_option maxRecDepth 100000 in
theorem byM_any (x0 y0 : Int) (x1 y1 : Int) (w : World) : Calls Tryz.prog 40 #[.agg #[.int .i64 x0, .int .i64 x1], .agg #[.int .i64 y0, .int .i64 y1]] w fun e w' => e = .returned (.int .i64 (cmp3 x0 y0)) ∧ Below w.heap.size w w' := by
  have HB := Lib.hid (((Below.refl w.heap.size w).alloc (Nat.le_refl _) (.cells #[.int .i64 x0, .int .i64 x1] 43)).alloc ((Below.refl w.heap.size w).alloc (Nat.le_refl _) (.cells #[.int .i64 x0, .int .i64 x1] 43)).size (.cells #[.int .i64 y0, .int .i64 y1] 43))
  go_enter Tryz.func40, Tryz.ntmps40
  go_wp2_with fail
  refine (cmpI_any x0 y0 _).mono ?_
  rintro e w2 ⟨rfl, rfl⟩
  go_wp2_with fail
  go_ret
  exact ⟨rfl, HB.out⟩

set_option maxRecDepth 100000 in
theorem byO_any (x0 y0 : Int) (x1 y1 : Int) (x2 y2 : Int) (w : World) : Calls Tryz.prog 43 #[.agg #[.int .i64 x0, .int .i64 x1, .int .i64 x2], .agg #[.int .i64 y0, .int .i64 y1, .int .i64 y2]] w fun e w' => e = .returned (.int .i64 (cmp3 x0 y0)) ∧ Below w.heap.size w w' := by
  have HB := Lib.hid (((Below.refl w.heap.size w).alloc (Nat.le_refl _) (.cells #[.int .i64 x0, .int .i64 x1, .int .i64 x2] 45)).alloc ((Below.refl w.heap.size w).alloc (Nat.le_refl _) (.cells #[.int .i64 x0, .int .i64 x1, .int .i64 x2] 45)).size (.cells #[.int .i64 y0, .int .i64 y1, .int .i64 y2] 45))
  go_enter Tryz.func43, Tryz.ntmps43
  go_wp2_with fail
  refine (cmpI_any x0 y0 _).mono ?_
  rintro e w2 ⟨rfl, rfl⟩
  go_wp2_with fail
  go_ret
  exact ⟨rfl, HB.out⟩

set_option maxRecDepth 100000 in
theorem byE_any (x0 y0 : ByteArray) (x1 y1 : Int) (x2 y2 : ByteArray) (x3 y3 : Int) (x4 y4 : Int) (x5 y5 : Int) (x6 y6 : Int) (x7 y7 : Int) (x8 y8 : Int) (w : World) : Calls Tryz.prog 38 #[.agg #[.string x0, .int .i64 x1, .string x2, .int .i64 x3, .int .i64 x4, .int .i64 x5, .int .i64 x6, .int .u32 x7, .int .i64 x8], .agg #[.string y0, .int .i64 y1, .string y2, .int .i64 y3, .int .i64 y4, .int .i64 y5, .int .i64 y6, .int .u32 y7, .int .i64 y8]] w fun e w' => e = .returned (.int .i64 (cmpS x0 y0)) ∧ Below w.heap.size w w' := by
  have HB := Lib.hid (((Below.refl w.heap.size w).alloc (Nat.le_refl _) (.cells #[.string x0, .int .i64 x1, .string x2, .int .i64 x3, .int .i64 x4, .int .i64 x5, .int .i64 x6, .int .u32 x7, .int .i64 x8] 53)).alloc ((Below.refl w.heap.size w).alloc (Nat.le_refl _) (.cells #[.string x0, .int .i64 x1, .string x2, .int .i64 x3, .int .i64 x4, .int .i64 x5, .int .i64 x6, .int .u32 x7, .int .i64 x8] 53)).size (.cells #[.string y0, .int .i64 y1, .string y2, .int .i64 y3, .int .i64 y4, .int .i64 y5, .int .i64 y6, .int .u32 y7, .int .i64 y8] 53))
  go_enter Tryz.func38, Tryz.ntmps38
  go_wp2_with fail
  refine (cmpS_any x0 y0 _).mono ?_
  rintro e w2 ⟨rfl, rfl⟩
  go_wp2_with fail
  go_ret
  exact ⟨rfl, HB.out⟩

/-- what look answers -/
def LkM (l : List (Int × Int)) (y0 : Int) (e : Ending) : Prop := e = .returned (.tuple #[.agg (MarkS.f ((l.find? fun x => decide (x.1 = y0)).getD MarkS.z)).toArray, .bool (l.find? fun x => decide (x.1 = y0)).isSome])
set_option maxRecDepth 100000 in
set_option maxHeartbeats 4000000 in
theorem lookM_any {w : World} {a : Option Addr} {n c : Nat} {l : List (Int × Int)} (h : VecAt MarkS w a n c l) (y0 : Int) (y1 : Int) :
    Calls Tryz.prog 74 #[.slice a n c, .agg #[.int .i64 y0, .int .i64 y1], .func (.func 40) #[] #[]] w fun e w' => LkM l y0 e ∧ Below w.heap.size w w' := by
  have hcap := h.cap
  have hcm := h.capm
  have HH := Lib.hid h
  have HL := Lib.hid h.len
  obtain ⟨wa, hwa⟩ : ∃ wa, wa = w.alloc (.cells #[.int .i64 y0, .int .i64 y1] 43) := ⟨_, rfl⟩
  obtain ⟨wb, hwb⟩ : ∃ wb, wb = wa.alloc (.cells #[.int .i64 0, .int .i64 0] 43) := ⟨_, rfl⟩
  have sa : wa.heap.size = w.heap.size + 1 := by rw [hwa]; exact Array.size_push _
  have sb : wb.heap.size = w.heap.size + 2 := by rw [hwb]; show (wa.heap.push _).size = _; rw [Array.size_push, sa]
  have ba : Below w.heap.size w wa := by rw [hwa]; exact (Below.refl _ _).alloc (Nat.le_refl _) _
  have bb : Below w.heap.size w wb := by rw [hwb]; exact ba.alloc ba.size _
  have gb : wb.heap[w.heap.size + 1]? = some (.cells #[.int .i64 0, .int .i64 0] 43 (0, 0)) := by rw [hwb, ← sa]; exact heap_alloc_new _ _
  have ga : wb.heap[w.heap.size]? = some (.cells #[.int .i64 y0, .int .i64 y1] 43 (0, 0)) := by rw [hwb, hao9 _ _ _ (by omega), hwa]; exact heap_alloc_new _ _
  have HBB := Lib.hid bb
  have HGB := Lib.hid gb
  have HC4 := Lib.hid (show ∀ i u, (#[.int .i64 y0, .int .i64 y1] : Array Value)[i]? = some u → wb.cell? ⟨w.heap.size, i, none⟩ = some u from fun i u hu => cell_blk ga hu)
  have HL4 := Lib.hid (show w.heap.size < wb.heap.size by omega)
  have HSB := Lib.hid sb
  have HWB := Lib.hid (show wb = (w.alloc (.cells #[.int .i64 y0, .int .i64 y1] 43)).alloc (.cells #[.int .i64 0, .int .i64 0] 43) by rw [hwb, hwa])
  clear h hwa hwb sa sb ba bb gb ga
  go_enter Tryz.func74, Tryz.ntmps74
  go_wp2_with fail
  rw [← HWB.out]
  go_loopw [9, 13] (fun s9 s13 wr => ∃ k : Nat, k ≤ n ∧ s13 = .int .i64 (k : Int) ∧ Hid (∀ j, j < k → (fun x => decide (x.1 = y0)) (l.getD j MarkS.z) = false) ∧ Hid (Below wb.heap.size wb wr)) (fun _ s13 _ => n - (intOf s13).toNat)
  case atStart => exact ⟨0, by omega, rfl, Lib.hid (fun j hj => by omega), Lib.hid (Below.refl _ _)⟩
  case round =>
    obtain ⟨k, hk, rfl, HN, HB⟩ := hrel
    rename World => wr
    have hl4 : w.heap.size < wr.heap.size := Nat.lt_of_lt_of_le HL4.out HB.out.size
    have q0 : wr.cell? ⟨w.heap.size, 0, none⟩ = some (.int .i64 y0) := (HB.out.cell (p := ⟨w.heap.size, 0, none⟩) HL4.out).trans (HC4.out 0 _ rfl)
    have q1 : wr.cell? ⟨w.heap.size, 1, none⟩ = some (.int .i64 y1) := (HB.out.cell (p := ⟨w.heap.size, 1, none⟩) HL4.out).trans (HC4.out 1 _ rfl)
    by_cases hkn : k < n
    · have hki : (k : Int) < (n : Int) := by omega
      obtain ⟨sb, so, rfl, hsl, _, hsc9⟩ := (HH.out.kept (HBB.out.trans (HB.out.mono HBB.out.size))).get hkn
      obtain ⟨s, hse⟩ : ∃ s, s = l.getD k MarkS.z := ⟨_, rfl⟩
      rw [← hse] at hsc9
      have HSE := Lib.hid hse
      obtain ⟨x0, x1⟩ := s
      have d0 : wr.cell? ⟨sb, so + k * 2, none⟩ = some (.int .i64 x0) := hsc9 0 _ rfl
      have d1 : wr.cell? ⟨sb, so + k * 2 + 1, none⟩ = some (.int .i64 x1) := hsc9 1 _ rfl
      have HAL := Lib.hid (show Below wb.heap.size wb (wr.alloc (.cells #[.int .i64 x0, .int .i64 x1] 43)) from HB.out.alloc HB.out.size _)
      have HXA := Lib.hid (heap_alloc_new wr (.cells #[.int .i64 x0, .int .i64 x1] 43))
      have HCM := Lib.hid (byM_any x0 y0 x1 y1 (wr.alloc (.cells #[.int .i64 x0, .int .i64 x1] 43)))
      clear hsc9 hse hsl
      go_wp2_with fail
      refine HCM.out.mono ?_
      rintro e w3 ⟨rfl, hb3⟩
      have HB3 := Lib.hid (HAL.out.trans (hb3.mono HAL.out.size))
      have HX3 := Lib.hid ((hb3.block wr.heap.size (by have := (Array.getElem?_eq_some_iff.1 HXA.out).1; exact this)).trans HXA.out)
      clear hb3
      by_cases hxy : x0 = y0
      · have hz : cmp3 x0 y0 = 0 := cmp3_0.2 hxy
        have HR3 := Lib.hid ((HB3.out.block (w.heap.size + 1) (by have := HSB.out; omega)).trans HGB.out)
        have HF := Lib.hid (show l.find? (fun x => decide (x.1 = y0)) = some ⟨x0, x1⟩ from by
          rw [HSE.out]
          exact find_at _ MarkS.z l k (by rw [HL.out]; exact hkn) HN.out (by rw [← HSE.out]; exact decide_eq_true hxy))
        have e0 : w3.cell? ⟨wr.heap.size, 0, none⟩ = some (.int .i64 x0) := cell_blk HX3.out rfl
        have e1 : w3.cell? ⟨wr.heap.size, 1, none⟩ = some (.int .i64 x1) := cell_blk HX3.out rfl
        have r0 : w3.cell? ⟨w.heap.size + 1, 0, none⟩ = some (.int .i64 0) := cell_blk HR3.out rfl
        have r1 : w3.cell? ⟨w.heap.size + 1, 1, none⟩ = some (.int .i64 0) := cell_blk HR3.out rfl
        have f0 : w3.frozen? ⟨w.heap.size + 1, 0, none⟩ = false := fro_blk HR3.out 0
        have f1 : w3.frozen? ⟨w.heap.size + 1, 1, none⟩ = false := fro_blk HR3.out 1
        clear hxy
        go_wp2_with fail
        refine bodyPost_ret (ret_cell_tmp rfl _ _ (w.heap.size + 1) 43 #[.int .i64 x0, .int .i64 x1] _ _ rfl (setM HR3.out x0 x1) Tryz.underlying43 rfl (by kernel_rfl)) rfl ?_
        refine ⟨?_, HBB.out.trans (belowM (HB3.out.mono HBB.out.size) (by omega) x0 x1)⟩
        unfold LkM
        rw [HF.out]
        rfl
      · have hz : ((cmp3 x0 y0) == 0) = false := by rw [beq_eq_false_iff_ne]; exact fun e => hxy (cmp3_0.1 e)
        have HN2 := Lib.hid (show ∀ j, j < k + 1 → (fun x => decide (x.1 = y0)) (l.getD j MarkS.z) = false from fun j hj => by
          rcases Nat.lt_or_ge j k with g | g
          · exact HN.out j g
          · rw [show j = k from by omega, ← HSE.out]; exact decide_eq_false hxy)
        clear hxy
        go_wp2_with fail
        go_roundw
        case rel => exact ⟨k + 1, by omega, by go_num, HN2, HB3⟩
        case measure => simp [intOf]; omega
    · obtain rfl : n = k := by omega
      have HRN0 := Lib.hid ((HB.out.block (w.heap.size + 1) (by have := HSB.out; omega)).trans HGB.out)
      have HF := Lib.hid (show l.find? (fun x => decide (x.1 = y0)) = none from find_no _ MarkS.z l (by rw [HL.out]; exact HN.out))
      have hl5 : w.heap.size + 1 < wr.heap.size := by have := HSB.out; have := HB.out.size; omega
      have r0 : wr.cell? ⟨w.heap.size + 1, 0, none⟩ = some (.int .i64 0) := cell_blk HRN0.out rfl
      have r1 : wr.cell? ⟨w.heap.size + 1, 1, none⟩ = some (.int .i64 0) := cell_blk HRN0.out rfl
      have f0 : wr.frozen? ⟨w.heap.size + 1, 0, none⟩ = false := fro_blk HRN0.out 0
      have f1 : wr.frozen? ⟨w.heap.size + 1, 1, none⟩ = false := fro_blk HRN0.out 1
      clear hkn
      go_wp2_with fail
      refine bodyPost_ret (ret_cell_tmp rfl _ _ (w.heap.size + 1) 43 #[.int .i64 0, .int .i64 0] _ _ rfl ((hao9 _ _ _ (by simpa using hl5)).trans (setM HRN0.out 0 0)) Tryz.underlying43 rfl (by kernel_rfl)) rfl ?_
      refine ⟨?_, HBB.out.trans ((belowM (HB.out.mono HBB.out.size) (by omega) 0 0).alloc (by simp; have := HB.out.size; have := HBB.out.size; omega) _)⟩
      unfold LkM
      rw [HF.out]
      rfl

/-- what look answers -/
def LkE (l : List EntV) (y0 : ByteArray) (e : Ending) : Prop := e = .returned (.tuple #[.agg (EntS.f ((l.find? fun x => decide (x.key = y0)).getD EntS.z)).toArray, .bool (l.find? fun x => decide (x.key = y0)).isSome])

end Go.Proofs.YtbdgcfimbblncaaGreatDoor
end PkMB1_14
