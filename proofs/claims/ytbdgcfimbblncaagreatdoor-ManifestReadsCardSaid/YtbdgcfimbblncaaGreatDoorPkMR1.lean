/- Texts put together by packtpl2.py: Kit, Twin, Own, NumsPlain, NumsPut, NumsZig, NPuti, NU, NRU, NI. -/
import Derived.Test.YtbdgcfimbblncaaGreatDoorRows
import Derived.WalkKit
import Derived.Lib.Hide
import Derived.Laws.BytesArg
import Derived.Lib.SlBytesRow
import Derived.Outline
import Derived.Laws.Strings
import Derived.Laws.AppendOwnNone
import Derived.WalkSpells
import Derived.WalkSmall
import Derived.Deep.QuietTactic
import Derived.BigQuiet
import Derived.Deep.RegionHeld3
import Derived.Laws.BitsAllLaws
import Derived.Deep.Onto
section PkMR1_0
/- Small words for walks over slices of bytes: a slice of bytes wherever it lies, kept behind calls that leave old memory alone; its text; two of them compared. No condition beyond what each lemma names. -/
namespace Go.Proofs.YtbdgcfimbblncaaGreatDoor
open Go.RowKit
set_option linter.unusedVariables false

theorem info_u8 : (Tryz.prog.info? 5).map (fun i => (i.zero, i.size, i.bytes)) = some (some (.int .u8 0), 1, 1) := by kernel_rfl

/-- bytes as values -/
def bv (l : List Nat) : List Value := l.map fun (x : Nat) => Value.int .u8 (x : Int)
theorem bv_length (l : List Nat) : (bv l).length = l.length := by simp [bv]
theorem bv_append (l r : List Nat) : bv (l ++ r) = bv l ++ bv r := by simp [bv]
theorem bv_get (l : List Nat) (i : Nat) (h : i < l.length) : (bv l)[i]? = some (Value.int .u8 ((l.getD i 0 : Nat) : Int)) := by simp [bv, h]
theorem bv_oneCell (l : List Nat) : ∀ u ∈ bv l, u.oneCell' = true := by
  intro u hu
  simp only [bv, List.mem_map] at hu
  obtain ⟨x, _, rfl⟩ := hu
  rfl

theorem one_oneCell {v : Value} (h : v.oneCell' = true) : ∀ u ∈ [v], u.oneCell' = true := by
  intro u hu
  simp at hu
  subst hu
  exact h

theorem one_src (w : World) (x : Value) (t : TypeId) : ∀ j u, [x][j]? = some u → (w.alloc (.cells #[x] t)).cell? ((⟨w.heap.size, 0, none⟩ : Addr).add j) = some u := by
  intro j u hj
  match j, hj with
  | 0, hj =>
    simp at hj
    subst hj
    simp [Addr.add]

/-- a slice of bytes: whatever its address where it has none -/
structure BytesAt (w : World) (a : Option Addr) (n c : Nat) (xs : List Nat) : Prop where
  len : xs.length = n
  cap : n ≤ c
  byte : ∀ x ∈ xs, x < 256
  reach : n ≤ 140737488351232
  capm : c ≤ 9223372036854775807
  nl : a = none → c = 0
  cells : 0 < n → ∃ b off, a = some ⟨b, off, none⟩ ∧ b < w.heap.size ∧ ∀ i, i < n → w.cell? ⟨b, off + i, none⟩ = some (.int .u8 ((xs.getD i 0 : Nat) : Int))

theorem BytesAt.keep {w w' : World} {a : Option Addr} {n c : Nat} {xs : List Nat} (h : BytesAt w a n c xs) {B : Nat} (hb : Below B w w') (hB : w.heap.size ≤ B) : BytesAt w' a n c xs :=
  ⟨h.len, h.cap, h.byte, h.reach, h.capm, h.nl, fun hn => by
    obtain ⟨b, off, ha, hlt, hc⟩ := h.cells hn
    exact ⟨b, off, ha, Nat.lt_of_lt_of_le hlt hb.size, fun i hi => (hb.cell (p := ⟨b, off + i, none⟩) (Nat.lt_of_lt_of_le hlt hB)).trans (hc i hi)⟩⟩

theorem BytesAt.kept {w w' : World} {a : Option Addr} {n c : Nat} {xs : List Nat} (h : BytesAt w a n c xs) (hb : Below w.heap.size w w') : BytesAt w' a n c xs := h.keep hb (Nat.le_refl _)
theorem BytesAt.alloc {w : World} {a : Option Addr} {n c : Nat} {xs : List Nat} (h : BytesAt w a n c xs) (o : Obj) : BytesAt (w.alloc o) a n c xs := h.kept ((Below.refl _ _).alloc (Nat.le_refl _) o)

theorem BytesAt.empty (w : World) (a : Option Addr) (c : Nat) (hc : c ≤ 9223372036854775807) (ha : a = none → c = 0) : BytesAt w a 0 c [] :=
  ⟨rfl, Nat.zero_le _, (fun x hx => by cases hx), Nat.zero_le _, hc, ha, fun h => absurd h (Nat.lt_irrefl 0)⟩

theorem BytesAt.upto {w : World} {a : Option Addr} {n c : Nat} {xs : List Nat} (h : BytesAt w a n c xs) (k : Nat) (hk : k ≤ n) : BytesAt w a k c (xs.take k) := by
  have hl := h.len
  have hc := h.cap
  have hr := h.reach
  refine ⟨by simp; omega, by omega, fun x hx => h.byte x (List.mem_of_mem_take hx), by omega, h.capm, h.nl, fun hp => ?_⟩
  obtain ⟨b, off, ha, hlt, hcell⟩ := h.cells (by omega)
  refine ⟨b, off, ha, hlt, fun i hi => ?_⟩
  rw [hcell i (by omega)]
  have : i < xs.length := by omega
  simp [hi]

theorem BytesAt.src {w : World} {ad : Addr} {n c : Nat} {xs : List Nat} (h : BytesAt w (some ad) n c xs) : ∀ j u, (bv xs)[j]? = some u → w.cell? (ad.add j) = some u := by
  intro j u hj
  have hlt : j < xs.length := by
    rcases Nat.lt_or_ge j xs.length with g | g
    · exact g
    · rw [List.getElem?_eq_none (by rw [bv_length]; exact g)] at hj; cases hj
  have hl := h.len
  obtain ⟨b, off, ha, _, hc⟩ := h.cells (by omega)
  cases ha
  have h4 : (⟨b, off, none⟩ : Addr).add j = ⟨b, off + j, none⟩ := by unfold Addr.add; split <;> simp_all
  rw [h4, hc j (by omega), ← bv_get xs j hlt, hj]

/-- what the call owns -/
theorem BytesAt.own {w : World} {base n : Nat} {v : Value} {xs : List Nat} (h : w.ownsRow base 5 1 v n (bv xs)) (hb : ∀ x ∈ xs, x < 256) (hp : 0 < n) (hr : n ≤ 140737488351232) :
    ∃ g c, v = .slice (some ⟨g, 0, none⟩) n c ∧ base ≤ g ∧ g < w.heap.size ∧ BytesAt w (some ⟨g, 0, none⟩) n c xs := by
  rcases h.2 with ⟨_, h0⟩ | ⟨g, cap, cur, rfl, hg, hh, hn, hcap, hsz, htake⟩
  · omega
  · have hlt : g < w.heap.size := (Array.getElem?_eq_some_iff.1 hh).1
    have hl : xs.length = n := by have := h.1; simpa [bv_length] using this
    refine ⟨g, cap, rfl, hg, hlt, hl, hn, hb, hr, (by unfold maxLen at hcap; exact hcap), (fun e => by cases e), fun _ => ⟨g, 0, rfl, hlt, fun i hi => ?_⟩⟩
    have := h.cellAt i (by omega)
    rw [Nat.zero_add, this, bv_get _ _ (by omega)]

/-- bytes written out in a new block -/
theorem BytesAt.lit (w : World) (cs : Array Value) (l : List Nat) (hcs : cs.toList = bv l) (hl : ∀ x ∈ l, x < 256) (hp : 0 < l.length) (hr : l.length ≤ 140737488351232) :
    BytesAt (w.alloc (.cells cs 5)) (some ⟨w.heap.size, 0, none⟩) l.length l.length l := by
  have hsz : cs.size = l.length := by rw [← Array.length_toList, hcs, bv_length]
  have h := World.ownsRow_lit (base := w.heap.size) (e := 5) (size := 1) w cs l.length (Nat.le_refl _) (by unfold maxLen; omega) (by omega)
  rw [hcs] at h
  obtain ⟨g, c, hv, _, _, hb⟩ := BytesAt.own h hl hp hr
  simp only [Value.slice.injEq, Option.some.injEq, Addr.mk.injEq, and_true, true_and] at hv
  obtain ⟨rfl, rfl⟩ := hv
  exact hb

/-- append of bytes, wherever they lie, to bytes that the call owns -/
theorem wpList_append_bytes {w : World} {ops : Array Oper} {rest : List Oper} {o : Oper} {a : Act} {Q : Exit → Act → World → Prop} (hgd : o.guard = none) (s x : Operand)
    (ho : o.op = .call { callee := .builtin .append, args := #[s, x], argTypes := #[30, 30] })
    (base : Nat) (v : Value) (n : Nat) (xs : List Nat) (hs : a.eval s = v) (hown : w.ownsRow base 5 1 v n (bv xs))
    (src : Option Addr) (m c : Nat) (ys : List Nat) (hx : a.eval x = .slice src m c) (hb : BytesAt w src m c ys)
    (h63 : n + m ≤ 140737488355328) (hbase : base ≤ w.heap.size)
    (h : ∀ v' w', w'.ownsRow base 5 1 v' (n + m) (bv (xs ++ ys)) → w.grownBy w' v.ownBlock → wpList Tryz.prog ops Q rest (a.put o.dst v') w') : wpList Tryz.prog ops Q (o :: rest) a w := by
  obtain ⟨i0, hi, hz0, hz1, hz2⟩ := info_parts info_u8
  rcases src with _ | ad
  · have hc := hb.nl rfl
    have hm : m = 0 := by have := hb.cap; omega
    subst hm
    subst hc
    have hy : ys = [] := List.eq_nil_of_length_eq_zero hb.len
    subst hy
    refine wpList_append_own_none hgd s x 30 ho base 5 i0 1 Tryz.underlying30 hi v n (bv xs) hs hown hx ?_
    exact h v w (by simpa using hown) (World.grownBy.refl _ _)
  · refine wpList_append_own w hgd s x 30 ho base 5 i0 (.int .u8 0) 1 1 Tryz.underlying30 hi hz0 hz1 hz2 rfl (by decide) v n (bv xs) hs hown ad m c (bv ys) hx (by rw [bv_length, hb.len]; omega) hb.src (bv_oneCell _) (by unfold maxLen; omega) (by omega) hbase ?_
    intro v' w' h1 h2 _
    exact h v' w' (by rw [bv_append]; exact h1) h2

/-- the text of bytes -/
def bs (xs : List Nat) : ByteArray := strOfNums (xs.map fun (x : Nat) => (x : Int))

theorem bs_inj {xs ys : List Nat} (hx : ∀ x ∈ xs, x < 256) (hy : ∀ y ∈ ys, y < 256) (h : (bs xs).data.toList = (bs ys).data.toList) : xs = ys := by
  have e : ∀ l : List Nat, (∀ x ∈ l, x < 256) → (bs l).data.toList.map UInt8.toNat = l := by
    intro l hl
    simp only [bs, strOfNums_data, List.map_map]
    conv => rhs; rw [← List.map_id l]
    apply List.map_congr_left
    intro x hx
    have := hl x hx
    simp [Nat.mod_eq_of_lt this]
  rw [← e xs hx, ← e ys hy, h]

theorem bs_toList (xs : List Nat) : (bs xs).toList = (bs xs).data.toList := ByteArray.toList_eq _
theorem bs_eq {xs ys : List Nat} (hx : ∀ x ∈ xs, x < 256) (hy : ∀ y ∈ ys, y < 256) : ((bs xs).toList == (bs ys).toList) = (xs == ys) := by
  rw [Bool.eq_iff_iff]
  simp only [beq_iff_eq, bs_toList]
  exact ⟨fun h => bs_inj hx hy h, fun h => by rw [h]⟩

theorem BytesAt.conv {w : World} {a : Option Addr} {n c : Nat} {xs : List Nat} (h : BytesAt w a n c xs) :
    (convert 30 9 (.slice a n c)).run Tryz.prog w = .ok (.string (bs xs)) w := by
  rcases Nat.eq_zero_or_pos n with h0 | hp
  · subst h0
    have hx : xs = [] := List.eq_nil_of_length_eq_zero h.len
    subst hx
    rw [run_convert_bytes_string w 30 9 5 _ 0 c Tryz.underlying30 Tryz.underlying5 Tryz.underlying9]
    cases a <;> simp [Conv.bytesToString, loadCells] <;> rfl
  · obtain ⟨b, off, rfl, _, hc⟩ := h.cells hp
    exact run_convert_bytes_arg (P := Tryz.prog) w 30 5 Tryz.underlying30 Tryz.underlying5 b off n c (xs.map fun (x : Nat) => (x : Int)) (by simpa using h.len) (fun i hi => by
      rw [hc i hi]
      have : i < xs.length := by have := h.len; omega
      simp [this]) 9 Tryz.underlying9

set_option maxHeartbeats 400000 in
theorem same_any {a a' : Option Addr} {n n' c c' : Nat} {xs ys : List Nat} {w : World} (hx : BytesAt w a n c xs) (hy : BytesAt w a' n' c' ys) :
    Calls Tryz.prog 13 #[.slice a n c, .slice a' n' c'] w fun e w' => e = .returned (.bool (xs == ys)) ∧ w = w' := by
  have h1 := hx.conv
  have h2 := hy.conv
  have he := bs_eq hx.byte hy.byte
  clear hx hy
  go_enter Tryz.func13, Tryz.ntmps13
  go_wp2
  go_ret
  exact ⟨by rw [← he]; rfl, rfl⟩

/-- what a walk is told of a slice of integers that came in: nil; or it leads to a row of 'cap' cells, the numbers 'zs', each fitting its kind; it takes at most the reach -/
def IsRow (k : IntKind) (sz : Nat) (w : World) (a : Option Addr) (len cap : Nat) (zs : List Int) : Prop :=
  (a = none ∧ len = 0 ∧ cap = 0 ∧ zs = []) ∨
  ∃ x, a = some x ∧ len ≤ cap ∧ cap ≤ maxLen ∧ zs.length = cap ∧ (∀ i, i < zs.length → w.cell? (x.add i) = some (.int k (zs.getD i 0))) ∧ (∀ n ∈ zs, (Lit.int k n).wf = true) ∧ cap * sz ≤ 140737488351232

theorem byte_of_wf {n : Int} (h : (Lit.int .u8 n).wf = true) : 0 ≤ n ∧ n ≤ 255 := by
  simpa [Lit.wf, IntKind.min, IntKind.max, IntKind.signed, IntKind.bits] using h

theorem IsRow.bytes {w : World} {a : Option Addr} {len cap : Nat} {zs : List Int} (h : IsRow .u8 1 w a len cap zs) : ∃ xs : List Nat, BytesAt w a len cap xs := by
  rcases h with ⟨rfl, rfl, rfl, rfl⟩ | ⟨x, rfl, hl, hm, hz, hcell, hwz, hr⟩
  · exact ⟨[], BytesAt.empty w none 0 (by omega) (fun _ => rfl)⟩
  · refine ⟨(zs.take len).map Int.toNat, by simp; omega, hl, ?_, by omega, by omega, (fun e => by cases e), fun hp => ?_⟩
    · intro y hy
      simp only [List.mem_map] at hy
      obtain ⟨z, hzm, rfl⟩ := hy
      have := byte_of_wf (hwz z (List.mem_of_mem_take hzm))
      omega
    · obtain ⟨b, off, spot⟩ := x
      have hc := hcell 0 (by omega)
      have hspot : spot = none := by simpa [Addr.add] using World.cell?_spot hc
      subst hspot
      refine ⟨b, off, rfl, ?_, fun i hi => ?_⟩
      · have := World.block_lt_of_cell? w _ hc
        simpa [Addr.add] using this
      · have h1 := hcell i (by omega)
        have h2 : i < zs.length := by omega
        have h3 := byte_of_wf (hwz zs[i] (List.getElem_mem h2))
        have h4 : (⟨b, off, none⟩ : Addr).add i = ⟨b, off + i, none⟩ := by unfold Addr.add; split <;> simp_all
        rw [h4] at h1
        rw [h1]
        have e1 : zs.getD i 0 = zs[i] := by simp [h2]
        have e2 : (((zs.take len).map Int.toNat).getD i 0 : Nat) = zs[i].toNat := by
          simp [h2, hi]
        rw [e1, e2]
        congr 2
        omega
end Go.Proofs.YtbdgcfimbblncaaGreatDoor
end PkMR1_0
section PkMR1_1
/- Twin and bytes.Clone, walked; small words beside them. -/
namespace Go.Proofs.YtbdgcfimbblncaaGreatDoor
open Go.RowKit
set_option linter.unusedVariables false

theorem u32_of_wf' {n : Int} (h : (Lit.int .u32 n).wf = true) : ∃ m : Nat, n = (m : Int) ∧ m < 4294967296 := by
  have : 0 ≤ n ∧ n ≤ 4294967295 := by simpa [Lit.wf, IntKind.min, IntKind.max, IntKind.signed, IntKind.bits] using h
  exact ⟨n.toNat, by omega, by omega⟩
theorem u64_of_wf {n : Int} (h : (Lit.int .u64 n).wf = true) : ∃ m : Nat, n = (m : Int) ∧ m < 18446744073709551616 := by
  have : 0 ≤ n ∧ n ≤ 18446744073709551615 := by simpa [Lit.wf, IntKind.min, IntKind.max, IntKind.signed, IntKind.bits] using h
  exact ⟨n.toNat, by omega, by omega⟩

theorem i64_of_wf {n : Int} (h : (Lit.int .i64 n).wf = true) : -9223372036854775808 ≤ n ∧ n ≤ 9223372036854775807 := by
  simpa [Lit.wf, IntKind.min, IntKind.max, IntKind.signed, IntKind.bits] using h

theorem BytesAt.drew {w : World} {a : Option Addr} {n c : Nat} {xs : List Nat} (h : BytesAt w a n c xs) : BytesAt w.drew a n c xs :=
  ⟨h.len, h.cap, h.byte, h.reach, h.capm, h.nl, h.cells⟩

theorem BytesAt.drewN {w : World} {a : Option Addr} {n c : Nat} {xs : List Nat} (h : BytesAt w a n c xs) (k : Nat) : BytesAt (w.drewN k) a n c xs :=
  h.kept ⟨rfl, rfl, rfl, Nat.le_refl _, fun _ _ => rfl⟩

theorem grown_drewN (w : World) (k : Nat) (r : Option Nat) : w.grownBy (w.drewN k) r := ⟨rfl, rfl, rfl, Nat.le_refl _, fun _ _ _ => rfl⟩
theorem _root_.Go.World.grownBy.trans' {a b c : World} {r : Option Nat} (h : a.grownBy b r) (k : b.grownBy c r) : a.grownBy c r :=
  ⟨k.os.trans h.os, k.tape.trans h.tape, k.output.trans h.output, Nat.le_trans h.size k.size, fun i hi hr => (k.block i (Nat.lt_of_lt_of_le hi h.size) hr).trans (h.block i hi hr)⟩

/-- a row of integers that came in -/
structure RowAt (k : IntKind) (w : World) (a : Option Addr) (n c : Nat) (zs : List Int) : Prop where
  cap : n ≤ c
  capm : c ≤ 9223372036854775807
  nl : a = none → c = 0
  cells : 0 < n → ∃ b off, a = some ⟨b, off, none⟩ ∧ b < w.heap.size ∧ ∀ i, i < n → w.cell? ⟨b, off + i, none⟩ = some (.int k (zs.getD i 0)) ∧ (Lit.int k (zs.getD i 0)).wf = true

theorem IsRow.at_ {k : IntKind} {s : Nat} {w : World} {a : Option Addr} {len cap : Nat} {zs : List Int} (h : IsRow k s w a len cap zs) : RowAt k w a len cap zs := by
  rcases h with ⟨rfl, rfl, rfl, rfl⟩ | ⟨x, rfl, hl, hm, hz, hcell, hwz, hr⟩
  · exact ⟨Nat.le_refl _, by omega, fun _ => rfl, fun h => absurd h (Nat.lt_irrefl 0)⟩
  · refine ⟨hl, by unfold maxLen at hm; exact hm, (fun e => by cases e), fun hp => ?_⟩
    obtain ⟨b, off, spot⟩ := x
    have hc := hcell 0 (by omega)
    have hspot : spot = none := by simpa [Addr.add] using World.cell?_spot hc
    subst hspot
    refine ⟨b, off, rfl, ?_, fun i hi => ?_⟩
    · have := World.block_lt_of_cell? w _ hc
      simpa [Addr.add] using this
    · have h1 := hcell i (by omega)
      have h4 : (⟨b, off, none⟩ : Addr).add i = ⟨b, off + i, none⟩ := by unfold Addr.add; split <;> simp_all
      rw [h4] at h1
      have h2 : i < zs.length := by omega
      refine ⟨h1, hwz _ ?_⟩
      have : zs.getD i 0 = zs[i] := by simp [h2]
      rw [this]
      exact List.getElem_mem h2

theorem BytesAt.ofOwn {w : World} {base n : Nat} {v : Value} {xs : List Nat} (h : w.ownsRow base 5 1 v n (bv xs)) (hb : ∀ x ∈ xs, x < 256) (hr : n ≤ 140737488351232) :
    ∃ a c, v = .slice a n c ∧ BytesAt w a n c xs ∧ (∀ b off s, a = some ⟨b, off, s⟩ → base ≤ b) := by
  rcases Nat.eq_zero_or_pos n with h0 | hp
  · subst h0
    have hx : xs = [] := by
      have := h.1
      simp only [Nat.zero_mul, bv_length] at this
      exact List.eq_nil_of_length_eq_zero this
    subst hx
    rcases h.2 with ⟨h1, _⟩ | ⟨g, cap, cur, rfl, hg, hh, hn, hcap, hsz, htake⟩
    · subst h1
      exact ⟨none, 0, rfl, BytesAt.empty _ _ _ (by omega) (fun _ => rfl), fun _ _ _ e => by cases e⟩
    · exact ⟨some ⟨g, 0, none⟩, cap, rfl, BytesAt.empty _ _ _ (by unfold maxLen at hcap; exact hcap) (fun e => by cases e), fun b off s e => by cases e; exact hg⟩
  · obtain ⟨g, c, rfl, hg, hlt, hba⟩ := BytesAt.own h hb hp hr
    exact ⟨some ⟨g, 0, none⟩, c, rfl, hba, fun b off s e => by cases e; exact hg⟩

set_option maxRecDepth 100000 in
set_option maxHeartbeats 1000000 in
theorem twin_any {a : Option Addr} {n c : Nat} {xs : List Nat} {w : World} (h : BytesAt w a n c xs) :
    Calls Tryz.prog 15 #[.slice a n c] w fun e w' => ∃ v, e = .returned v ∧ w'.ownsRow w.heap.size 5 1 v n (bv xs) ∧ v ≠ .slice none 0 0 ∧ Below w.heap.size w w' := by
  obtain ⟨i0, hi, hz0, hz1, hz2⟩ := info_parts info_u8
  have hown0 := World.ownsRow_lit (base := w.heap.size) (e := 5) (size := 1) w #[] 0 (Nat.le_refl _) (by unfold maxLen; omega) rfl
  have hreach := h.reach
  have hlen := h.len
  rcases a with _ | ad
  · have hc0 := h.nl rfl
    have hn0 : n = 0 := by have := h.cap; omega
    subst hn0
    subst hc0
    obtain rfl : xs = [] := List.eq_nil_of_length_eq_zero hlen
    clear h
    go_enter Tryz.func15, Tryz.ntmps15
    go_wp2_with (at_builtin; refine wpList_append_own_none rfl (.tmp 3) (.tmp 4) 30 rfl w.heap.size 5 i0 1 Tryz.underlying30 hi _ _ _ rfl hown0 rfl ?_)
    go_ret
    exact ⟨_, rfl, hown0, (fun e => by cases e), (Below.refl _ _).alloc (Nat.le_refl _) _⟩
  · have hsrc := (h.alloc (.cells #[] 5)).src
    have HS := Lib.hid hsrc
    clear hsrc h
    go_enter Tryz.func15, Tryz.ntmps15
    go_wp2_with (at_builtin; refine wpList_append_own _ rfl (.tmp 3) (.tmp 4) 30 rfl w.heap.size 5 i0 (.int .u8 0) 1 1 Tryz.underlying30 hi hz0 hz1 hz2 rfl (by decide) _ _ _ rfl hown0 ad n c (bv xs) rfl ?c1 HS.out (bv_oneCell _) ?c3 ?c4 (by simp) ?_)
    case c1 => simp [bv_length, hlen]
    case c3 => unfold maxLen; omega
    case c4 => omega
    intro v' w1 hown' hgrow hnil
    go_wp2
    go_ret
    refine ⟨v', rfl, ?_, ?_, ?_⟩
    · simpa using hown'
    · exact hnil
    · exact ((Below.refl _ _).alloc (Nat.le_refl _) _).grown hgrow (by simp) (fun k hk => by simp [Value.ownBlock] at hk; omega)

/-- as a slice of bytes wherever -/
theorem twin {a : Option Addr} {n c : Nat} {xs : List Nat} {w : World} (h : BytesAt w a n c xs) :
    Calls Tryz.prog 15 #[.slice a n c] w fun e w' => ∃ g k, e = .returned (.slice (some ⟨g, 0, none⟩) n k) ∧ w.heap.size ≤ g ∧ g < w'.heap.size ∧
      w'.ownsRow w.heap.size 5 1 (.slice (some ⟨g, 0, none⟩) n k) n (bv xs) ∧ BytesAt w' (some ⟨g, 0, none⟩) n k xs ∧ Below w.heap.size w w' := by
  refine (twin_any h).mono ?_
  rintro e w' ⟨v, rfl, hown, hnn, hb⟩
  rcases hown.2 with ⟨h0, _⟩ | ⟨g, cap, cur, rfl, hg, hh, hn, hcap, hsz, htake⟩
  · exact absurd h0 hnn
  · have hlt : g < w'.heap.size := (Array.getElem?_eq_some_iff.1 hh).1
    refine ⟨g, cap, rfl, hg, hlt, hown, ⟨h.len, hn, h.byte, h.reach, (by unfold maxLen at hcap; exact hcap), (fun e => by cases e), fun hp => ⟨g, 0, rfl, hlt, fun i hi => ?_⟩⟩, hb⟩
    have := hown.cellAt i (by omega)
    rw [Nat.zero_add, this, bv_get _ _ (by have := h.len; omega)]

set_option maxRecDepth 100000 in
set_option maxHeartbeats 1000000 in
theorem clone_any {a : Option Addr} {n c : Nat} {xs : List Nat} {w : World} (h : BytesAt w a n c xs) :
    Calls Tryz.prog 89 #[.slice a n c] w fun e w' => ∃ a' c', e = .returned (.slice a' n c') ∧ BytesAt w' a' n c' xs ∧ Below w.heap.size w w' ∧ (∀ b off s, a' = some ⟨b, off, s⟩ → w.heap.size ≤ b) := by
  have q : ∀ (w : World) (a : Option Addr) (n c n' c' : Nat), (binOp .eql 30 (.slice a n c) (.slice none n' c')).run Tryz.prog w = .ok (.bool a.isNone) w := fun w a n c n' c' => Lib.run_eql_slice_nil w _ _ a n c n' c' Tryz.underlying30
  have hown0 := World.ownsRow_lit (base := w.heap.size) (e := 5) (size := 1) w #[] 0 (Nat.le_refl _) (by unfold maxLen; omega) rfl
  have hreach := h.reach
  have hlen := h.len
  rcases a with _ | ad
  · have hc0 := h.nl rfl
    have hn0 : n = 0 := by have := h.cap; omega
    subst hn0
    subst hc0
    have HH := Lib.hid h
    clear h hlen
    go_enter Tryz.func89, Tryz.ntmps89
    go_wp2_with fail
    go_ret
    exact ⟨none, 0, rfl, HH.out, Below.refl _ _, fun _ _ _ e => by cases e⟩
  · have HH := Lib.hid h
    have ha := h.alloc (.cells #[] 5)
    have HA := Lib.hid ha
    clear h ha
    go_enter Tryz.func89, Tryz.ntmps89
    go_wp2_with (at_builtin; refine wpList_append_bytes rfl (.tmp 5) (.tmp 6) rfl w.heap.size _ _ [] rfl hown0 _ _ _ _ rfl HA.out (by omega) (by simp) ?_)
    intro v' w1 hown' hgrow
    have hown2 : w1.ownsRow w.heap.size 5 1 v' n (bv xs) := by simpa using hown'
    clear hown'
    have hb : Below w.heap.size w w1 := ((Below.refl _ _).alloc (Nat.le_refl _) _).grown hgrow (by simp) (fun k hk => by simp [Value.ownBlock] at hk; omega)
    go_wp2_with fail
    go_ret
    rcases hown2.2 with ⟨h0, h1⟩ | ⟨g, cap, cur, rfl, hg, hh, hn, hcap, hsz, htake⟩
    · subst h0
      subst h1
      obtain rfl : xs = [] := List.eq_nil_of_length_eq_zero hlen
      exact ⟨none, 0, rfl, BytesAt.empty _ _ _ (by omega) (fun _ => rfl), hb, fun _ _ _ e => by cases e⟩
    · have hlt : g < w1.heap.size := (Array.getElem?_eq_some_iff.1 hh).1
      refine ⟨some ⟨g, 0, none⟩, cap, rfl, ⟨hlen, hn, HH.out.byte, hreach, (by unfold maxLen at hcap; exact hcap), (fun e => by cases e), fun hp => ⟨g, 0, rfl, hlt, fun i hi => ?_⟩⟩, hb, fun b off s e => by cases e; exact hg⟩
      have := hown2.cellAt i (by omega)
      rw [Nat.zero_add, this, bv_get _ _ (by omega)]

end Go.Proofs.YtbdgcfimbblncaaGreatDoor
end PkMR1_1
section PkMR1_2
/- Bytes that the call owns, kept behind calls that leave old memory alone; bytes.Clone gives such ones. -/
namespace Go.Proofs.YtbdgcfimbblncaaGreatDoor
open Go.RowKit
set_option linter.unusedVariables false

theorem own_below {w w' : World} {base : Nat} {e : TypeId} {size : Nat} {v : Value} {n : Nat} {xs : List Value} (h : w.ownsRow base e size v n xs) (hb : Below w.heap.size w w') : w'.ownsRow base e size v n xs :=
  h.kept (row := none) ⟨hb.os, hb.tape, hb.output, hb.size, fun k hk _ => hb.block k hk⟩ (by cases hv : v.ownBlock <;> simp)

theorem own_nil_bytes (w : World) (base : Nat) : w.ownsRow base 5 1 (.slice none 0 0) 0 (bv []) := World.ownsRow_nil w base _ _

/-- what is appended to what a call owns: the frame stays below -/
theorem below_own {w w' : World} {B base : Nat} {e : TypeId} {size : Nat} {v : Value} {n : Nat} {xs : List Value} {w0 : World} (hb : Below B w0 w) (hown : w.ownsRow base e size v n xs) (hg : w.grownBy w' v.ownBlock) (hB : B ≤ base) (hs : B ≤ w.heap.size) : Below B w0 w' :=
  hb.grown hg hs (fun k hk => Nat.le_trans hB (hown.lt k hk).1)
/-- what a call owns of one type, and of another: not in one block -/
theorem own_ne2 {w : World} {base base' : Nat} {e e' : TypeId} {size size' : Nat} {v v' : Value} {n n' : Nat} {xs xs' : List Value} (h : w.ownsRow base e size v n xs) (h' : w.ownsRow base' e' size' v' n' xs') (hne : e ≠ e') : v.ownBlock = none ∨ v.ownBlock ≠ v'.ownBlock := by
  rcases h.2 with ⟨rfl, _⟩ | ⟨g, cap, cur, rfl, _, hg, _⟩
  · exact .inl rfl
  · rcases h'.2 with ⟨rfl, _⟩ | ⟨g', cap', cur', rfl, _, hg', _⟩
    · exact .inr (by simp [Value.ownBlock])
    · refine .inr fun e1 => ?_
      simp [Value.ownBlock] at e1
      subst e1
      rw [hg] at hg'
      simp at hg'
      exact hne hg'.2

/-- what was made later than another one's row is kept when that one is appended to -/
theorem own_other {w w' w0 : World} {base base' : Nat} {e e' : TypeId} {size size' : Nat} {v v' : Value} {n n' : Nat} {xs xs' : List Value} (h : w.ownsRow base e size v n xs) (hg : w.grownBy w' v'.ownBlock) (h' : w0.ownsRow base' e' size' v' n' xs') (hb : w0.heap.size ≤ base) : w'.ownsRow base e size v n xs := by
  refine h.kept hg ?_
  cases hv : v.ownBlock with
  | none => exact .inl rfl
  | some k =>
    refine .inr fun e => ?_
    have h1 := (h.lt k hv).1
    have h2 := (h'.lt k e.symm).2
    omega

set_option maxRecDepth 100000 in
set_option maxHeartbeats 1000000 in
theorem clone_own {a : Option Addr} {n c : Nat} {xs : List Nat} {w : World} (h : BytesAt w a n c xs) :
    Calls Tryz.prog 89 #[.slice a n c] w fun e w' => ∃ v, e = .returned v ∧ w'.ownsRow w.heap.size 5 1 v n (bv xs) ∧ Below w.heap.size w w' := by
  have q : ∀ (w : World) (a : Option Addr) (n c n' c' : Nat), (binOp .eql 30 (.slice a n c) (.slice none n' c')).run Tryz.prog w = .ok (.bool a.isNone) w := fun w a n c n' c' => Lib.run_eql_slice_nil w _ _ a n c n' c' Tryz.underlying30
  have hown0 := World.ownsRow_lit (base := w.heap.size) (e := 5) (size := 1) w #[] 0 (Nat.le_refl _) (by unfold maxLen; omega) rfl
  have hreach := h.reach
  have hlen := h.len
  rcases a with _ | ad
  · have hc0 := h.nl rfl
    have hn0 : n = 0 := by have := h.cap; omega
    subst hn0
    subst hc0
    obtain rfl : xs = [] := List.eq_nil_of_length_eq_zero hlen
    have HH := Lib.hid h
    clear h hlen
    go_enter Tryz.func89, Tryz.ntmps89
    go_wp2_with fail
    go_ret
    exact ⟨_, rfl, own_nil_bytes _ _, Below.refl _ _⟩
  · have HH := Lib.hid h
    have ha := h.alloc (.cells #[] 5)
    have HA := Lib.hid ha
    clear h ha
    go_enter Tryz.func89, Tryz.ntmps89
    go_wp2_with (at_builtin; refine wpList_append_bytes rfl (.tmp 5) (.tmp 6) rfl w.heap.size _ _ [] rfl hown0 _ _ _ _ rfl HA.out (by omega) (by simp) ?_)
    intro v' w1 hown' hgrow
    have hown2 : w1.ownsRow w.heap.size 5 1 v' n (bv xs) := by simpa using hown'
    clear hown'
    have hb : Below w.heap.size w w1 := ((Below.refl _ _).alloc (Nat.le_refl _) _).grown hgrow (by simp) (fun k hk => by simp [Value.ownBlock] at hk; omega)
    go_wp2_with fail
    go_ret
    exact ⟨v', rfl, hown2, hb⟩
end Go.Proofs.YtbdgcfimbblncaaGreatDoor
end PkMR1_2
section PkMR1_3
/- Plain facts on numbers as few bytes: what PutU and U compute, on lists of naturals. No Go in sight. -/
namespace Go.Proofs.YtbdgcfimbblncaaGreatDoor.NumsPlain

/-- the bytes of a number -/
def pu (n : Nat) : List Nat := if n < 128 then [n] else (128 + n % 128) :: pu (n / 128)
termination_by n
decreasing_by omega

theorem pu_small {n : Nat} (h : n < 128) : pu n = [n] := by rw [pu, if_pos h]
theorem pu_big {n : Nat} (h : 128 ≤ n) : pu n = (128 + n % 128) :: pu (n / 128) := by rw [pu, if_neg (by omega)]

theorem pu_pos (n : Nat) : 1 ≤ (pu n).length := by
  by_cases h : n < 128
  · simp [pu_small h]
  · simp [pu_big (show 128 ≤ n by omega)]

/-- a number below 128 to the k has at most k bytes -/
theorem pu_le : ∀ (k n : Nat), n < 128 ^ (k + 1) → (pu n).length ≤ k + 1
  | 0, n, h => by simp [pu_small (show n < 128 by simpa using h)]
  | k + 1, n, h => by
    by_cases hs : n < 128
    · simp [pu_small hs]
    · rw [pu_big (by omega)]
      have h2 : n / 128 < 128 ^ (k + 1) := by
        rw [Nat.div_lt_iff_lt_mul (by omega)]
        rw [Nat.pow_succ 128 (k + 1)] at h
        exact h
      have := pu_le k (n / 128) h2
      simp; omega

theorem pu_ten {n : Nat} (h : n < 18446744073709551616) : (pu n).length ≤ 10 :=
  pu_le 9 n (Nat.lt_of_lt_of_le h (by decide))

theorem pu_mono : ∀ (k m n : Nat), n < 128 ^ (k + 1) → m ≤ n → (pu m).length ≤ (pu n).length
  | 0, m, n, h, hmn => by
    have h1 : n < 128 := by simpa using h
    rw [pu_small h1, pu_small (show m < 128 by omega)]
    simp
  | k + 1, m, n, h, hmn => by
    by_cases hs : m < 128
    · rw [pu_small hs]; exact pu_pos n
    · have hn : 128 ≤ n := by omega
      rw [pu_big hn, pu_big (show 128 ≤ m by omega)]
      have h2 : n / 128 < 128 ^ (k + 1) := by
        rw [Nat.div_lt_iff_lt_mul (by omega)]
        rw [Nat.pow_succ 128 (k + 1)] at h
        exact h
      have := pu_mono k (m / 128) (n / 128) h2 (Nat.div_le_div_right hmn)
      simp; omega

theorem pu_grows {m n : Nat} (h : n < 18446744073709551616) (hmn : m ≤ n) : (pu m).length ≤ (pu n).length :=
  pu_mono 9 m n (Nat.lt_of_lt_of_le h (by decide)) hmn

/-- each is a byte -/
theorem pu_byte : ∀ (k n : Nat), n < 128 ^ (k + 1) → ∀ x ∈ pu n, x < 256
  | 0, n, h, x, hx => by
    have h1 : n < 128 := by simpa using h
    rw [pu_small h1] at hx
    simp at hx; omega
  | k + 1, n, h, x, hx => by
    by_cases hs : n < 128
    · rw [pu_small hs] at hx
      simp at hx; omega
    · rw [pu_big (by omega)] at hx
      rcases List.mem_cons.1 hx with e | e
      · omega
      · have h2 : n / 128 < 128 ^ (k + 1) := by
          rw [Nat.div_lt_iff_lt_mul (by omega)]
          rw [Nat.pow_succ 128 (k + 1)] at h
          exact h
        exact pu_byte k (n / 128) h2 x e
theorem pu_bytes {n : Nat} (h : n < 18446744073709551616) : ∀ x ∈ pu n, x < 256 := pu_byte 9 n (Nat.lt_of_lt_of_le h (by decide))

/-- what reading a number comes to: the value so far, how many bytes are behind, the bytes ahead; the value, how many bytes, the error (0; 3: ErrShort; 4: ErrForm) -/
def uu : Nat → Nat → List Nat → Nat × Nat × Nat
  | _, _, [] => (0, 0, 3)
  | acc, i, x :: xs =>
    if i = 9 ∧ 1 < x then (0, 0, 4)
    else if 128 ≤ x then uu (acc + x % 128 * 128 ^ i) (i + 1) xs
    else if x = 0 ∧ 0 < i then (0, 0, 4)
    else (acc + x % 128 * 128 ^ i, i + 1, 0)

/-- what was put is read, whatever stands behind it -/
theorem uu_pu : ∀ (k acc i n : Nat) (rest : List Nat), k + i = 9 → n < 128 ^ (k + 1) → (i = 0 ∨ 0 < n) → (n * 128 ^ i < 18446744073709551616) →
    uu acc i (pu n ++ rest) = (acc + n * 128 ^ i, i + (pu n).length, 0)
  | 0, acc, i, n, rest, hki, h, h0, hb => by
    have h1 : n < 128 := by simpa using h
    obtain rfl : i = 9 := by omega
    have hn : n ≤ 1 := by
      rcases Nat.lt_or_ge 1 n with g | g
      · have : 2 * 128 ^ 9 ≤ n * 128 ^ 9 := Nat.mul_le_mul_right _ g
        have e : (2 : Nat) * 128 ^ 9 = 18446744073709551616 := by decide
        omega
      · exact g
    rw [pu_small h1]
    have hpos : 0 < n := by omega
    simp only [List.cons_append, List.nil_append, uu, List.length_cons, List.length_nil]
    rw [if_neg (by omega), if_neg (by omega), if_neg (by omega), Nat.mod_eq_of_lt h1]
  | k + 1, acc, i, n, rest, hki, h, h0, hb => by
    by_cases hs : n < 128
    · rw [pu_small hs]
      simp only [List.cons_append, List.nil_append, uu, List.length_cons, List.length_nil]
      rw [if_neg (by omega), if_neg (by omega), if_neg (by omega), Nat.mod_eq_of_lt hs]
    · have hn : 128 ≤ n := by omega
      rw [pu_big hn]
      simp only [List.cons_append, uu, List.length_cons]
      rw [if_neg (by omega), if_pos (by omega)]
      have h2 : n / 128 < 128 ^ (k + 1) := by
        rw [Nat.div_lt_iff_lt_mul (by omega)]
        rw [Nat.pow_succ 128 (k + 1)] at h
        exact h
      have hd : n / 128 * 128 + n % 128 = n := by omega
      have e1 : n / 128 * 128 ^ (i + 1) + n % 128 * 128 ^ i = n * 128 ^ i := by
        rw [Nat.pow_succ]
        calc n / 128 * (128 ^ i * 128) + n % 128 * 128 ^ i = (n / 128 * 128 + n % 128) * 128 ^ i := by
              rw [Nat.add_mul, Nat.mul_assoc, Nat.mul_comm 128 (128 ^ i)]
          _ = n * 128 ^ i := by rw [hd]
      have hb2 : n / 128 * 128 ^ (i + 1) < 18446744073709551616 := by omega
      rw [uu_pu k _ (i + 1) (n / 128) rest (by omega) h2 (.inr (by omega)) hb2]
      have e2 : (128 + n % 128) % 128 = n % 128 := by omega
      rw [e2]
      have e3 : acc + n % 128 * 128 ^ i + n / 128 * 128 ^ (i + 1) = acc + n * 128 ^ i := by omega
      rw [e3]
      congr 2
      omega

theorem uu_back {n : Nat} (h : n < 18446744073709551616) (rest : List Nat) : uu 0 0 (pu n ++ rest) = (n, (pu n).length, 0) := by
  have := uu_pu 9 0 0 n rest rfl (Nat.lt_of_lt_of_le h (by decide)) (.inl rfl) (by simpa using h)
  simpa using this

/-- none begins another -/
theorem pu_inj {m n : Nat} (hm : m < 18446744073709551616) (hn : n < 18446744073709551616) (h : ∃ r, pu n = pu m ++ r) : m = n := by
  obtain ⟨r, hr⟩ := h
  have h1 := uu_back hm r
  have h2 := uu_back hn []
  rw [List.append_nil, hr, h1] at h2
  exact congrArg Prod.fst h2
end Go.Proofs.YtbdgcfimbblncaaGreatDoor.NumsPlain
end PkMR1_3
section PkMR1_4
/- PutU of package nums, walked: the bytes that it makes are the plain function's, in memory of its own. Condition: the number fits 64 bits. -/
namespace Go.Proofs.YtbdgcfimbblncaaGreatDoor
open Go.RowKit NumsPlain
set_option linter.unusedVariables false

theorem or128_fin : ∀ x : Fin 256, bits .or .u8 ((x.val : Nat) : Int) 128 = ((128 + x.val % 128 : Nat) : Int) := by decide +kernel
theorem or128 (m : Nat) : bits .or .u8 ((m : Int) % 256) 128 = ((128 + m % 128 : Nat) : Int) := by
  have h := or128_fin ⟨m % 256, by omega⟩
  simp only at h
  have e1 : ((m % 256 : Nat) : Int) = (m : Int) % 256 := by omega
  have e2 : m % 256 % 128 = m % 128 := by omega
  rw [e1, e2] at h
  exact h

set_option maxRecDepth 100000 in
set_option maxHeartbeats 1000000 in
theorem putu_any (n : Nat) (hn : n < 18446744073709551616) (w : World) :
    Calls Tryz.prog 77 #[.int .u64 n] w fun e w' => ∃ v, e = .returned v ∧ w'.ownsRow w.heap.size 5 1 v (pu n).length (bv (pu n)) ∧ Below w.heap.size w w' := by
  obtain ⟨i0, hi, hz0, hz1, hz2⟩ := info_parts info_u8
  go_enter Tryz.func77, Tryz.ntmps77
  go_wp2_with (at_make; refine wpList_make_own _ rfl _ _ 30 rfl w.heap.size 5 i0 (.int .u8 0) 1 Tryz.underlying30 hi hz0 hz1 _ _ _ 10 rfl rfl (by omega) ?b2 ?b3 (Nat.le_refl _) ?_)
  case b2 => rw [hz2]; omega
  case b3 => unfold maxLen; omega
  intro w0 hown0 hgrow0
  go_wp2
  go_loopw [0, 3] (fun sn b wr => ∃ (m : Nat) (xs : List Nat), m < 18446744073709551616 ∧ sn = .int .u64 m ∧ wr.ownsRow w.heap.size 5 1 b xs.length (bv xs) ∧ xs ++ pu m = pu n ∧ Below w.heap.size w wr) (fun sn _ _ => (intOf sn).toNat)
  case atStart => exact ⟨n, [], hn, rfl, hown0, rfl, (Below.refl _ _).grown hgrow0 (Nat.le_refl _) (fun k h => by cases h)⟩
  case round =>
    obtain ⟨m, xs, hm, rfl, hown, hx, hnx⟩ := hrel
    have hl : xs.length ≤ 9 := by
      have h1 := congrArg List.length hx
      rw [List.length_append] at h1
      have h2 := pu_pos m
      have h3 := pu_ten hn
      omega
    have hB := hnx.size
    have HX := Lib.hid hx
    have HM := Lib.hid hm
    have HN := Lib.hid hn
    by_cases hlt : m < 128
    · clear hx hm hn
      go_wp2_with (at_builtin; refine wpList_append_own _ rfl (.tmp 15) (.tmp 18) 30 rfl w.heap.size 5 i0 (.int .u8 0) 1 1 Tryz.underlying30 hi hz0 hz1 hz2 rfl (by decide) _ _ _ rfl (hown.alloc _) ⟨wr.heap.size, 0, none⟩ 1 1 [.int .u8 m] rfl rfl ?c1 ?c2 ?c3 ?c4 ?c5 ?_)
      case c1 =>
        intro j u hj
        match j, hj with
        | 0, hj => simp at hj; subst hj; simp [Addr.add]
      case c2 => intro u hu; simp at hu; subst hu; rfl
      case c3 => unfold maxLen; omega
      case c4 => omega
      case c5 => simp; omega
      intro v' w1 hown' hgrow _
      go_wp2
      go_ret
      have hs := pu_small hlt
      have e1 : pu n = xs ++ [m] := by rw [← HX.out, hs]
      refine ⟨v', rfl, ?_, ?_⟩
      · rw [e1]; simpa [bv] using hown'
      · exact (hnx.alloc hnx.size _).grown hgrow (by simp; omega) (fun k hk => (hown.lt k hk).1)
    · clear hx hm hn
      go_wp2_with (at_builtin; refine wpList_append_own _ rfl (.tmp 7) (.tmp 11) 30 rfl w.heap.size 5 i0 (.int .u8 0) 1 1 Tryz.underlying30 hi hz0 hz1 hz2 rfl (by decide) _ _ _ rfl (hown.alloc _) ⟨wr.heap.size, 0, none⟩ 1 1 [.int .u8 (bits .or .u8 ((m : Int) % 256) 128)] rfl rfl ?d1 ?d2 ?d3 ?d4 ?d5 ?_)
      case d1 =>
        intro j u hj
        match j, hj with
        | 0, hj => simp at hj; subst hj; simp [Addr.add]
      case d2 => intro u hu; simp at hu; subst hu; rfl
      case d3 => unfold maxLen; omega
      case d4 => omega
      case d5 => simp; omega
      intro v' w1 hown' hgrow _
      go_wp2
      have hs := pu_big (show 128 ≤ m by omega)
      have hm' := HM.out
      go_roundw
      case rel =>
        refine ⟨m / 128, xs ++ [128 + m % 128], by omega, by go_num, ?_, ?_, ?_⟩
        · rw [or128] at hown'; simpa [bv] using hown'
        · rw [← HX.out, hs]; simp
        · exact (hnx.alloc hnx.size _).grown hgrow (by simp; omega) (fun k hk => (hown.lt k hk).1)
      case measure => simp [intOf]; omega

/-- as a slice of bytes wherever -/
theorem putu (n : Nat) (hn : n < 18446744073709551616) (w : World) :
    Calls Tryz.prog 77 #[.int .u64 n] w fun e w' => ∃ g c, e = .returned (.slice (some ⟨g, 0, none⟩) (pu n).length c) ∧ w.heap.size ≤ g ∧ BytesAt w' (some ⟨g, 0, none⟩) (pu n).length c (pu n) ∧ Below w.heap.size w w' := by
  refine (putu_any n hn w).mono ?_
  rintro e w' ⟨v, rfl, hown, hb⟩
  obtain ⟨g, c, rfl, h1, _, h2⟩ := BytesAt.own hown (pu_bytes hn) (pu_pos n) (by have := pu_ten hn; omega)
  exact ⟨g, c, rfl, h1, h2, hb⟩
end Go.Proofs.YtbdgcfimbblncaaGreatDoor
end PkMR1_4
section PkMR1_5
/- Signed numbers as unsigned ones and back: package nums' Zig, Zag and the document's. Condition: each number fits its 64 bits. -/
namespace Go.Proofs.YtbdgcfimbblncaaGreatDoor
open Go.RowKit
set_option linter.unusedVariables false

theorem xor_ones_u64 (x : Int) : bits .xor .u64 x 18446744073709551615 = IntKind.u64.wrap (-1 - x) := by
  have h : BitVec.ofInt 64 18446744073709551615 = BitVec.allOnes 64 := by decide
  show IntKind.u64.wrap ((BitVec.ofInt 64 x ^^^ BitVec.ofInt 64 18446744073709551615).toNat : Int) = _
  rw [h, BitVec.xor_allOnes, BitVec.toNat_not, BitVec.toNat_ofInt, IntKind.wrap_u64, IntKind.wrap_u64]
  omega
theorem xor_zero_u64 (x : Int) : bits .xor .u64 x 0 = IntKind.u64.wrap x := by
  show IntKind.u64.wrap ((BitVec.ofInt 64 x ^^^ BitVec.ofInt 64 0).toNat : Int) = _
  have h : BitVec.ofInt 64 0 = 0#64 := by decide
  rw [h, BitVec.xor_zero, BitVec.toNat_ofInt, IntKind.wrap_u64, IntKind.wrap_u64]
  omega
theorem xor_ones_i64 (x : Int) : bits .xor .i64 x (-1) = IntKind.i64.wrap (-1 - x) := by
  have h : BitVec.ofInt 64 (-1) = BitVec.allOnes 64 := by decide
  show IntKind.i64.wrap ((BitVec.ofInt 64 x ^^^ BitVec.ofInt 64 (-1)).toNat : Int) = _
  rw [h, BitVec.xor_allOnes, BitVec.toNat_not, BitVec.toNat_ofInt, IntKind.wrap_i64, IntKind.wrap_i64]
  omega
theorem xor_zero_i64 (x : Int) : bits .xor .i64 x 0 = IntKind.i64.wrap x := by
  show IntKind.i64.wrap ((BitVec.ofInt 64 x ^^^ BitVec.ofInt 64 0).toNat : Int) = _
  have h : BitVec.ofInt 64 0 = 0#64 := by decide
  rw [h, BitVec.xor_zero, BitVec.toNat_ofInt, IntKind.wrap_i64, IntKind.wrap_i64]
  omega

/-- a signed number as an unsigned one -/
def zig (m : Int) : Nat := if m < 0 then (2 * -(m + 1) + 1).toNat else (2 * m).toNat
/-- and back -/
def zag (n : Nat) : Int := if n % 2 = 1 then -((n : Int) / 2) - 1 else (n : Int) / 2
theorem zig_neg {m : Int} (h : m < 0) : (zig m : Int) = 2 * -(m + 1) + 1 := by unfold zig; rw [if_pos h]; omega
theorem zig_pos {m : Int} (h : ¬ m < 0) : (zig m : Int) = 2 * m := by unfold zig; rw [if_neg h]; omega
theorem zag_odd {n : Nat} (h : n % 2 = 1) : zag n = -((n : Int) / 2) - 1 := by unfold zag; rw [if_pos h]
theorem zag_even {n : Nat} (h : ¬ n % 2 = 1) : zag n = (n : Int) / 2 := by unfold zag; rw [if_neg h]
theorem zag_zig (m : Int) : zag (zig m) = m := by
  by_cases h : m < 0
  · have h1 := zig_neg h
    rw [zag_odd (by omega), h1]; omega
  · have h1 := zig_pos h
    rw [zag_even (by omega), h1]; omega
theorem zig_lt {m : Int} (hlo : -9223372036854775808 ≤ m) (hhi : m ≤ 9223372036854775807) : zig m < 18446744073709551616 := by
  by_cases h : m < 0
  · have h1 := zig_neg h; omega
  · have h1 := zig_pos h; omega
theorem zag_lo {n : Nat} (h : n < 18446744073709551616) : -9223372036854775808 ≤ zag n := by
  unfold zag; split <;> omega
theorem zag_hi {n : Nat} (h : n < 18446744073709551616) : zag n ≤ 9223372036854775807 := by
  unfold zag; split <;> omega

end Go.Proofs.YtbdgcfimbblncaaGreatDoor
end PkMR1_5
section PkMR1_6
/- PutI and the document's PutU, walked. -/
namespace Go.Proofs.YtbdgcfimbblncaaGreatDoor
open Go.RowKit NumsPlain
set_option linter.unusedVariables false


set_option maxRecDepth 100000 in
set_option maxHeartbeats 1000000 in
theorem rputu_any (n : Nat) (hn : n < 18446744073709551616) (w : World) :
    Calls Tryz.prog 86 #[.int .u64 n] w fun e w' => ∃ v, e = .returned v ∧ w'.ownsRow w.heap.size 5 1 v (pu n).length (bv (pu n)) ∧ Below w.heap.size w w' := by
  obtain ⟨i0, hi, hz0, hz1, hz2⟩ := info_parts info_u8
  have hown0 := World.ownsRow_lit (base := w.heap.size) (e := 5) (size := 1) w #[] 0 (Nat.le_refl _) (by unfold maxLen; omega) rfl
  have h3 := pu_ten hn
  have HN := Lib.hid hn
  clear hn
  go_enter Tryz.func86, Tryz.ntmps86
  go_wp2
  go_loopw [0, 3] (fun sn b wr => ∃ (m : Nat) (xs : List Nat), Hid (m < 18446744073709551616) ∧ sn = .int .u64 m ∧ wr.ownsRow w.heap.size 5 1 b xs.length (bv xs) ∧ Hid (xs ++ pu m = pu n) ∧ Below w.heap.size w wr) (fun sn _ _ => (intOf sn).toNat)
  case atStart => exact ⟨n, [], HN, rfl, hown0, Lib.hid rfl, (Below.refl _ _).alloc (Nat.le_refl _) _⟩
  case round =>
    obtain ⟨m, xs, HM, rfl, hown, HX, hnx⟩ := hrel
    have hl : xs.length ≤ 9 := by
      have h1 := congrArg List.length HX.out
      rw [List.length_append] at h1
      have h2 := pu_pos m
      omega
    have hB := hnx.size
    have hmm : m ≤ 18446744073709551615 := by have := HM.out; omega
    by_cases hlt : m < 128
    · have hq : ¬ (0 : Int) < (m : Int) / 128 := by omega
      go_wp2_with (at_builtin; refine wpList_append_own _ rfl (.tmp 17) (.tmp 20) 30 rfl w.heap.size 5 i0 (.int .u8 0) 1 1 Tryz.underlying30 hi hz0 hz1 hz2 rfl (by decide) _ _ _ rfl (hown.alloc _) ⟨wr.heap.size, 0, none⟩ 1 1 [.int .u8 m] rfl rfl (one_src _ _ _) (one_oneCell rfl) (by unfold maxLen; omega) (by omega) (by simp; omega) ?_)
      intro v' w1 hown' hgrow _
      go_wp2
      go_ret
      have hs := pu_small hlt
      have e1 : pu n = xs ++ [m] := by rw [← HX.out, hs]
      refine ⟨v', rfl, ?_, ?_⟩
      · rw [e1]; simpa [bv] using hown'
      · exact (hnx.alloc hnx.size _).grown hgrow (by simp; omega) (fun k hk => (hown.lt k hk).1)
    · have hq : (0 : Int) < (m : Int) / 128 := by omega
      go_wp2_with (at_builtin; refine wpList_append_own _ rfl (.tmp 8) (.tmp 13) 30 rfl w.heap.size 5 i0 (.int .u8 0) 1 1 Tryz.underlying30 hi hz0 hz1 hz2 rfl (by decide) _ _ _ rfl (hown.alloc _) ⟨wr.heap.size, 0, none⟩ 1 1 [.int .u8 (128 + (m : Int) % 128)] rfl rfl (one_src _ _ _) (one_oneCell rfl) (by unfold maxLen; omega) (by omega) (by simp; omega) ?_)
      intro v' w1 hown' hgrow _
      go_wp2
      have hs := pu_big (show 128 ≤ m by omega)
      have hm' := HM.out
      go_roundw
      case rel =>
        refine ⟨m / 128, xs ++ [128 + m % 128], Lib.hid (by omega), by go_num, ?_, ?_, ?_⟩
        · simpa [bv] using hown'
        · exact Lib.hid (by rw [← HX.out, hs]; simp)
        · exact (hnx.alloc hnx.size _).grown hgrow (by simp; omega) (fun k hk => (hown.lt k hk).1)
      case measure => simp [intOf]; omega

/-- as a slice of bytes wherever -/
theorem rputu (n : Nat) (hn : n < 18446744073709551616) (w : World) :
    Calls Tryz.prog 86 #[.int .u64 n] w fun e w' => ∃ g c, e = .returned (.slice (some ⟨g, 0, none⟩) (pu n).length c) ∧ w.heap.size ≤ g ∧ BytesAt w' (some ⟨g, 0, none⟩) (pu n).length c (pu n) ∧ Below w.heap.size w w' := by
  refine (rputu_any n hn w).mono ?_
  rintro e w' ⟨v, rfl, hown, hb⟩
  obtain ⟨g, c, rfl, h1, _, h2⟩ := BytesAt.own hown (pu_bytes hn) (pu_pos n) (by have := pu_ten hn; omega)
  exact ⟨g, c, rfl, h1, h2, hb⟩
end Go.Proofs.YtbdgcfimbblncaaGreatDoor
end PkMR1_6
section PkMR1_7
/- Package nums' U, walked: at any place of any bytes it answers what the plain function says. -/
namespace Go.Proofs.YtbdgcfimbblncaaGreatDoor
open Go.RowKit NumsPlain
set_option linter.unusedVariables false

/-- what U says of bytes at a place -/
def ru (xs : List Nat) (at_ : Int) : Nat × Nat × Nat := if at_ < 0 then (0, 0, 3) else uu 0 0 (xs.drop at_.toNat)
theorem ru_nat (xs : List Nat) (i : Nat) : ru xs (i : Int) = uu 0 0 (xs.drop i) := by
  unfold ru; rw [if_neg (by omega)]; simp
def ruV (r : Nat × Nat × Nat) : Value := .tuple #[.int .u64 (r.1 : Int), .int .i64 (r.2.1 : Int), .int .i64 (r.2.2 : Int)]

theorem mask127 (x : Nat) (h : x < 256) : bits .and .u8 (x : Int) 127 = ((x % 128 : Nat) : Int) := by
  have := u8_and_nat x 127 h (by omega)
  rw [nat_mask7] at this
  exact this

theorem pow128 (k : Nat) : (128 : Nat) ^ k = 2 ^ (7 * k) := by rw [Nat.pow_mul]

theorem or_step {X k x : Nat} (hX : X < 128 ^ k) (hk : k ≤ 9) (hx : x < 128) (h9 : k = 9 → x ≤ 1) :
    bits .or .u64 (X : Int) (IntKind.u64.wrap ((x : Int) * 2 ^ (7 * k))) = ((X + x * 128 ^ k : Nat) : Int) := by
  have hb : x * 128 ^ k < 18446744073709551616 := by
    rcases Nat.lt_or_ge k 9 with g | g
    · have h1 : 128 ^ k ≤ 128 ^ 8 := Nat.pow_le_pow_right (by omega) (by omega)
      have h2 : x * 128 ^ k ≤ 127 * 128 ^ 8 := Nat.mul_le_mul (by omega) h1
      have h3 : (127 : Nat) * 128 ^ 8 < 18446744073709551616 := by decide
      omega
    · have hk9 : k = 9 := by omega
      have h2 : x * 128 ^ k ≤ 1 * 128 ^ 9 := Nat.mul_le_mul (h9 hk9) (by rw [hk9]; exact Nat.le_refl _)
      have h3 : (1 : Nat) * 128 ^ 9 < 18446744073709551616 := by decide
      omega
  have hXb : X < 18446744073709551616 := by
    have h1 : 128 ^ k ≤ 128 ^ 9 := Nat.pow_le_pow_right (by omega) (by omega)
    have h3 : (128 : Nat) ^ 9 < 18446744073709551616 := by decide
    omega
  have e1 : (x : Int) * 2 ^ (7 * k) = ((x * 128 ^ k : Nat) : Int) := by rw [pow128]; push_cast; rfl
  rw [e1, IntKind.wrap_u64, show ((x * 128 ^ k : Nat) : Int) % 18446744073709551616 = ((x * 128 ^ k : Nat) : Int) from by omega, u64_or_nat X (x * 128 ^ k) hXb hb, Nat.or_comm, nat_join (7 * k) (x * 128 ^ k) X (by rw [pow128]; exact Nat.mul_mod_left _ _) (by rw [← pow128]; exact hX), Nat.add_comm]

set_option maxRecDepth 100000 in
set_option maxHeartbeats 1000000 in
theorem u_any {a : Option Addr} {n c : Nat} {xs : List Nat} {w : World} (h : BytesAt w a n c xs) (at_ : Int) :
    Calls Tryz.prog 140 #[.slice a n c, .int .i64 at_] w fun e w' => e = .returned (ruV (ru xs at_)) ∧ w = w' := by
  have hlen := h.len
  have hcap := h.cap
  have hcm := h.capm
  have hrm := h.reach
  by_cases hneg : at_ < 0
  · have hr : ru xs at_ = (0, 0, 3) := by unfold ru; rw [if_pos hneg]
    have HR := Lib.hid hr
    clear hr h
    have d1 : decide (at_ < 0) = true := by simp; omega
    go_enter Tryz.func140, Tryz.ntmps140
    go_wp2_with fail
    go_ret3
    exact ⟨by rw [HR.out]; rfl, rfl⟩
  · obtain ⟨i, rfl⟩ := Int.eq_ofNat_of_zero_le (show 0 ≤ at_ by omega)
    by_cases hin : i < n
    · obtain ⟨b, off, rfl, _, hcell⟩ := h.cells (by omega)
      have hbyte := h.byte
      have HC := Lib.hid hcell
      have HB := Lib.hid hbyte
      clear h hcell hbyte
      go_enter Tryz.func140, Tryz.ntmps140
      go_wp2_with fail
      go_loop [7, 22] (fun sx si => ∃ k X : Nat, k ≤ n - i ∧ k ≤ 9 ∧ si = .int .i64 k ∧ sx = .int .u64 X ∧ Hid (X < 128 ^ k) ∧ Hid (ru xs (i : Int) = uu X k (xs.drop (i + k)))) (fun _ si => n - i - (intOf si).toNat)
      case atStart => exact ⟨0, 0, by omega, by omega, rfl, rfl, Lib.hid (by simp), Lib.hid (ru_nat xs i)⟩
      case round =>
        obtain ⟨k, X, hk, hk9, rfl, rfl, HX, HU⟩ := hrel
        by_cases hkn : k < n - i
        · have hc0 := HC.out (i + k) (by omega)
          obtain ⟨x, hx⟩ : ∃ x, x = xs.getD (i + k) 0 := ⟨_, rfl⟩
          have hx256 : x < 256 := by
            have h1 : i + k < xs.length := by omega
            rw [hx]
            have : xs.getD (i + k) 0 = xs[i + k] := by simp [h1]
            rw [this]
            exact HB.out _ (List.getElem_mem h1)
          rw [← hx, ← Nat.add_assoc] at hc0
          have hd : xs.drop (i + k) = x :: xs.drop (i + k + 1) := by
            have h1 : i + k < xs.length := by omega
            rw [List.drop_eq_getElem_cons h1, hx]; simp [h1]
          have hu := HU.out
          rw [hd] at hu
          simp only [uu] at hu
          have hm := mask127 x hx256
          have hX := HX.out
          clear HU hx
          have hdd : xs.drop (i + k + 1) = xs.drop (i + (k + 1)) := by rw [Nat.add_assoc]
          by_cases h9 : k = 9
          · have q9 : ((k : Int) == 9) = true := by rw [beq_iff_eq]; omega
            by_cases hx1 : 1 < x
            · have hr : ru xs (i : Int) = (0, 0, 4) := by rw [hu, if_pos ⟨h9, hx1⟩]
              have HR := Lib.hid hr
              clear hu hd hX hr hdd h9
              go_wp2_with fail
              go_ret3
              exact ⟨by rw [HR.out]; rfl, rfl⟩
            · by_cases hx0 : x = 0
              · have hr : ru xs (i : Int) = (0, 0, 4) := by rw [hu, if_neg (by omega), if_neg (by omega), if_pos ⟨hx0, by omega⟩]
                have z0 : ((x : Int) == 0) = true := by rw [beq_iff_eq]; omega
                have p0 : (0 : Int) < (k : Int) := by omega
                have HR := Lib.hid hr
                clear hu hd hX hr hdd h9 hx0
                go_wp2_with fail
                go_ret3
                exact ⟨by rw [HR.out]; rfl, rfl⟩
              · have hr : ru xs (i : Int) = (X + x % 128 * 128 ^ k, k + 1, 0) := by rw [hu, if_neg (by omega), if_neg (by omega), if_neg (by omega)]
                have z0 : ((x : Int) == 0) = false := by rw [beq_eq_false_iff_ne]; omega
                have ho := or_step hX hk9 (show x % 128 < 128 by omega) (fun _ => by omega)
                have HR := Lib.hid hr
                have HO := Lib.hid ho
                clear hu hd hX hr hdd h9 ho
                go_wp2_with fail
                go_ret3
                exact ⟨by rw [HR.out]; simp only [ruV, ← HO.out]; rfl, rfl⟩
          · have q9 : ((k : Int) == 9) = false := by rw [beq_eq_false_iff_ne]; omega
            have ho := or_step hX hk9 (show x % 128 < 128 by omega) (fun e => absurd e h9)
            have HO := Lib.hid ho
            by_cases h128 : 128 ≤ x
            · have hr : ru xs (i : Int) = uu (X + x % 128 * 128 ^ k) (k + 1) (xs.drop (i + (k + 1))) := by rw [hu, if_neg (by omega), if_pos h128, hdd]
              have HR := Lib.hid hr
              have hXn : X + x % 128 * 128 ^ k < 128 ^ (k + 1) := by
                have h1 : x % 128 * 128 ^ k ≤ 127 * 128 ^ k := Nat.mul_le_mul_right _ (by omega)
                have h2 : (128 : Nat) ^ (k + 1) = 128 ^ k * 128 := Nat.pow_succ ..
                omega
              have HXn := Lib.hid hXn
              clear hu hd hX hr hdd ho hXn
              go_wp2_with fail
              go_round
              case rel => exact ⟨k + 1, X + x % 128 * 128 ^ k, by omega, by omega, by go_num, by rw [← HO.out]; rfl, HXn, HR⟩
              case measure => simp [intOf]; omega
            · by_cases hx0 : x = 0
              · have z0 : ((x : Int) == 0) = true := by rw [beq_iff_eq]; omega
                by_cases hk0 : 0 < k
                · have hr : ru xs (i : Int) = (0, 0, 4) := by rw [hu, if_neg (by omega), if_neg (by omega), if_pos ⟨hx0, hk0⟩]
                  have HR := Lib.hid hr
                  clear hu hd hX hr hdd hx0 ho
                  go_wp2_with fail
                  go_ret3
                  exact ⟨by rw [HR.out]; rfl, rfl⟩
                · have hr : ru xs (i : Int) = (X + x % 128 * 128 ^ k, k + 1, 0) := by rw [hu, if_neg (by omega), if_neg (by omega), if_neg (by omega)]
                  have HR := Lib.hid hr
                  clear hu hd hX hr hdd hx0 ho
                  go_wp2_with fail
                  go_ret3
                  exact ⟨by rw [HR.out]; simp only [ruV, ← HO.out]; rfl, rfl⟩
              · have z0 : ((x : Int) == 0) = false := by rw [beq_eq_false_iff_ne]; omega
                have hr : ru xs (i : Int) = (X + x % 128 * 128 ^ k, k + 1, 0) := by rw [hu, if_neg (by omega), if_neg (by omega), if_neg (by omega)]
                have HR := Lib.hid hr
                clear hu hd hX hr hdd ho
                go_wp2_with fail
                go_ret3
                exact ⟨by rw [HR.out]; simp only [ruV, ← HO.out]; rfl, rfl⟩
        · have hr : ru xs (i : Int) = (0, 0, 3) := by
            rw [HU.out, List.drop_eq_nil_of_le (by omega)]; rfl
          have HR := Lib.hid hr
          clear hr HU
          go_wp2_with fail
          go_ret3
          exact ⟨by rw [HR.out]; rfl, rfl⟩
    · have hr : ru xs (i : Int) = (0, 0, 3) := by
        unfold ru; rw [if_neg hneg]
        simp only [Int.toNat_natCast]
        rw [List.drop_eq_nil_of_le (by omega)]; rfl
      have HR := Lib.hid hr
      clear hr h
      go_enter Tryz.func140, Tryz.ntmps140
      go_wp2_with fail
      go_ret3
      exact ⟨by rw [HR.out]; rfl, rfl⟩
end Go.Proofs.YtbdgcfimbblncaaGreatDoor
end PkMR1_7
section PkMR1_8
/- The document's U, walked: at any place of any bytes it answers what the plain function says. -/
namespace Go.Proofs.YtbdgcfimbblncaaGreatDoor
open Go.RowKit NumsPlain
set_option linter.unusedVariables false

namespace NumsPlain
/-- the value of the first k digits -/
def val (ys : List Nat) : Nat → Nat
  | 0 => 0
  | k + 1 => val ys k + ys.getD k 0 % 128 * 128 ^ k
theorem val_lt (ys : List Nat) : ∀ k, val ys k < 128 ^ k
  | 0 => by simp [val]
  | k + 1 => by
    have h := val_lt ys k
    have h1 : ys.getD k 0 % 128 * 128 ^ k ≤ 127 * 128 ^ k := Nat.mul_le_mul_right _ (by omega)
    have h2 : (128 : Nat) ^ (k + 1) = 128 ^ k * 128 := Nat.pow_succ ..
    simp only [val]
    omega
theorem val_u64 (ys : List Nat) (k : Nat) (hk : k ≤ 9) (h9 : k = 9 → ys.getD k 0 ≤ 1) : val ys (k + 1) < 18446744073709551616 := by
  rcases Nat.lt_or_ge k 9 with g | g
  · have h := val_lt ys (k + 1)
    have h1 : (128 : Nat) ^ (k + 1) ≤ 128 ^ 9 := Nat.pow_le_pow_right (by omega) (by omega)
    have h3 : (128 : Nat) ^ 9 < 18446744073709551616 := by decide
    omega
  · obtain rfl : k = 9 := by omega
    have h := val_lt ys 9
    have h1 := h9 rfl
    have h3 : (128 : Nat) ^ 9 = 9223372036854775808 := by decide
    simp only [val] at h ⊢
    rw [h3] at h ⊢
    have h2 : ys.getD 9 0 % 128 * 9223372036854775808 ≤ 1 * 9223372036854775808 := Nat.mul_le_mul_right _ (by omega)
    omega
end NumsPlain

theorem rest_step {N n d j v vj : Nat} (h : n * 128 ^ (j + 1) + vj = v) (hj : vj = N + d * 128 ^ j) (hv : v < 18446744073709551616) : n * 128 + d < 18446744073709551616 ∧ (n * 128 + d) * 128 ^ j + N = v := by
  have e1 : n * 128 ^ (j + 1) = n * 128 * 128 ^ j := by rw [Nat.pow_succ, Nat.mul_comm (128 ^ j) 128, Nat.mul_assoc]
  have e2 : (n * 128 + d) * 128 ^ j = n * 128 * 128 ^ j + d * 128 ^ j := Nat.add_mul ..
  have hp : 1 ≤ 128 ^ j := Nat.one_le_pow _ _ (by omega)
  have e3 : n * 128 + d ≤ (n * 128 + d) * 128 ^ j := Nat.le_mul_of_pos_right _ (by omega)
  constructor
  · omega
  · omega

set_option maxRecDepth 100000 in
set_option maxHeartbeats 4000000 in
theorem ru_any {a : Option Addr} {n c : Nat} {xs : List Nat} {w : World} (h : BytesAt w a n c xs) (at_ : Int) :
    Calls Tryz.prog 120 #[.slice a n c, .int .i64 at_] w fun e w' => e = .returned (ruV (ru xs at_)) ∧ w = w' := by
  have hlen := h.len
  have hcap := h.cap
  have hcm := h.capm
  have hrm := h.reach
  by_cases hneg : at_ < 0
  · have hr : ru xs at_ = (0, 0, 3) := by unfold ru; rw [if_pos hneg]
    have HR := Lib.hid hr
    clear hr h
    have d1 : decide (at_ < 0) = true := by simp; omega
    go_enter Tryz.func120, Tryz.ntmps120
    go_wp2_with fail
    go_ret3
    exact ⟨by rw [HR.out]; rfl, rfl⟩
  · obtain ⟨i, rfl⟩ := Int.eq_ofNat_of_zero_le (show 0 ≤ at_ by omega)
    by_cases hin : i < n
    · obtain ⟨b, off, rfl, _, hcell⟩ := h.cells (by omega)
      have hbyte := h.byte
      have HC := Lib.hid hcell
      have HB := Lib.hid hbyte
      clear h hcell hbyte
      have hget : ∀ k, k < n - i → xs.getD (i + k) 0 < 256 := by
        intro k hk
        have h1 : i + k < xs.length := by omega
        have : xs.getD (i + k) 0 = xs[i + k] := by simp [h1]
        rw [this]
        exact HB.out _ (List.getElem_mem h1)
      have hdr : ∀ k, (xs.drop i).getD k 0 = xs.getD (i + k) 0 := by intro k; simp [List.getD]
      have HG := Lib.hid hget
      have HDR := Lib.hid hdr
      have HLEN := Lib.hid hlen
      clear hget hdr hlen
      go_enter Tryz.func120, Tryz.ntmps120
      go_wp2_with fail
      go_loop [7] (fun sk => ∃ k : Nat, k ≤ n - i ∧ k ≤ 9 ∧ sk = .int .i64 k ∧ Hid (ru xs (i : Int) = uu (val (xs.drop i) k) k (xs.drop (i + k)))) (fun sk => n - i - (intOf sk).toNat)
      case atStart => exact ⟨0, by omega, by omega, rfl, Lib.hid (ru_nat xs i)⟩
      case round =>
        obtain ⟨k, hk, hk9, rfl, HU⟩ := hrel
        by_cases hkn : k < n - i
        · have hc0 := HC.out (i + k) (by omega)
          obtain ⟨x, hx⟩ : ∃ x, x = xs.getD (i + k) 0 := ⟨_, rfl⟩
          have hx256 : x < 256 := by rw [hx]; exact HG.out k hkn
          rw [← hx] at hc0
          have hd : xs.drop (i + k) = x :: xs.drop (i + (k + 1)) := by
            have h1 : i + k < xs.length := by have := HLEN.out; omega
            rw [List.drop_eq_getElem_cons h1, hx]; simp [h1, Nat.add_assoc]
          have hu := HU.out
          rw [hd] at hu
          simp only [uu] at hu
          have hv : val (xs.drop i) (k + 1) = val (xs.drop i) k + x % 128 * 128 ^ k := by simp only [val]; rw [HDR.out k, ← hx]
          have HV := Lib.hid hv
          have HX := Lib.hid hx
          clear HU hx hd hv
          by_cases h9 : k = 9
          · have q9 : ((k : Int) == 9) = true := by rw [beq_iff_eq]; omega
            have l9 : ¬ (k : Int) < 9 := by omega
            by_cases hx1 : 1 < x
            · have hr : ru xs (i : Int) = (0, 0, 4) := by rw [hu, if_pos ⟨h9, hx1⟩]
              have HR := Lib.hid hr
              clear hu hr h9
              go_wp2_with fail
              go_ret3
              exact ⟨by rw [HR.out]; rfl, rfl⟩
            · by_cases hx0 : x = 0
              · have hr : ru xs (i : Int) = (0, 0, 4) := by rw [hu, if_neg (by omega), if_neg (by omega), if_pos ⟨hx0, by omega⟩]
                have z0 : ((x : Int) == 0) = true := by rw [beq_iff_eq]; omega
                have p0 : (0 : Int) < (k : Int) := by omega
                have HR := Lib.hid hr
                clear hu hr h9 hx0
                go_wp2_with fail
                go_ret3
                exact ⟨by rw [HR.out]; rfl, rfl⟩
              · have z0 : ((x : Int) == 0) = false := by rw [beq_eq_false_iff_ne]; omega
                have p0 : (0 : Int) < (k : Int) := by omega
                have hr : ru xs (i : Int) = (val (xs.drop i) (k + 1), k + 1, 0) := by rw [hu, if_neg (by omega), if_neg (by omega), if_neg (by omega), HV.out]
                have hvu := val_u64 (xs.drop i) k hk9 (fun e => by rw [HDR.out k, ← HX.out]; omega)
                have HR := Lib.hid hr
                have HVU := Lib.hid hvu
                clear hu hr hvu h9
                go_wp2_with fail
                go_loop [9, 10] (fun sn sj => ∃ (m j : Nat), j ≤ k + 1 ∧ sj = .int .i64 ((j : Int) - 1) ∧ sn = .int .u64 m ∧ Hid (m * 128 ^ j + val (xs.drop i) j = val (xs.drop i) (k + 1))) (fun _ sj => (intOf sj + 1).toNat)
                case atStart => exact ⟨0, k + 1, by omega, by go_num, rfl, Lib.hid (by simp)⟩
                case round =>
                  obtain ⟨m, j, hj, rfl, rfl, HS⟩ := hrel
                  rcases j with _ | j
                  · have hs := HS.out
                    have hs2 : m = val (xs.drop i) (k + 1) := by simpa [val] using hs
                    have HS2 := Lib.hid hs2
                    clear hs hs2 HS
                    go_wp2_with fail
                    go_ret3
                    exact ⟨by rw [HR.out, ← HS2.out]; rfl, rfl⟩
                  · have hcj := HC.out (i + j) (by omega)
                    obtain ⟨y, hy⟩ : ∃ y, y = xs.getD (i + j) 0 := ⟨_, rfl⟩
                    have hy256 : y < 256 := by rw [hy]; exact HG.out j (by omega)
                    have hst := rest_step (N := val (xs.drop i) j) (d := y % 128) HS.out (by simp only [val]; rw [HDR.out j, ← hy]) HVU.out
                    rw [← hy] at hcj
                    have hb1 : (m : Int) * 128 + (y : Int) % 128 ≤ 18446744073709551615 := by have := hst.1; omega
                    have HST := Lib.hid hst.2
                    clear hst hy HS
                    go_wp2_with fail
                    go_round
                    case rel => exact ⟨m * 128 + y % 128, j, by omega, by go_num, by go_num, HST⟩
                    case measure => simp [intOf]
          · have q9 : ((k : Int) == 9) = false := by rw [beq_eq_false_iff_ne]; omega
            have l9 : (k : Int) < 9 := by omega
            by_cases h128 : 128 ≤ x
            · have hr : ru xs (i : Int) = uu (val (xs.drop i) (k + 1)) (k + 1) (xs.drop (i + (k + 1))) := by rw [hu, if_neg (by omega), if_pos h128, HV.out]
              have HR := Lib.hid hr
              clear hu hr
              go_wp2_with fail
              go_round
              case rel => exact ⟨k + 1, by omega, by omega, by go_num, HR⟩
              case measure => simp [intOf]; omega
            · by_cases hx0 : x = 0
              · have z0 : ((x : Int) == 0) = true := by rw [beq_iff_eq]; omega
                by_cases hk0 : 0 < k
                · have hr : ru xs (i : Int) = (0, 0, 4) := by rw [hu, if_neg (by omega), if_neg (by omega), if_pos ⟨hx0, hk0⟩]
                  have HR := Lib.hid hr
                  clear hu hr hx0
                  go_wp2_with fail
                  go_ret3
                  exact ⟨by rw [HR.out]; rfl, rfl⟩
                · have p0 : ¬ (0 : Int) < (k : Int) := by omega
                  have hr : ru xs (i : Int) = (val (xs.drop i) (k + 1), k + 1, 0) := by rw [hu, if_neg (by omega), if_neg (by omega), if_neg (by omega), HV.out]
                  have hvu := val_u64 (xs.drop i) k hk9 (fun e => by rw [HDR.out k, ← HX.out]; omega)
                  have HR := Lib.hid hr
                  have HVU := Lib.hid hvu
                  clear hu hr hvu hx0
                  go_wp2_with fail
                  go_loop [9, 10] (fun sn sj => ∃ (m j : Nat), j ≤ k + 1 ∧ sj = .int .i64 ((j : Int) - 1) ∧ sn = .int .u64 m ∧ Hid (m * 128 ^ j + val (xs.drop i) j = val (xs.drop i) (k + 1))) (fun _ sj => (intOf sj + 1).toNat)
                  case atStart => exact ⟨0, k + 1, by omega, by go_num, rfl, Lib.hid (by simp)⟩
                  case round =>
                    obtain ⟨m, j, hj, rfl, rfl, HS⟩ := hrel
                    rcases j with _ | j
                    · have hs := HS.out
                      have hs2 : m = val (xs.drop i) (k + 1) := by simpa [val] using hs
                      have HS2 := Lib.hid hs2
                      clear hs hs2 HS
                      go_wp2_with fail
                      go_ret3
                      exact ⟨by rw [HR.out, ← HS2.out]; rfl, rfl⟩
                    · have hcj := HC.out (i + j) (by omega)
                      obtain ⟨y, hy⟩ : ∃ y, y = xs.getD (i + j) 0 := ⟨_, rfl⟩
                      have hy256 : y < 256 := by rw [hy]; exact HG.out j (by omega)
                      have hst := rest_step (N := val (xs.drop i) j) (d := y % 128) HS.out (by simp only [val]; rw [HDR.out j, ← hy]) HVU.out
                      rw [← hy] at hcj
                      have hb1 : (m : Int) * 128 + (y : Int) % 128 ≤ 18446744073709551615 := by have := hst.1; omega
                      have HST := Lib.hid hst.2
                      clear hst hy HS
                      go_wp2_with fail
                      go_round
                      case rel => exact ⟨m * 128 + y % 128, j, by omega, by go_num, by go_num, HST⟩
                      case measure => simp [intOf]
              · have z0 : ((x : Int) == 0) = false := by rw [beq_eq_false_iff_ne]; omega
                by_cases hk0 : 0 < k
                · have p0 : (0 : Int) < (k : Int) := by omega
                  have hr : ru xs (i : Int) = (val (xs.drop i) (k + 1), k + 1, 0) := by rw [hu, if_neg (by omega), if_neg (by omega), if_neg (by omega), HV.out]
                  have hvu := val_u64 (xs.drop i) k hk9 (fun e => by rw [HDR.out k, ← HX.out]; omega)
                  have HR := Lib.hid hr
                  have HVU := Lib.hid hvu
                  clear hu hr hvu
                  go_wp2_with fail
                  go_loop [9, 10] (fun sn sj => ∃ (m j : Nat), j ≤ k + 1 ∧ sj = .int .i64 ((j : Int) - 1) ∧ sn = .int .u64 m ∧ Hid (m * 128 ^ j + val (xs.drop i) j = val (xs.drop i) (k + 1))) (fun _ sj => (intOf sj + 1).toNat)
                  case atStart => exact ⟨0, k + 1, by omega, by go_num, rfl, Lib.hid (by simp)⟩
                  case round =>
                    obtain ⟨m, j, hj, rfl, rfl, HS⟩ := hrel
                    rcases j with _ | j
                    · have hs := HS.out
                      have hs2 : m = val (xs.drop i) (k + 1) := by simpa [val] using hs
                      have HS2 := Lib.hid hs2
                      clear hs hs2 HS
                      go_wp2_with fail
                      go_ret3
                      exact ⟨by rw [HR.out, ← HS2.out]; rfl, rfl⟩
                    · have hcj := HC.out (i + j) (by omega)
                      obtain ⟨y, hy⟩ : ∃ y, y = xs.getD (i + j) 0 := ⟨_, rfl⟩
                      have hy256 : y < 256 := by rw [hy]; exact HG.out j (by omega)
                      have hst := rest_step (N := val (xs.drop i) j) (d := y % 128) HS.out (by simp only [val]; rw [HDR.out j, ← hy]) HVU.out
                      rw [← hy] at hcj
                      have hb1 : (m : Int) * 128 + (y : Int) % 128 ≤ 18446744073709551615 := by have := hst.1; omega
                      have HST := Lib.hid hst.2
                      clear hst hy HS
                      go_wp2_with fail
                      go_round
                      case rel => exact ⟨m * 128 + y % 128, j, by omega, by go_num, by go_num, HST⟩
                      case measure => simp [intOf]
                · have p0 : ¬ (0 : Int) < (k : Int) := by omega
                  have hr : ru xs (i : Int) = (val (xs.drop i) (k + 1), k + 1, 0) := by rw [hu, if_neg (by omega), if_neg (by omega), if_neg (by omega), HV.out]
                  have hvu := val_u64 (xs.drop i) k hk9 (fun e => by rw [HDR.out k, ← HX.out]; omega)
                  have HR := Lib.hid hr
                  have HVU := Lib.hid hvu
                  clear hu hr hvu
                  go_wp2_with fail
                  go_loop [9, 10] (fun sn sj => ∃ (m j : Nat), j ≤ k + 1 ∧ sj = .int .i64 ((j : Int) - 1) ∧ sn = .int .u64 m ∧ Hid (m * 128 ^ j + val (xs.drop i) j = val (xs.drop i) (k + 1))) (fun _ sj => (intOf sj + 1).toNat)
                  case atStart => exact ⟨0, k + 1, by omega, by go_num, rfl, Lib.hid (by simp)⟩
                  case round =>
                    obtain ⟨m, j, hj, rfl, rfl, HS⟩ := hrel
                    rcases j with _ | j
                    · have hs := HS.out
                      have hs2 : m = val (xs.drop i) (k + 1) := by simpa [val] using hs
                      have HS2 := Lib.hid hs2
                      clear hs hs2 HS
                      go_wp2_with fail
                      go_ret3
                      exact ⟨by rw [HR.out, ← HS2.out]; rfl, rfl⟩
                    · have hcj := HC.out (i + j) (by omega)
                      obtain ⟨y, hy⟩ : ∃ y, y = xs.getD (i + j) 0 := ⟨_, rfl⟩
                      have hy256 : y < 256 := by rw [hy]; exact HG.out j (by omega)
                      have hst := rest_step (N := val (xs.drop i) j) (d := y % 128) HS.out (by simp only [val]; rw [HDR.out j, ← hy]) HVU.out
                      rw [← hy] at hcj
                      have hb1 : (m : Int) * 128 + (y : Int) % 128 ≤ 18446744073709551615 := by have := hst.1; omega
                      have HST := Lib.hid hst.2
                      clear hst hy HS
                      go_wp2_with fail
                      go_round
                      case rel => exact ⟨m * 128 + y % 128, j, by omega, by go_num, by go_num, HST⟩
                      case measure => simp [intOf]
        · have hr : ru xs (i : Int) = (0, 0, 3) := by
            rw [HU.out, List.drop_eq_nil_of_le (i := i + k) (by have := HLEN.out; omega)]; rfl
          have HR := Lib.hid hr
          clear hr HU
          by_cases h9 : (k : Int) < 9
          all_goals
            go_wp2_with fail
            go_ret3
            exact ⟨by rw [HR.out]; rfl, rfl⟩
    · have hr : ru xs (i : Int) = (0, 0, 3) := by
        rw [ru_nat, List.drop_eq_nil_of_le (by omega)]; rfl
      have HR := Lib.hid hr
      clear hr h
      go_enter Tryz.func120, Tryz.ntmps120
      go_wp2_with fail
      go_ret3
      exact ⟨by rw [HR.out]; rfl, rfl⟩
end Go.Proofs.YtbdgcfimbblncaaGreatDoor
end PkMR1_8
section PkMR1_9
/- What is read fits; PutI's reader I, walked; what is read is written so. -/
namespace Go.Proofs.YtbdgcfimbblncaaGreatDoor
open Go.RowKit NumsPlain
set_option linter.unusedVariables false

theorem uu_lt : ∀ (l : List Nat) (acc i : Nat), i ≤ 9 → acc < 128 ^ i → (uu acc i l).1 < 18446744073709551616
  | [], _, _, _, _ => by simp [uu]
  | x :: xs, acc, i, hi, ha => by
    have h2 : (128 : Nat) ^ (i + 1) = 128 ^ i * 128 := Nat.pow_succ ..
    have h1 : x % 128 * 128 ^ i ≤ 127 * 128 ^ i := Nat.mul_le_mul_right _ (by omega)
    have h3 : (128 : Nat) ^ 9 = 9223372036854775808 := by decide
    simp only [uu]
    split
    · simp
    · rename_i hn
      rcases Nat.lt_or_ge i 9 with g | g
      · have h4 : (128 : Nat) ^ (i + 1) ≤ 128 ^ 9 := Nat.pow_le_pow_right (by omega) (by omega)
        split
        · exact uu_lt xs _ (i + 1) (by omega) (by omega)
        · split
          · simp
          · simp only; omega
      · obtain rfl : i = 9 := by omega
        rw [h3] at *
        have h5 : x % 128 * 9223372036854775808 ≤ 1 * 9223372036854775808 := Nat.mul_le_mul_right _ (by omega)
        split
        · omega
        · split
          · simp
          · simp only; omega

theorem uu_err : ∀ (l : List Nat) (acc i : Nat), (uu acc i l).2.2 ≠ 0 → (uu acc i l).1 = 0
  | [], _, _, _ => by simp [uu]
  | x :: xs, acc, i, h => by
    revert h
    simp only [uu]
    split
    · simp
    · split
      · exact uu_err xs _ _
      · split
        · simp
        · simp

theorem ru_lt (xs : List Nat) (at_ : Int) : (ru xs at_).1 < 18446744073709551616 := by
  unfold ru; split
  · simp
  · exact uu_lt _ 0 0 (by omega) (by simp)
theorem ru_err (xs : List Nat) (at_ : Int) (h : (ru xs at_).2.2 ≠ 0) : (ru xs at_).1 = 0 := by
  revert h
  unfold ru; split
  · simp
  · exact uu_err _ 0 0



/-- what is read is written so -/
theorem uu_conv : ∀ (l : List Nat) (acc i v j : Nat), (∀ x ∈ l, x < 256) → uu acc i l = (v, j, 0) → ∃ k n, j = i + k ∧ k ≤ l.length ∧ v = acc + n * 128 ^ i ∧ l.take k = pu n ∧ (i = 0 ∨ 0 < n)
  | [], _, _, _, _, _, h => by simp [uu] at h
  | x :: xs, acc, i, v, j, hb, h => by
    have hx := hb x (by simp)
    simp only [uu] at h
    split at h
    · simp at h
    · split at h
      · rename_i h128
        obtain ⟨k, n, rfl, hk, rfl, ht, hn⟩ := uu_conv xs _ _ v j (fun y hy => hb y (by simp [hy])) h
        have hn' : 0 < n := by omega
        refine ⟨k + 1, x % 128 + 128 * n, by omega, by simp; omega, ?_, ?_, by omega⟩
        · rw [Nat.pow_succ, Nat.add_mul, Nat.mul_comm 128 n, Nat.mul_assoc n 128, Nat.mul_comm 128 (128 ^ i)]; omega
        · rw [List.take_succ_cons, ht, pu_big (show 128 ≤ x % 128 + 128 * n by omega)]
          have e1 : (x % 128 + 128 * n) / 128 = n := by omega
          have e2 : 128 + (x % 128 + 128 * n) % 128 = x := by omega
          rw [e1, e2]
      · split at h
        · simp at h
        · simp only [Prod.mk.injEq, and_true] at h
          obtain ⟨rfl, rfl⟩ := h
          refine ⟨1, x, by omega, by simp, ?_, ?_, by omega⟩
          · rw [Nat.mod_eq_of_lt (by omega)]
          · rw [pu_small (by omega)]; simp

theorem ru_conv {xs : List Nat} {v j : Nat} (hb : ∀ x ∈ xs, x < 256) (h : ru xs 0 = (v, j, 0)) : j ≤ xs.length ∧ xs.take j = pu v := by
  rw [show (0 : Int) = ((0 : Nat) : Int) from rfl, ru_nat] at h
  simp only [List.drop_zero] at h
  obtain ⟨k, n, rfl, hk, rfl, ht, _⟩ := uu_conv xs 0 0 v j hb h
  simp only [Nat.zero_add, Nat.pow_zero, Nat.mul_one] at *
  exact ⟨hk, ht⟩

theorem ru_back {n : Nat} (h : n < 18446744073709551616) (r : List Nat) : ru (pu n ++ r) 0 = (n, (pu n).length, 0) := by
  rw [show (0 : Int) = ((0 : Nat) : Int) from rfl, ru_nat]
  simpa using uu_back h r

end Go.Proofs.YtbdgcfimbblncaaGreatDoor
end PkMR1_9
