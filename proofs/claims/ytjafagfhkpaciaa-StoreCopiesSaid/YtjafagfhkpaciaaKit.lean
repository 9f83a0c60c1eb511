/- Small words for walks over slices of bytes: a slice of bytes wherever it lies, kept behind calls that leave old memory alone; its text; two of them compared. No condition beyond what each lemma names. -/
import Derived.Test.YtjafagfhkpaciaaRows
import Derived.WalkKit
import Derived.Lib.Hide
import Derived.Laws.BytesArg
import Derived.Lib.SlBytesRow
import Derived.Outline
import Derived.Laws.Strings
import Derived.Laws.AppendOwnNone
namespace Go.Proofs.Ytjafagfhkpaciaa
open Go.RowKit
set_option linter.unusedVariables false

theorem info_u8 : (Try.prog.info? 5).map (fun i => (i.zero, i.size, i.bytes)) = some (some (.int .u8 0), 1, 1) := by kernel_rfl

/-- bytes as values -/
def bv (l : List Nat) : List Value := l.map fun (x : Nat) => Value.int .u8 (x : Int)
theorem bv_length (l : List Nat) : (bv l).length = l.length := by simp [bv]
theorem bv_append (l r : List Nat) : bv (l ++ r) = bv l ++ bv r := by simp [bv]
theorem bv_get (l : List Nat) (i : Nat) (h : i < l.length) : (bv l)[i]? = some (Value.int .u8 ((l.getD i 0 : Nat) : Int)) := by simp [bv, h]
theorem bv_oneCell (l : List Nat) : ∀ u ∈ bv l, u.oneCell' = true := by
  intro u hu
  simp only [bv, List.mem_map] at hu
  obtain ⟨x, _, rfl⟩ := hu
  rfl

theorem one_oneCell {v : Value} (h : v.oneCell' = true) : ∀ u ∈ [v], u.oneCell' = true := by
  intro u hu
  simp at hu
  subst hu
  exact h

theorem one_src (w : World) (x : Value) (t : TypeId) : ∀ j u, [x][j]? = some u → (w.alloc (.cells #[x] t)).cell? ((⟨w.heap.size, 0, none⟩ : Addr).add j) = some u := by
  intro j u hj
  match j, hj with
  | 0, hj =>
    simp at hj
    subst hj
    simp [Addr.add]

/-- a slice of bytes: whatever its address where it has none -/
structure BytesAt (w : World) (a : Option Addr) (n c : Nat) (xs : List Nat) : Prop where
  len : xs.length = n
  cap : n ≤ c
  byte : ∀ x ∈ xs, x < 256
  reach : n ≤ 140737488351232
  capm : c ≤ 9223372036854775807
  nl : a = none → c = 0
  cells : 0 < n → ∃ b off, a = some ⟨b, off, none⟩ ∧ b < w.heap.size ∧ ∀ i, i < n → w.cell? ⟨b, off + i, none⟩ = some (.int .u8 ((xs.getD i 0 : Nat) : Int))

theorem BytesAt.keep {w w' : World} {a : Option Addr} {n c : Nat} {xs : List Nat} (h : BytesAt w a n c xs) {B : Nat} (hb : Below B w w') (hB : w.heap.size ≤ B) : BytesAt w' a n c xs :=
  ⟨h.len, h.cap, h.byte, h.reach, h.capm, h.nl, fun hn => by
    obtain ⟨b, off, ha, hlt, hc⟩ := h.cells hn
    exact ⟨b, off, ha, Nat.lt_of_lt_of_le hlt hb.size, fun i hi => (hb.cell (p := ⟨b, off + i, none⟩) (Nat.lt_of_lt_of_le hlt hB)).trans (hc i hi)⟩⟩

theorem BytesAt.kept {w w' : World} {a : Option Addr} {n c : Nat} {xs : List Nat} (h : BytesAt w a n c xs) (hb : Below w.heap.size w w') : BytesAt w' a n c xs := h.keep hb (Nat.le_refl _)
theorem BytesAt.alloc {w : World} {a : Option Addr} {n c : Nat} {xs : List Nat} (h : BytesAt w a n c xs) (o : Obj) : BytesAt (w.alloc o) a n c xs := h.kept ((Below.refl _ _).alloc (Nat.le_refl _) o)

theorem BytesAt.empty (w : World) (a : Option Addr) (c : Nat) (hc : c ≤ 9223372036854775807) (ha : a = none → c = 0) : BytesAt w a 0 c [] :=
  ⟨rfl, Nat.zero_le _, (fun x hx => by cases hx), Nat.zero_le _, hc, ha, fun h => absurd h (Nat.lt_irrefl 0)⟩

theorem BytesAt.upto {w : World} {a : Option Addr} {n c : Nat} {xs : List Nat} (h : BytesAt w a n c xs) (k : Nat) (hk : k ≤ n) : BytesAt w a k c (xs.take k) := by
  have hl := h.len
  have hc := h.cap
  have hr := h.reach
  refine ⟨by simp; omega, by omega, fun x hx => h.byte x (List.mem_of_mem_take hx), by omega, h.capm, h.nl, fun hp => ?_⟩
  obtain ⟨b, off, ha, hlt, hcell⟩ := h.cells (by omega)
  refine ⟨b, off, ha, hlt, fun i hi => ?_⟩
  rw [hcell i (by omega)]
  have : i < xs.length := by omega
  simp [hi]

theorem BytesAt.src {w : World} {ad : Addr} {n c : Nat} {xs : List Nat} (h : BytesAt w (some ad) n c xs) : ∀ j u, (bv xs)[j]? = some u → w.cell? (ad.add j) = some u := by
  intro j u hj
  have hlt : j < xs.length := by
    rcases Nat.lt_or_ge j xs.length with g | g
    · exact g
    · rw [List.getElem?_eq_none (by rw [bv_length]; exact g)] at hj; cases hj
  have hl := h.len
  obtain ⟨b, off, ha, _, hc⟩ := h.cells (by omega)
  cases ha
  have h4 : (⟨b, off, none⟩ : Addr).add j = ⟨b, off + j, none⟩ := by unfold Addr.add; split <;> simp_all
  rw [h4, hc j (by omega), ← bv_get xs j hlt, hj]

/-- what the call owns -/
theorem BytesAt.own {w : World} {base n : Nat} {v : Value} {xs : List Nat} (h : w.ownsRow base 5 1 v n (bv xs)) (hb : ∀ x ∈ xs, x < 256) (hp : 0 < n) (hr : n ≤ 140737488351232) :
    ∃ g c, v = .slice (some ⟨g, 0, none⟩) n c ∧ base ≤ g ∧ g < w.heap.size ∧ BytesAt w (some ⟨g, 0, none⟩) n c xs := by
  rcases h.2 with ⟨_, h0⟩ | ⟨g, cap, cur, rfl, hg, hh, hn, hcap, hsz, htake⟩
  · omega
  · have hlt : g < w.heap.size := (Array.getElem?_eq_some_iff.1 hh).1
    have hl : xs.length = n := by have := h.1; simpa [bv_length] using this
    refine ⟨g, cap, rfl, hg, hlt, hl, hn, hb, hr, (by unfold maxLen at hcap; exact hcap), (fun e => by cases e), fun _ => ⟨g, 0, rfl, hlt, fun i hi => ?_⟩⟩
    have := h.cellAt i (by omega)
    rw [Nat.zero_add, this, bv_get _ _ (by omega)]

/-- bytes written out in a new block -/
theorem BytesAt.lit (w : World) (cs : Array Value) (l : List Nat) (hcs : cs.toList = bv l) (hl : ∀ x ∈ l, x < 256) (hp : 0 < l.length) (hr : l.length ≤ 140737488351232) :
    BytesAt (w.alloc (.cells cs 5)) (some ⟨w.heap.size, 0, none⟩) l.length l.length l := by
  have hsz : cs.size = l.length := by rw [← Array.length_toList, hcs, bv_length]
  have h := World.ownsRow_lit (base := w.heap.size) (e := 5) (size := 1) w cs l.length (Nat.le_refl _) (by unfold maxLen; omega) (by omega)
  rw [hcs] at h
  obtain ⟨g, c, hv, _, _, hb⟩ := BytesAt.own h hl hp hr
  simp only [Value.slice.injEq, Option.some.injEq, Addr.mk.injEq, and_true, true_and] at hv
  obtain ⟨rfl, rfl⟩ := hv
  exact hb

/-- append of bytes, wherever they lie, to bytes that the call owns -/
theorem wpList_append_bytes {w : World} {ops : Array Oper} {rest : List Oper} {o : Oper} {a : Act} {Q : Exit → Act → World → Prop} (hgd : o.guard = none) (s x : Operand)
    (ho : o.op = .call { callee := .builtin .append, args := #[s, x], argTypes := #[27, 27] })
    (base : Nat) (v : Value) (n : Nat) (xs : List Nat) (hs : a.eval s = v) (hown : w.ownsRow base 5 1 v n (bv xs))
    (src : Option Addr) (m c : Nat) (ys : List Nat) (hx : a.eval x = .slice src m c) (hb : BytesAt w src m c ys)
    (h63 : n + m ≤ 140737488355328) (hbase : base ≤ w.heap.size)
    (h : ∀ v' w', w'.ownsRow base 5 1 v' (n + m) (bv (xs ++ ys)) → w.grownBy w' v.ownBlock → wpList Try.prog ops Q rest (a.put o.dst v') w') : wpList Try.prog ops Q (o :: rest) a w := by
  obtain ⟨i0, hi, hz0, hz1, hz2⟩ := info_parts info_u8
  rcases src with _ | ad
  · have hc := hb.nl rfl
    have hm : m = 0 := by have := hb.cap; omega
    subst hm
    subst hc
    have hy : ys = [] := List.eq_nil_of_length_eq_zero hb.len
    subst hy
    refine wpList_append_own_none hgd s x 27 ho base 5 i0 1 Try.underlying27 hi v n (bv xs) hs hown hx ?_
    exact h v w (by simpa using hown) (World.grownBy.refl _ _)
  · refine wpList_append_own w hgd s x 27 ho base 5 i0 (.int .u8 0) 1 1 Try.underlying27 hi hz0 hz1 hz2 rfl (by decide) v n (bv xs) hs hown ad m c (bv ys) hx (by rw [bv_length, hb.len]; omega) hb.src (bv_oneCell _) (by unfold maxLen; omega) (by omega) hbase ?_
    intro v' w' h1 h2 _
    exact h v' w' (by rw [bv_append]; exact h1) h2

/-- the text of bytes -/
def bs (xs : List Nat) : ByteArray := strOfNums (xs.map fun (x : Nat) => (x : Int))

theorem bs_inj {xs ys : List Nat} (hx : ∀ x ∈ xs, x < 256) (hy : ∀ y ∈ ys, y < 256) (h : (bs xs).data.toList = (bs ys).data.toList) : xs = ys := by
  have e : ∀ l : List Nat, (∀ x ∈ l, x < 256) → (bs l).data.toList.map UInt8.toNat = l := by
    intro l hl
    simp only [bs, strOfNums_data, List.map_map]
    conv => rhs; rw [← List.map_id l]
    apply List.map_congr_left
    intro x hx
    have := hl x hx
    simp [Nat.mod_eq_of_lt this]
  rw [← e xs hx, ← e ys hy, h]

theorem bs_toList (xs : List Nat) : (bs xs).toList = (bs xs).data.toList := ByteArray.toList_eq _
theorem bs_eq {xs ys : List Nat} (hx : ∀ x ∈ xs, x < 256) (hy : ∀ y ∈ ys, y < 256) : ((bs xs).toList == (bs ys).toList) = (xs == ys) := by
  rw [Bool.eq_iff_iff]
  simp only [beq_iff_eq, bs_toList]
  exact ⟨fun h => bs_inj hx hy h, fun h => by rw [h]⟩

theorem BytesAt.conv {w : World} {a : Option Addr} {n c : Nat} {xs : List Nat} (h : BytesAt w a n c xs) :
    (convert 27 9 (.slice a n c)).run Try.prog w = .ok (.string (bs xs)) w := by
  rcases Nat.eq_zero_or_pos n with h0 | hp
  · subst h0
    have hx : xs = [] := List.eq_nil_of_length_eq_zero h.len
    subst hx
    rw [run_convert_bytes_string w 27 9 5 _ 0 c Try.underlying27 Try.underlying5 Try.underlying9]
    cases a <;> simp [Conv.bytesToString, loadCells] <;> rfl
  · obtain ⟨b, off, rfl, _, hc⟩ := h.cells hp
    exact run_convert_bytes_arg (P := Try.prog) w 27 5 Try.underlying27 Try.underlying5 b off n c (xs.map fun (x : Nat) => (x : Int)) (by simpa using h.len) (fun i hi => by
      rw [hc i hi]
      have : i < xs.length := by have := h.len; omega
      simp [this]) 9 Try.underlying9


/-- what a walk is told of a slice of integers that came in: nil; or it leads to a row of 'cap' cells, the numbers 'zs', each fitting its kind; it takes at most the reach -/
def IsRow (k : IntKind) (sz : Nat) (w : World) (a : Option Addr) (len cap : Nat) (zs : List Int) : Prop :=
  (a = none ∧ len = 0 ∧ cap = 0 ∧ zs = []) ∨
  ∃ x, a = some x ∧ len ≤ cap ∧ cap ≤ maxLen ∧ zs.length = cap ∧ (∀ i, i < zs.length → w.cell? (x.add i) = some (.int k (zs.getD i 0))) ∧ (∀ n ∈ zs, (Lit.int k n).wf = true) ∧ cap * sz ≤ 140737488351232

theorem byte_of_wf {n : Int} (h : (Lit.int .u8 n).wf = true) : 0 ≤ n ∧ n ≤ 255 := by
  simpa [Lit.wf, IntKind.min, IntKind.max, IntKind.signed, IntKind.bits] using h

theorem IsRow.bytes {w : World} {a : Option Addr} {len cap : Nat} {zs : List Int} (h : IsRow .u8 1 w a len cap zs) : ∃ xs : List Nat, BytesAt w a len cap xs := by
  rcases h with ⟨rfl, rfl, rfl, rfl⟩ | ⟨x, rfl, hl, hm, hz, hcell, hwz, hr⟩
  · exact ⟨[], BytesAt.empty w none 0 (by omega) (fun _ => rfl)⟩
  · refine ⟨(zs.take len).map Int.toNat, by simp; omega, hl, ?_, by omega, by omega, (fun e => by cases e), fun hp => ?_⟩
    · intro y hy
      simp only [List.mem_map] at hy
      obtain ⟨z, hzm, rfl⟩ := hy
      have := byte_of_wf (hwz z (List.mem_of_mem_take hzm))
      omega
    · obtain ⟨b, off, spot⟩ := x
      have hc := hcell 0 (by omega)
      have hspot : spot = none := by simpa [Addr.add] using World.cell?_spot hc
      subst hspot
      refine ⟨b, off, rfl, ?_, fun i hi => ?_⟩
      · have := World.block_lt_of_cell? w _ hc
        simpa [Addr.add] using this
      · have h1 := hcell i (by omega)
        have h2 : i < zs.length := by omega
        have h3 := byte_of_wf (hwz zs[i] (List.getElem_mem h2))
        have h4 : (⟨b, off, none⟩ : Addr).add i = ⟨b, off + i, none⟩ := by unfold Addr.add; split <;> simp_all
        rw [h4] at h1
        rw [h1]
        have e1 : zs.getD i 0 = zs[i] := by simp [h2]
        have e2 : (((zs.take len).map Int.toNat).getD i 0 : Nat) = zs[i].toNat := by
          simp [h2, hi]
        rw [e1, e2]
        congr 2
        omega
end Go.Proofs.Ytjafagfhkpaciaa
