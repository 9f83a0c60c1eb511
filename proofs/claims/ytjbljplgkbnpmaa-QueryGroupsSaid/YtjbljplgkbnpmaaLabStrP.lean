/- Put together out of XLabStrs, XLabTwicePlain. -/
import Derived.Test.YtjbljplgkbnpmaaLabTwin
import Derived.SliceStrings
section SecLabStrP0
/- Slices of strings; slices.Contains, and package label's and the reference's Part, walked. -/
namespace Go.Proofs.Ytjbljplgkbnpmaa
open Go.RowKit LabPlain Go.ChangeShapes Go.WideShapes
set_option linter.unusedVariables false

structure StrsAt (w : World) (a : Option Addr) (n c : Nat) (ss : List ByteArray) : Prop where
  len : ss.length = n
  cap : n ≤ c
  capm : c ≤ 9223372036854775807
  nl : a = none → c = 0
  cells : 0 < n → ∃ b off, a = some ⟨b, off, none⟩ ∧ b < w.heap.size ∧ ∀ i, i < n → w.cell? ⟨b, off + i, none⟩ = some (.string (ss.getD i ByteArray.empty))
theorem StrsAt.keep {w w' : World} {a : Option Addr} {n c : Nat} {ss : List ByteArray} (h : StrsAt w a n c ss) {B : Nat} (hb : Below B w w') (hB : w.heap.size ≤ B) : StrsAt w' a n c ss :=
  ⟨h.len, h.cap, h.capm, h.nl, fun hn => by
    obtain ⟨b, off, ha, hlt, hc⟩ := h.cells hn
    exact ⟨b, off, ha, Nat.lt_of_lt_of_le hlt hb.size, fun i hi => (hb.cell (p := ⟨b, off + i, none⟩) (Nat.lt_of_lt_of_le hlt hB)).trans (hc i hi)⟩⟩
theorem StrsAt.kept {w w' : World} {a : Option Addr} {n c : Nat} {ss : List ByteArray} (h : StrsAt w a n c ss) (hb : Below w.heap.size w w') : StrsAt w' a n c ss := h.keep hb (Nat.le_refl _)
theorem StrsAt.empty (w : World) (a : Option Addr) (c : Nat) (hc : c ≤ 9223372036854775807) (ha : a = none → c = 0) : StrsAt w a 0 c [] :=
  ⟨rfl, Nat.zero_le _, hc, ha, fun h => absurd h (Nat.lt_irrefl 0)⟩
theorem open_strs {H : Type} {enc : TypeId × Value → H} {W : World} {fuel : Nat} {a : Option Addr} {len cap : Nat} {x : DataW H × List MemPlace}
    (hf : DataW.trod enc Try.prog W 0 (fun _ => true) true fuel 36 [.slice a len cap] = some x) : ∃ z : List ByteArray, StrsAt W a len cap z := by
  rcases open_strings Try.underlying36 Try.underlying9 (by kernel_rfl) hf with ⟨hcs, _⟩ | ⟨x0, l, c, ss, hcs, _, hl, hm, hlen, _, hc, _⟩
  · simp at hcs
    obtain ⟨rfl, rfl, rfl⟩ := hcs
    exact ⟨[], StrsAt.empty W none 0 (by omega) (fun _ => rfl)⟩
  · simp at hcs
    obtain ⟨rfl, rfl, rfl⟩ := hcs
    have hlen2 : ss.length = cap := by simpa using hlen
    refine ⟨ss.take len, by rw [List.length_take]; omega, hl, by unfold maxLen at hm; exact hm, (fun e => by cases e), fun hp => ?_⟩
    obtain ⟨b, off, spot⟩ := x0
    have hc0 := hc 0 (by omega)
    have hspot : spot = none := by simpa [Addr.add] using World.cell?_spot hc0
    subst hspot
    have h4 : ∀ (b off j : Nat), (⟨b, off, none⟩ : Addr).add j = ⟨b, off + j, none⟩ := by intro b off j; unfold Addr.add; split <;> simp_all
    refine ⟨b, off, rfl, ?_, fun i hi => ?_⟩
    · have := World.block_lt_of_cell? W _ hc0
      simpa [Addr.add] using this
    · have h1 := hc i (by omega)
      rw [h4] at h1
      rw [h1, List.getD_eq_getElem?_getD, List.getD_eq_getElem?_getD, List.getElem?_take_of_lt hi]

/-- is a text among them? -/
def memB (ss : List ByteArray) (x : ByteArray) : Bool := ss.any fun y => decide (y = x)
theorem memB_yes {ss : List ByteArray} {x : ByteArray} {k : Nat} (hk : k < ss.length) (h : ss.getD k ByteArray.empty = x) : memB ss x = true := by
  unfold memB
  rw [List.any_eq_true]
  refine ⟨ss[k], List.getElem_mem hk, decide_eq_true ?_⟩
  simpa [hk] using h
theorem memB_no {ss : List ByteArray} {x : ByteArray} (h : ∀ i, i < ss.length → ss.getD i ByteArray.empty ≠ x) : memB ss x = false := by
  unfold memB
  rw [List.any_eq_false]
  intro y hy
  obtain ⟨i, hi, rfl⟩ := List.getElem_of_mem hy
  have := h i hi
  simpa [hi] using this

set_option maxRecDepth 100000 in
set_option maxHeartbeats 1000000 in
theorem sindex_any {w : World} {a : Option Addr} {n c : Nat} {ss : List ByteArray} (h : StrsAt w a n c ss) (x : ByteArray) :
    Calls Try.prog 96 #[.slice a n c, .string x] w fun e w' => ∃ r : Int, e = .returned (.int .i64 r) ∧ decide (0 ≤ r) = memB ss x ∧ w' = w := by
  have hcap := h.cap
  have hcm := h.capm
  have HH := Lib.hid h
  have HL := Lib.hid h.len
  clear h
  go_enter Try.func96, Try.ntmps96
  go_wp2_with fail
  go_loopw [8] (fun s8 wr => ∃ k : Nat, k ≤ n ∧ s8 = .int .i64 (k : Int) ∧ Hid (∀ i, i < k → ss.getD i ByteArray.empty ≠ x) ∧ wr = w) (fun s8 _ => n - (intOf s8).toNat)
  case atStart => exact ⟨0, by omega, rfl, Lib.hid (fun i hi => absurd hi (Nat.not_lt_zero _)), rfl⟩
  case round =>
    obtain ⟨k, hk, rfl, HU, rfl⟩ := hrel
    by_cases hkn : k < n
    · obtain ⟨b, off, rfl, hlt, hcell⟩ := HH.out.cells (by omega)
      have h1 := hcell k hkn
      obtain ⟨y, hy⟩ : ∃ y, y = ss.getD k ByteArray.empty := ⟨_, rfl⟩
      rw [← hy] at h1
      have HY := Lib.hid hy
      clear hcell hy
      have hkni : (k : Int) < (n : Int) := by omega
      have hk0 : (0 : Int) ≤ (k : Int) := by omega
      by_cases he : x = y
      · have hq : (x.toList == y.toList) = true := by rw [eq_toList]; exact decide_eq_true he
        have HR := Lib.hid (show decide ((0 : Int) ≤ (k : Int)) = memB ss x by rw [decide_eq_true hk0, memB_yes (k := k) (by have := HL.out; omega) (by rw [← HY.out, he])])
        clear he
        go_wp2_with fail
        go_ret
        exact ⟨_, rfl, HR.out, rfl⟩
      · have hq : (x.toList == y.toList) = false := by rw [eq_toList]; exact decide_eq_false he
        have HU2 := Lib.hid (show ∀ i, i < k + 1 → ss.getD i ByteArray.empty ≠ x from fun i hi => by
          rcases Nat.lt_or_ge i k with g | g
          · exact HU.out i g
          · obtain rfl : i = k := by omega
            rw [← HY.out]; exact fun e => he e.symm)
        clear he
        go_wp2_with fail
        go_roundw
        case rel => exact ⟨k + 1, by omega, by go_num, HU2, trivial⟩
        case measure => simp [intOf]; omega
    · obtain rfl : k = n := by omega
      have HR := Lib.hid (show decide ((0 : Int) ≤ -1) = memB ss x by rw [memB_no (by rw [HL.out]; exact HU.out)]; rfl)
      clear hkn
      go_wp2_with fail
      go_ret
      exact ⟨_, rfl, HR.out, rfl⟩
theorem scontains_any {w : World} {a : Option Addr} {n c : Nat} {ss : List ByteArray} (h : StrsAt w a n c ss) (x : ByteArray) :
    Calls Try.prog 71 #[.slice a n c, .string x] w fun e w' => e = .returned (.bool (memB ss x)) ∧ w' = w := by
  have HP := Lib.hid (sindex_any h x)
  go_enter Try.func71, Try.ntmps71
  go_wp2_with fail
  refine HP.out.mono ?_
  rintro e w2 ⟨r, rfl, hr, rfl⟩
  have HR := Lib.hid hr
  clear hr
  go_wp2_with fail
  go_ret
  rw [← HR.out]; exact ⟨rfl, rfl⟩

/-- the labels of some names, out of the first k -/
def partTo (l : List Lab) (ss : List ByteArray) : Nat → List Lab
  | 0 => []
  | k + 1 => partTo l ss k ++ (if memB ss (l.getD k lab0).1 then [l.getD k lab0] else [])
theorem partTo_len (l : List Lab) (ss : List ByteArray) : ∀ k, (partTo l ss k).length ≤ k
  | 0 => Nat.le_refl _
  | k + 1 => by
    have := partTo_len l ss k
    rw [partTo, List.length_append]
    split <;> simp <;> omega
theorem partTo_mem (l : List Lab) (ss : List ByteArray) : ∀ k, k ≤ l.length → ∀ x ∈ partTo l ss k, x ∈ l
  | 0, _, x, h => by cases h
  | k + 1, hk, x, h => by
    rw [partTo] at h
    rcases List.mem_append.1 h with h | h
    · exact partTo_mem l ss k (by omega) x h
    · split at h
      · rw [List.mem_singleton] at h; rw [h]; exact lab_mem (by omega)
      · cases h
theorem lcells_append (l m : List Lab) : lcells (l ++ m) = lcells l ++ lcells m := by unfold lcells; rw [List.flatMap_append]

theorem two_src (w : World) (x y : Value) (t : TypeId) : ∀ j u, ([x, y] : List Value)[j]? = some u → (w.alloc (.cells #[x, y] t)).cell? ((⟨w.heap.size, 0, none⟩ : Addr).add j) = some u := by
  intro j u hj
  have hblk := heap_alloc_new w (.cells #[x, y] t)
  have hadd : (⟨w.heap.size, 0, none⟩ : Addr).add j = ⟨w.heap.size, 0 + j, none⟩ := by unfold Addr.add; split <;> simp_all
  rw [hadd, Nat.zero_add, cell_of_row _ _ _ _ _ (0, 0) hblk, ← hj]
  simp
set_option maxRecDepth 100000 in
set_option maxHeartbeats 1000000 in
theorem part_big {w : World} {a b : Option Addr} {n c m d : Nat} {l : List Lab} {ss : List ByteArray} (h : LabsAt w a n c l) (h' : StrsAt w b m d ss) (hn : n * 32 ≤ 140737488355328) :
    Calls Try.prog 25 #[.slice a n c, .slice b m d] w fun e w' => ∃ a' c', e = .returned (.slice a' (partTo l ss n).length c') ∧ LabsAt w' a' (partTo l ss n).length c' (partTo l ss n) ∧ Below w.heap.size w w' ∧ w'.ownsRow w.heap.size 41 2 (.slice a' (partTo l ss n).length c') (partTo l ss n).length (lcells (partTo l ss n)) := by
  obtain ⟨i0, hi, hz0, hz1, hz2⟩ := info_parts lab_info
  have HO0 := Lib.hid (World.ownsRow_nil w w.heap.size 41 2)
  have hcap := h.cap
  have hcm := h.capm
  have HH := Lib.hid h
  have HS := Lib.hid h'
  have HL := Lib.hid h.len
  clear h h'
  go_enter Try.func25, Try.ntmps25
  go_wp2_with fail
  go_loopw [5, 10] (fun s5 s10 wr => ∃ (k m cp : Nat) (a : Option Addr), k ≤ n ∧ s10 = .int .i64 (k : Int) ∧ s5 = .slice a m cp ∧ Hid (m = (partTo l ss k).length) ∧ Hid (wr.ownsRow w.heap.size 41 2 (.slice a m cp) m (lcells (partTo l ss k))) ∧ Hid (Below w.heap.size w wr)) (fun _ s10 _ => n - (intOf s10).toNat)
  case atStart => exact ⟨0, 0, 0, none, by omega, rfl, rfl, Lib.hid rfl, HO0, Lib.hid (Below.refl _ _)⟩
  case round =>
    clear HO0
    obtain ⟨k, m', cp, a', hk, rfl, rfl, HM, HO, HB⟩ := hrel
    rename World => wr
    by_cases hkn : k < n
    · obtain ⟨b1, off, rfl, hlt, hcell⟩ := (HH.out.kept HB.out).cells (by omega)
      obtain ⟨h1, h2⟩ := hcell k hkn
      obtain ⟨x1, hx1⟩ : ∃ x, x = (l.getD k lab0).1 := ⟨_, rfl⟩
      obtain ⟨x2, hx2⟩ : ∃ x, x = (l.getD k lab0).2 := ⟨_, rfl⟩
      rw [← hx1] at h1
      rw [← hx2] at h2
      have HX := Lib.hid (show l.getD k lab0 = (x1, x2) by rw [hx1, hx2])
      have hm3 : (m' + 1) * 32 ≤ 140737488355328 := by have := partTo_len l ss k; have := HM.out; omega
      have hbs := HB.out.size
      obtain ⟨bx, hbx⟩ : ∃ bx, bx = wr.heap.size := ⟨_, rfl⟩
      obtain ⟨w2, hw2⟩ : ∃ w2, w2 = wr.alloc (.cells #[.string x1, .string x2] 41) := ⟨_, rfl⟩
      have HB2 := Lib.hid (show Below w.heap.size w w2 by rw [hw2]; exact HB.out.alloc HB.out.size _)
      have HO2 := Lib.hid (show w2.ownsRow w.heap.size 41 2 (.slice a' m' cp) m' (lcells (partTo l ss k)) by rw [hw2]; exact HO.out.alloc _)
      have hblk : w2.heap[bx]? = some (.cells #[.string x1, .string x2] 41 (0, 0)) := by rw [hw2, hbx]; exact heap_alloc_new wr _
      have e1 : w2.cell? ⟨bx, 0, none⟩ = some (.string x1) := by rw [cell_of_row w2 bx 0 _ _ (0, 0) hblk]; rfl
      have e2 : w2.cell? ⟨bx, 1, none⟩ = some (.string x2) := by rw [cell_of_row w2 bx 1 _ _ (0, 0) hblk]; rfl
      have HW2 := Lib.hid hw2
      have HBX := Lib.hid hbx
      have hbs2 := HB2.out.size
      clear hw2 hbx hblk
      have HC := Lib.hid (scontains_any (HS.out.kept HB2.out) x1)
      clear hx1 hx2 hcell
      cases hm : memB ss x1 with
      | false =>
        have HP := Lib.hid (show partTo l ss (k + 1) = partTo l ss k by rw [partTo, HX.out, hm]; simp)
        have HN := Lib.hid hm
        clear hm
        go_wp2_with fail
        rw [← HW2.out, ← HBX.out]
        refine HC.out.mono ?_
        rw [HN.out]
        rintro e w2 ⟨rfl, rfl⟩
        go_wp2_with fail
        go_roundw
        case rel => exact ⟨k + 1, m', cp, _, by omega, by go_num, rfl, Lib.hid (by rw [HP.out]; exact HM.out), Lib.hid (by rw [HP.out]; exact HO2.out), HB2⟩
        case measure => simp [intOf]; omega
      | true =>
        have HP := Lib.hid (show partTo l ss (k + 1) = partTo l ss k ++ [(x1, x2)] by rw [partTo, HX.out, hm]; simp)
        have HN := Lib.hid hm
        clear hm
        go_wp2_with fail
        rw [← HW2.out, ← HBX.out]
        refine HC.out.mono ?_
        rw [HN.out]
        rintro e w3 ⟨rfl, rfl⟩
        have HB3 := Lib.hid (HB2.out.alloc HB2.out.size (.cells #[.string x1, .string x2] 41))
        have HO3 := Lib.hid (HO2.out.alloc (.cells #[.string x1, .string x2] 41))
        go_wp2_with (at_builtin; refine wpList_append_own_at _ rfl (.tmp 18) (.tmp 20) 22 rfl w.heap.size 41 i0 _ 2 32 Try.underlying22 hi hz0 hz1 hz2 rfl (by decide) _ _ _ rfl HO3.out ⟨w3.heap.size, 0, none⟩ 1 1 [.string x1, .string x2] rfl rfl (two_src _ _ _ _) (lcells_one [(x1, x2)]) (by unfold maxLen; omega) (by omega) (by simp; omega) ?_)
        intro v4 w4 ho4 hg4 _ _
        obtain ⟨g4, c4, rfl⟩ := own_some2 ho4 (by omega)
        have HB4 := Lib.hid (below_own HB3.out HO3.out hg4 (Nat.le_refl _) (by simp; omega))
        have HO4 := Lib.hid ho4
        clear ho4 hg4
        go_wp2_with fail
        go_roundw
        case rel => exact ⟨k + 1, m' + 1, c4, _, by omega, by go_num, rfl, Lib.hid (by rw [HP.out, List.length_append, ← HM.out]; rfl), Lib.hid (by rw [HP.out, lcells_append]; exact HO4.out), HB4⟩
        case measure => simp [intOf]; omega
    · obtain rfl : k = n := by omega
      have hp : ∀ x ∈ partTo l ss k, x.1.size ≤ 140737488355328 ∧ x.2.size ≤ 140737488355328 := fun x hx => HH.out.size x (partTo_mem l ss k (by rw [HL.out]; exact Nat.le_refl _) x hx)
      obtain rfl : m' = (partTo l ss k).length := HM.out
      obtain ⟨a9, c9, he9, hat⟩ := LabsAt.ofOwn HO.out rfl hp
      simp only [Value.slice.injEq, true_and] at he9
      obtain ⟨rfl, rfl⟩ := he9
      have HAT := Lib.hid hat
      clear hkn hat hp
      go_wp2_with fail
      go_ret
      exact ⟨_, _, rfl, HAT.out, HB.out, HO.out⟩
theorem part_any {w : World} {a b : Option Addr} {n c m d : Nat} {l : List Lab} {ss : List ByteArray} (h : LabsAt w a n c l) (h' : StrsAt w b m d ss) (hn : n ≤ 1000) :
    Calls Try.prog 25 #[.slice a n c, .slice b m d] w fun e w' => ∃ a' c', e = .returned (.slice a' (partTo l ss n).length c') ∧ LabsAt w' a' (partTo l ss n).length c' (partTo l ss n) ∧ Below w.heap.size w w' ∧ w'.ownsRow w.heap.size 41 2 (.slice a' (partTo l ss n).length c') (partTo l ss n).length (lcells (partTo l ss n)) := part_big h h' (by omega)
end Go.Proofs.Ytjbljplgkbnpmaa
end SecLabStrP0
section SecLabStrP1
/- Parting labels twice, plainly; the part of a set is a set. -/
namespace Go.Proofs.Ytjbljplgkbnpmaa
open LabPlain
set_option linter.unusedVariables false

theorem memB_iff (ss : List ByteArray) (z : ByteArray) : memB ss z = true ↔ z ∈ ss := by
  unfold memB
  rw [List.any_eq_true]
  exact ⟨fun ⟨y, hy, h⟩ => by rw [← of_decide_eq_true h]; exact hy, fun h => ⟨z, h, decide_eq_true rfl⟩⟩
theorem mem_getD (ss : List ByteArray) (z : ByteArray) : z ∈ ss ↔ ∃ i, i < ss.length ∧ z = ss.getD i ByteArray.empty := by
  constructor
  · intro h
    obtain ⟨i, hi, rfl⟩ := List.getElem_of_mem h
    exact ⟨i, hi, by simp [hi]⟩
  · rintro ⟨i, hi, rfl⟩
    have : ss.getD i ByteArray.empty = ss[i] := by simp [hi]
    rw [this]; exact List.getElem_mem hi
def inTo (x : ByteArray) (bs : List ByteArray) : Nat → List ByteArray
  | 0 => []
  | j + 1 => inTo x bs j ++ (if x = bs.getD j ByteArray.empty then [x] else [])
def outTo (us bs : List ByteArray) : Nat → List ByteArray
  | 0 => []
  | i + 1 => outTo us bs i ++ inTo (us.getD i ByteArray.empty) bs bs.length
theorem inTo_len (x : ByteArray) (bs : List ByteArray) : ∀ j, (inTo x bs j).length ≤ j
  | 0 => Nat.le_refl _
  | j + 1 => by
    have := inTo_len x bs j
    rw [inTo, List.length_append]
    split <;> simp <;> omega
theorem outTo_len (us bs : List ByteArray) : ∀ i, (outTo us bs i).length ≤ bs.length * i
  | 0 => Nat.le_refl _
  | i + 1 => by
    have := outTo_len us bs i
    have h2 := inTo_len (us.getD i ByteArray.empty) bs bs.length
    rw [outTo, List.length_append, Nat.mul_succ]; omega
theorem in_mem (x z : ByteArray) (bs : List ByteArray) : ∀ j, z ∈ inTo x bs j ↔ z = x ∧ ∃ i, i < j ∧ x = bs.getD i ByteArray.empty
  | 0 => ⟨fun h => (by cases h), fun ⟨_, i, hi, _⟩ => absurd hi (Nat.not_lt_zero _)⟩
  | j + 1 => by
    rw [inTo, List.mem_append, in_mem x z bs j]
    constructor
    · rintro (⟨rfl, i, hi, he⟩ | h)
      · exact ⟨rfl, i, by omega, he⟩
      · split at h
        · rename_i he; rw [List.mem_singleton] at h; exact ⟨h, j, by omega, he⟩
        · cases h
    · rintro ⟨rfl, i, hi, he⟩
      rcases Nat.lt_or_ge i j with g | g
      · exact .inl ⟨rfl, i, g, he⟩
      · obtain rfl : i = j := by omega
        right; rw [if_pos he]; exact List.mem_singleton.2 rfl
theorem out_mem (z : ByteArray) (us bs : List ByteArray) : ∀ i, z ∈ outTo us bs i ↔ ∃ k, k < i ∧ z ∈ inTo (us.getD k ByteArray.empty) bs bs.length
  | 0 => ⟨fun h => (by cases h), fun ⟨i, hi, _⟩ => absurd hi (Nat.not_lt_zero _)⟩
  | i + 1 => by
    rw [outTo, List.mem_append, out_mem z us bs i]
    constructor
    · rintro (⟨k, hk, he⟩ | h)
      · exact ⟨k, by omega, he⟩
      · exact ⟨i, by omega, h⟩
    · rintro ⟨k, hk, he⟩
      rcases Nat.lt_or_ge k i with g | g
      · exact .inl ⟨k, g, he⟩
      · obtain rfl : k = i := by omega
        exact .inr he
theorem both_mem (us bs : List ByteArray) (z : ByteArray) : memB (outTo us bs us.length) z = (memB us z && memB bs z) := by
  rw [Bool.eq_iff_iff, Bool.and_eq_true, memB_iff, memB_iff, memB_iff, out_mem]
  constructor
  · rintro ⟨k, hk, h⟩
    obtain ⟨h1, i, hi, h2⟩ := (in_mem _ _ _ _).1 h
    exact ⟨(mem_getD _ _).2 ⟨k, hk, h1⟩, (mem_getD _ _).2 ⟨i, hi, by rw [h1]; exact h2⟩⟩
  · rintro ⟨h1, h2⟩
    obtain ⟨k, hk, h1⟩ := (mem_getD _ _).1 h1
    obtain ⟨i, hi, h2⟩ := (mem_getD _ _).1 h2
    exact ⟨k, hk, (in_mem _ _ _ _).2 ⟨h1, i, hi, by rw [← h1]; exact h2⟩⟩
theorem partTo_filter (l : List Lab) (ss : List ByteArray) : ∀ k, k ≤ l.length → partTo l ss k = (l.take k).filter (fun x => memB ss x.1)
  | 0, _ => by simp [partTo]
  | k + 1, hk => by
    have hg : l.getD k lab0 = l[k]'hk := by simp [show k < l.length from hk]
    rw [partTo, partTo_filter l ss k (by omega), List.take_succ_eq_append_getElem hk, List.filter_append, hg]
    congr 1
    cases h : memB ss (l[k]'hk).1 <;> simp [h]
theorem part_filter (l : List Lab) (ss : List ByteArray) : partTo l ss l.length = l.filter (fun x => memB ss x.1) := by
  rw [partTo_filter l ss _ (Nat.le_refl _), List.take_length]
theorem part_twice (l : List Lab) (us bs : List ByteArray) : partTo (partTo l us l.length) bs (partTo l us l.length).length = partTo l (outTo us bs us.length) l.length := by
  rw [part_filter, part_filter, part_filter, List.filter_filter]
  congr 1
  funext x
  rw [both_mem, Bool.and_comm]
theorem isSet_iff (l : List Lab) : isSet l = true ↔ l.length ≤ 4 ∧ (∀ x ∈ l, isNm x.1 = true ∧ x.2.size ≤ 16) ∧ l.Pairwise (fun x y => ltB x.1 y.1 = true) := by
  unfold isSet
  rw [Bool.and_eq_true, decide_eq_true_eq]
  constructor
  · rintro ⟨h4, h⟩
    refine ⟨h4, fun x hx => ?_, ?_⟩
    · obtain ⟨i, hi, rfl⟩ := List.getElem_of_mem hx
      have := upTo_le h hi
      rw [show l.getD i lab0 = l[i] by simp [hi]] at this
      exact ⟨this.1, this.2.1⟩
    · rw [List.pairwise_iff_getElem]
      intro i j hi hj hij
      have := upTo_lt h (j - (i + 1)) i (by omega)
      rw [show i + 1 + (j - (i + 1)) = j from by omega, show l.getD i lab0 = l[i] by simp [hi], show l.getD j lab0 = l[j] by simp [hj]] at this
      exact this
  · rintro ⟨h4, h1, h2⟩
    refine ⟨h4, ?_⟩
    have : ∀ k, k ≤ l.length → upTo l k = true := by
      intro k
      induction k with
      | zero => intro _; rfl
      | succ k ih =>
        intro hk
        have hm := h1 _ (List.getElem_mem (show k < l.length from hk))
        rw [upTo, ih (by omega), show l.getD k lab0 = l[k]'hk by simp [show k < l.length from hk], hm.1, decide_eq_true hm.2]
        rcases Nat.eq_zero_or_pos k with g | g
        · subst g; rfl
        · have := (List.pairwise_iff_getElem.1 h2) (k - 1) k (by omega) hk (by omega)
          rw [show l.getD (k - 1) lab0 = l[k - 1]'(by omega) by simp [show k - 1 < l.length by omega], this]; simp
    exact this _ (Nat.le_refl _)
theorem part_set {l : List Lab} (h : isSet l = true) (ss : List ByteArray) : isSet (partTo l ss l.length) = true := by
  rw [part_filter]
  obtain ⟨h4, h1, h2⟩ := (isSet_iff l).1 h
  exact (isSet_iff _).2 ⟨Nat.le_trans (List.length_filter_le _ _) h4, fun x hx => h1 x (List.mem_filter.1 hx).1, h2.filter _⟩
end Go.Proofs.Ytjbljplgkbnpmaa
end SecLabStrP1
