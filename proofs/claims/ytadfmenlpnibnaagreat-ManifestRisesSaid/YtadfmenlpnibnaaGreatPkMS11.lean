/- Texts put together by packtpl2.py: LabStrP, LabPa, ApPf. -/
import Derived.Test.YtadfmenlpnibnaaGreatPkMS1
import Derived.Test.YtadfmenlpnibnaaGreatPkMS4
import Derived.Test.YtadfmenlpnibnaaGreatPkMS10
import Derived.SliceStrings
import Derived.Lib.IndexMore
import Derived.Lib.Strings
import Derived.Lib.Bytealg
import Derived.Shelf.Small.Strs
import Derived.Shelf.Small.Wraps
import Derived.Shelf.Strings.Search1
import Derived.Shelf.Strings.Search2
import Derived.Shelf.Strings.Cut
import Derived.Shelf.LaysM
import Derived.Shelf.Strings.Shaped
import Derived.Shelf.Strings.Prefix
import Derived.HandedShaped
import Derived.BigQuiet
section PkMS11_0
/- Put together out of XLabStrs, XLabTwicePlain. -/
section SecLabStrP0
/- Slices of strings; slices.Contains, and package label's and the reference's Part, walked. -/
namespace Go.Proofs.YtadfmenlpnibnaaGreat
open Go.RowKit LabPlain Go.ChangeShapes Go.WideShapes
set_option linter.unusedVariables false

structure StrsAt (w : World) (a : Option Addr) (n c : Nat) (ss : List ByteArray) : Prop where
  len : ss.length = n
  cap : n ≤ c
  capm : c ≤ 9223372036854775807
  nl : a = none → c = 0
  cells : 0 < n → ∃ b off, a = some ⟨b, off, none⟩ ∧ b < w.heap.size ∧ ∀ i, i < n → w.cell? ⟨b, off + i, none⟩ = some (.string (ss.getD i ByteArray.empty))
theorem StrsAt.keep {w w' : World} {a : Option Addr} {n c : Nat} {ss : List ByteArray} (h : StrsAt w a n c ss) {B : Nat} (hb : Below B w w') (hB : w.heap.size ≤ B) : StrsAt w' a n c ss :=
  ⟨h.len, h.cap, h.capm, h.nl, fun hn => by
    obtain ⟨b, off, ha, hlt, hc⟩ := h.cells hn
    exact ⟨b, off, ha, Nat.lt_of_lt_of_le hlt hb.size, fun i hi => (hb.cell (p := ⟨b, off + i, none⟩) (Nat.lt_of_lt_of_le hlt hB)).trans (hc i hi)⟩⟩
theorem StrsAt.kept {w w' : World} {a : Option Addr} {n c : Nat} {ss : List ByteArray} (h : StrsAt w a n c ss) (hb : Below w.heap.size w w') : StrsAt w' a n c ss := h.keep hb (Nat.le_refl _)
theorem StrsAt.empty (w : World) (a : Option Addr) (c : Nat) (hc : c ≤ 9223372036854775807) (ha : a = none → c = 0) : StrsAt w a 0 c [] :=
  ⟨rfl, Nat.zero_le _, hc, ha, fun h => absurd h (Nat.lt_irrefl 0)⟩
theorem open_strs {H : Type} {enc : TypeId × Value → H} {W : World} {fuel : Nat} {a : Option Addr} {len cap : Nat} {x : DataW H × List MemPlace}
    (hf : DataW.trod enc Tryz.prog W 0 (fun _ => true) true fuel 27 [.slice a len cap] = some x) : ∃ z : List ByteArray, StrsAt W a len cap z := by
  rcases open_strings Tryz.underlying27 Tryz.underlying9 (by kernel_rfl) hf with ⟨hcs, _⟩ | ⟨x0, l, c, ss, hcs, _, hl, hm, hlen, _, hc, _⟩
  · simp at hcs
    obtain ⟨rfl, rfl, rfl⟩ := hcs
    exact ⟨[], StrsAt.empty W none 0 (by omega) (fun _ => rfl)⟩
  · simp at hcs
    obtain ⟨rfl, rfl, rfl⟩ := hcs
    have hlen2 : ss.length = cap := by simpa using hlen
    refine ⟨ss.take len, by rw [List.length_take]; omega, hl, by unfold maxLen at hm; exact hm, (fun e => by cases e), fun hp => ?_⟩
    obtain ⟨b, off, spot⟩ := x0
    have hc0 := hc 0 (by omega)
    have hspot : spot = none := by simpa [Addr.add] using World.cell?_spot hc0
    subst hspot
    have h4 : ∀ (b off j : Nat), (⟨b, off, none⟩ : Addr).add j = ⟨b, off + j, none⟩ := by intro b off j; unfold Addr.add; split <;> simp_all
    refine ⟨b, off, rfl, ?_, fun i hi => ?_⟩
    · have := World.block_lt_of_cell? W _ hc0
      simpa [Addr.add] using this
    · have h1 := hc i (by omega)
      rw [h4] at h1
      rw [h1, List.getD_eq_getElem?_getD, List.getD_eq_getElem?_getD, List.getElem?_take_of_lt hi]

/-- is a text among them? -/
def memB (ss : List ByteArray) (x : ByteArray) : Bool := ss.any fun y => decide (y = x)
theorem memB_yes {ss : List ByteArray} {x : ByteArray} {k : Nat} (hk : k < ss.length) (h : ss.getD k ByteArray.empty = x) : memB ss x = true := by
  unfold memB
  rw [List.any_eq_true]
  refine ⟨ss[k], List.getElem_mem hk, decide_eq_true ?_⟩
  simpa [hk] using h
theorem memB_no {ss : List ByteArray} {x : ByteArray} (h : ∀ i, i < ss.length → ss.getD i ByteArray.empty ≠ x) : memB ss x = false := by
  unfold memB
  rw [List.any_eq_false]
  intro y hy
  obtain ⟨i, hi, rfl⟩ := List.getElem_of_mem hy
  have := h i hi
  simpa [hi] using this


/-- the labels of some names, out of the first k -/
def partTo (l : List Lab) (ss : List ByteArray) : Nat → List Lab
  | 0 => []
  | k + 1 => partTo l ss k ++ (if memB ss (l.getD k lab0).1 then [l.getD k lab0] else [])
theorem partTo_len (l : List Lab) (ss : List ByteArray) : ∀ k, (partTo l ss k).length ≤ k
  | 0 => Nat.le_refl _
  | k + 1 => by
    have := partTo_len l ss k
    rw [partTo, List.length_append]
    split <;> simp <;> omega
theorem partTo_mem (l : List Lab) (ss : List ByteArray) : ∀ k, k ≤ l.length → ∀ x ∈ partTo l ss k, x ∈ l
  | 0, _, x, h => by cases h
  | k + 1, hk, x, h => by
    rw [partTo] at h
    rcases List.mem_append.1 h with h | h
    · exact partTo_mem l ss k (by omega) x h
    · split at h
      · rw [List.mem_singleton] at h; rw [h]; exact lab_mem (by omega)
      · cases h
theorem lcells_append (l m : List Lab) : lcells (l ++ m) = lcells l ++ lcells m := by unfold lcells; rw [List.flatMap_append]

theorem two_src (w : World) (x y : Value) (t : TypeId) : ∀ j u, ([x, y] : List Value)[j]? = some u → (w.alloc (.cells #[x, y] t)).cell? ((⟨w.heap.size, 0, none⟩ : Addr).add j) = some u := by
  intro j u hj
  have hblk := heap_alloc_new w (.cells #[x, y] t)
  have hadd : (⟨w.heap.size, 0, none⟩ : Addr).add j = ⟨w.heap.size, 0 + j, none⟩ := by unfold Addr.add; split <;> simp_all
  rw [hadd, Nat.zero_add, cell_of_row _ _ _ _ _ (0, 0) hblk, ← hj]
  simp
end Go.Proofs.YtadfmenlpnibnaaGreat
end SecLabStrP0
section SecLabStrP1
/- Parting labels twice, plainly; the part of a set is a set. -/
namespace Go.Proofs.YtadfmenlpnibnaaGreat
open LabPlain
set_option linter.unusedVariables false

theorem memB_iff (ss : List ByteArray) (z : ByteArray) : memB ss z = true ↔ z ∈ ss := by
  unfold memB
  rw [List.any_eq_true]
  exact ⟨fun ⟨y, hy, h⟩ => by rw [← of_decide_eq_true h]; exact hy, fun h => ⟨z, h, decide_eq_true rfl⟩⟩
theorem mem_getD (ss : List ByteArray) (z : ByteArray) : z ∈ ss ↔ ∃ i, i < ss.length ∧ z = ss.getD i ByteArray.empty := by
  constructor
  · intro h
    obtain ⟨i, hi, rfl⟩ := List.getElem_of_mem h
    exact ⟨i, hi, by simp [hi]⟩
  · rintro ⟨i, hi, rfl⟩
    have : ss.getD i ByteArray.empty = ss[i] := by simp [hi]
    rw [this]; exact List.getElem_mem hi
def inTo (x : ByteArray) (bs : List ByteArray) : Nat → List ByteArray
  | 0 => []
  | j + 1 => inTo x bs j ++ (if x = bs.getD j ByteArray.empty then [x] else [])
def outTo (us bs : List ByteArray) : Nat → List ByteArray
  | 0 => []
  | i + 1 => outTo us bs i ++ inTo (us.getD i ByteArray.empty) bs bs.length
theorem inTo_len (x : ByteArray) (bs : List ByteArray) : ∀ j, (inTo x bs j).length ≤ j
  | 0 => Nat.le_refl _
  | j + 1 => by
    have := inTo_len x bs j
    rw [inTo, List.length_append]
    split <;> simp <;> omega
theorem outTo_len (us bs : List ByteArray) : ∀ i, (outTo us bs i).length ≤ bs.length * i
  | 0 => Nat.le_refl _
  | i + 1 => by
    have := outTo_len us bs i
    have h2 := inTo_len (us.getD i ByteArray.empty) bs bs.length
    rw [outTo, List.length_append, Nat.mul_succ]; omega
theorem in_mem (x z : ByteArray) (bs : List ByteArray) : ∀ j, z ∈ inTo x bs j ↔ z = x ∧ ∃ i, i < j ∧ x = bs.getD i ByteArray.empty
  | 0 => ⟨fun h => (by cases h), fun ⟨_, i, hi, _⟩ => absurd hi (Nat.not_lt_zero _)⟩
  | j + 1 => by
    rw [inTo, List.mem_append, in_mem x z bs j]
    constructor
    · rintro (⟨rfl, i, hi, he⟩ | h)
      · exact ⟨rfl, i, by omega, he⟩
      · split at h
        · rename_i he; rw [List.mem_singleton] at h; exact ⟨h, j, by omega, he⟩
        · cases h
    · rintro ⟨rfl, i, hi, he⟩
      rcases Nat.lt_or_ge i j with g | g
      · exact .inl ⟨rfl, i, g, he⟩
      · obtain rfl : i = j := by omega
        right; rw [if_pos he]; exact List.mem_singleton.2 rfl
theorem out_mem (z : ByteArray) (us bs : List ByteArray) : ∀ i, z ∈ outTo us bs i ↔ ∃ k, k < i ∧ z ∈ inTo (us.getD k ByteArray.empty) bs bs.length
  | 0 => ⟨fun h => (by cases h), fun ⟨i, hi, _⟩ => absurd hi (Nat.not_lt_zero _)⟩
  | i + 1 => by
    rw [outTo, List.mem_append, out_mem z us bs i]
    constructor
    · rintro (⟨k, hk, he⟩ | h)
      · exact ⟨k, by omega, he⟩
      · exact ⟨i, by omega, h⟩
    · rintro ⟨k, hk, he⟩
      rcases Nat.lt_or_ge k i with g | g
      · exact .inl ⟨k, g, he⟩
      · obtain rfl : k = i := by omega
        exact .inr he
theorem both_mem (us bs : List ByteArray) (z : ByteArray) : memB (outTo us bs us.length) z = (memB us z && memB bs z) := by
  rw [Bool.eq_iff_iff, Bool.and_eq_true, memB_iff, memB_iff, memB_iff, out_mem]
  constructor
  · rintro ⟨k, hk, h⟩
    obtain ⟨h1, i, hi, h2⟩ := (in_mem _ _ _ _).1 h
    exact ⟨(mem_getD _ _).2 ⟨k, hk, h1⟩, (mem_getD _ _).2 ⟨i, hi, by rw [h1]; exact h2⟩⟩
  · rintro ⟨h1, h2⟩
    obtain ⟨k, hk, h1⟩ := (mem_getD _ _).1 h1
    obtain ⟨i, hi, h2⟩ := (mem_getD _ _).1 h2
    exact ⟨k, hk, (in_mem _ _ _ _).2 ⟨h1, i, hi, by rw [← h1]; exact h2⟩⟩
theorem partTo_filter (l : List Lab) (ss : List ByteArray) : ∀ k, k ≤ l.length → partTo l ss k = (l.take k).filter (fun x => memB ss x.1)
  | 0, _ => by simp [partTo]
  | k + 1, hk => by
    have hg : l.getD k lab0 = l[k]'hk := by simp [show k < l.length from hk]
    rw [partTo, partTo_filter l ss k (by omega), List.take_succ_eq_append_getElem hk, List.filter_append, hg]
    congr 1
    cases h : memB ss (l[k]'hk).1 <;> simp [h]
theorem part_filter (l : List Lab) (ss : List ByteArray) : partTo l ss l.length = l.filter (fun x => memB ss x.1) := by
  rw [partTo_filter l ss _ (Nat.le_refl _), List.take_length]
theorem part_twice (l : List Lab) (us bs : List ByteArray) : partTo (partTo l us l.length) bs (partTo l us l.length).length = partTo l (outTo us bs us.length) l.length := by
  rw [part_filter, part_filter, part_filter, List.filter_filter]
  congr 1
  funext x
  rw [both_mem, Bool.and_comm]
theorem isSet_iff (l : List Lab) : isSet l = true ↔ l.length ≤ 4 ∧ (∀ x ∈ l, isNm x.1 = true ∧ x.2.size ≤ 16) ∧ l.Pairwise (fun x y => ltB x.1 y.1 = true) := by
  unfold isSet
  rw [Bool.and_eq_true, decide_eq_true_eq]
  constructor
  · rintro ⟨h4, h⟩
    refine ⟨h4, fun x hx => ?_, ?_⟩
    · obtain ⟨i, hi, rfl⟩ := List.getElem_of_mem hx
      have := upTo_le h hi
      rw [show l.getD i lab0 = l[i] by simp [hi]] at this
      exact ⟨this.1, this.2.1⟩
    · rw [List.pairwise_iff_getElem]
      intro i j hi hj hij
      have := upTo_lt h (j - (i + 1)) i (by omega)
      rw [show i + 1 + (j - (i + 1)) = j from by omega, show l.getD i lab0 = l[i] by simp [hi], show l.getD j lab0 = l[j] by simp [hj]] at this
      exact this
  · rintro ⟨h4, h1, h2⟩
    refine ⟨h4, ?_⟩
    have : ∀ k, k ≤ l.length → upTo l k = true := by
      intro k
      induction k with
      | zero => intro _; rfl
      | succ k ih =>
        intro hk
        have hm := h1 _ (List.getElem_mem (show k < l.length from hk))
        rw [upTo, ih (by omega), show l.getD k lab0 = l[k]'hk by simp [show k < l.length from hk], hm.1, decide_eq_true hm.2]
        rcases Nat.eq_zero_or_pos k with g | g
        · subst g; rfl
        · have := (List.pairwise_iff_getElem.1 h2) (k - 1) k (by omega) hk (by omega)
          rw [show l.getD (k - 1) lab0 = l[k - 1]'(by omega) by simp [show k - 1 < l.length by omega], this]; simp
    exact this _ (Nat.le_refl _)
theorem part_set {l : List Lab} (h : isSet l = true) (ss : List ByteArray) : isSet (partTo l ss l.length) = true := by
  rw [part_filter]
  obtain ⟨h4, h1, h2⟩ := (isSet_iff l).1 h
  exact (isSet_iff _).2 ⟨Nat.le_trans (List.length_filter_le _ _) h4, fun x hx => h1 x (List.mem_filter.1 hx).1, h2.filter _⟩
end Go.Proofs.YtadfmenlpnibnaaGreat
end SecLabStrP1
end PkMS11_0
section PkMS11_1
/- Put together out of XLabParsePlain, XLabShelf, XLabPlainF, XLabParts, XLabParse. -/
section SecLabPa0
/- Texts of label sets read again, plainly: the document's reading, and that it gives back just the sets of texts. -/
namespace Go.Proofs.YtadfmenlpnibnaaGreat
open Go.RowKit LabPlain
set_option linter.unusedVariables false

/-- a text's bytes; a text of bytes -/
def tb (s : ByteArray) : List UInt8 := s.data.toList
def bt (l : List UInt8) : ByteArray := ⟨l.toArray⟩
theorem tb_bt (l : List UInt8) : tb (bt l) = l := rfl
theorem bt_tb (s : ByteArray) : bt (tb s) = s := Lib.mk_data s
theorem tb_inj {a b : ByteArray} (h : tb a = tb b) : a = b := by rw [← bt_tb a, ← bt_tb b, h]
theorem tb_append (a b : ByteArray) : tb (a ++ b) = tb a ++ tb b := by simp [tb]
theorem tb_len (s : ByteArray) : (tb s).length = s.size := by simp [tb]
theorem tb_bs (xs : List Nat) : tb (bs xs) = xs.map UInt8.ofNat := by
  simp only [tb, bs, strOfNums_data, List.map_map]
  apply List.map_congr_left
  intro x _
  simp
theorem tb_get (s : ByteArray) (i : Nat) (h : i < s.size) : (tb s)[i]? = some (s[i]'h) := by
  have h2 : i < (tb s).length := by rw [tb_len]; exact h
  rw [List.getElem?_eq_getElem h2]; rfl
theorem at_tb (s : ByteArray) (i : Nat) : at_ s i = ((tb s).getD i 0).toNat := rfl

def okU (c : UInt8) : Bool := okC c.toNat
def qu (c : UInt8) : List UInt8 := (qb c.toNat).map UInt8.ofNat
theorem qu_plain {c : UInt8} (h : plainC c.toNat = true) : qu c = [c] := by
  unfold qu qb; rw [if_pos h]; simp
theorem qu_not {c : UInt8} (h : plainC c.toNat = false) : qu c = [92, UInt8.ofNat (dg (c.toNat / 16)), UInt8.ofNat (dg (c.toNat % 16))] := by
  unfold qu qb; rw [if_neg (by simp [h])]; rfl
theorem dg_inj {a b : Nat} (ha : a < 16) (hb : b < 16) (h : UInt8.ofNat (dg a) = UInt8.ofNat (dg b)) : a = b := by
  have e : (UInt8.ofNat (dg a)).toNat = (UInt8.ofNat (dg b)).toNat := by rw [h]
  rw [UInt8.toNat_ofNat', UInt8.toNat_ofNat', Nat.mod_eq_of_lt (dg_lt a ha), Nat.mod_eq_of_lt (dg_lt b hb)] at e
  unfold dg at e
  split at e <;> split at e <;> omega
theorem qu_inj {c d : UInt8} (h : qu c = qu d) : c = d := by
  cases hc : plainC c.toNat <;> cases hd : plainC d.toNat
  · rw [qu_not hc, qu_not hd] at h
    simp only [List.cons.injEq, true_and, and_true] at h
    have hc2 := UInt8.toNat_lt c
    have hd2 := UInt8.toNat_lt d
    have h1 := dg_inj (by omega) (by omega) h.1
    have h2 := dg_inj (by omega) (by omega) h.2
    exact UInt8.toNat_inj.1 (by omega)
  · rw [qu_not hc, qu_plain hd] at h; simp at h
  · rw [qu_plain hc, qu_not hd] at h; simp at h
  · rw [qu_plain hc, qu_plain hd] at h; simpa using h
/-- the byte that is written at the head, and how long -/
def rd : List UInt8 → Option (UInt8 × Nat)
  | [] => none
  | c :: r => if c = 92 then ((List.range 256).find? fun x => decide ((qb x).length = 3) && decide ((c :: r).take 3 = (qb x).map UInt8.ofNat)).map fun x => (UInt8.ofNat x, 3)
    else if plainC c.toNat then some (c, 1) else none
theorem rd_cons (c : UInt8) (r : List UInt8) : rd (c :: r) = if c = 92 then ((List.range 256).find? fun x => decide ((qb x).length = 3) && decide ((c :: r).take 3 = (qb x).map UInt8.ofNat)).map fun x => (UInt8.ofNat x, 3) else if plainC c.toNat then some (c, 1) else none := rfl
theorem qu_ofNat {x : Nat} (h : x < 256) : qu (UInt8.ofNat x) = (qb x).map UInt8.ofNat := by
  unfold qu; rw [UInt8.toNat_ofNat', Nat.mod_eq_of_lt h]
theorem rd_sound {l : List UInt8} {c : UInt8} {n : Nat} (h : rd l = some (c, n)) : l = qu c ++ l.drop n ∧ 0 < n ∧ n ≤ l.length := by
  cases l with
  | nil => cases h
  | cons a r =>
    rw [rd_cons] at h
    split at h
    · rw [Option.map_eq_some_iff] at h
      obtain ⟨x, hx, he⟩ := h
      simp only [Prod.mk.injEq] at he
      obtain ⟨rfl, rfl⟩ := he
      have hp := List.find?_some hx
      have hm := List.mem_of_find?_eq_some hx
      rw [List.mem_range] at hm
      rw [Bool.and_eq_true, decide_eq_true_eq, decide_eq_true_eq] at hp
      rw [qu_ofNat hm, ← hp.2, List.take_append_drop]
      refine ⟨rfl, by omega, ?_⟩
      have := congrArg List.length hp.2
      rw [List.length_map, hp.1, List.length_take] at this
      omega
    · split at h
      · rename_i hpl
        simp only [Option.some.injEq, Prod.mk.injEq] at h
        obtain ⟨rfl, rfl⟩ := h
        rw [qu_plain hpl]
        exact ⟨rfl, by omega, by simp⟩
      · cases h
theorem rd_whole (c : UInt8) (r : List UInt8) : rd (qu c ++ r) = some (c, (qu c).length) := by
  cases hc : plainC c.toNat with
  | true =>
    have h92 : c ≠ 92 := by
      intro e; subst e; revert hc; decide
    rw [qu_plain hc]
    show (if c = 92 then _ else if plainC c.toNat then some (c, 1) else none) = _
    rw [if_neg h92, if_pos hc]; rfl
  | false =>
    have hq := qu_not hc
    have hlen : (qb c.toNat).length = 3 := by have := congrArg List.length hq; simpa [qu] using this
    have hl3 : (qu c).length = 3 := by rw [hq]; rfl
    have ht : (qu c ++ r).take 3 = qu c := by rw [List.take_append_of_le_length (by omega), List.take_of_length_le (by omega)]
    obtain ⟨t, htl⟩ : ∃ t, qu c ++ r = 92 :: t := ⟨_, by rw [hq]; rfl⟩
    rw [htl] at ht ⊢
    rw [rd_cons, if_pos rfl, hl3]
    have hsome : ((List.range 256).find? fun x => decide ((qb x).length = 3) && decide ((92 :: t).take 3 = (qb x).map UInt8.ofNat)).isSome = true := by
      rw [List.find?_isSome]
      exact ⟨c.toNat, List.mem_range.2 (UInt8.toNat_lt c), by rw [hlen, ht]; unfold qu; simp⟩
    obtain ⟨x, hx⟩ := Option.isSome_iff_exists.1 hsome
    rw [hx]
    have hp := List.find?_some hx
    have hm := List.mem_range.1 (List.mem_of_find?_eq_some hx)
    rw [Bool.and_eq_true, decide_eq_true_eq, decide_eq_true_eq, ht, ← qu_ofNat hm] at hp
    rw [Option.map_some, ← qu_inj hp.2]

/-- a value that is read, up to the sign that ends it -/
def rdVal : Nat → List UInt8 → List UInt8 → Option (List UInt8 × List UInt8)
  | 0, _, _ => none
  | f + 1, acc, [] => some (acc, [])
  | f + 1, acc, c :: r => if c = 34 then some (acc, c :: r) else match rd (c :: r) with
    | none => none
    | some (x, n) => rdVal f (acc ++ [x]) ((c :: r).drop n)
theorem rdVal_sound : ∀ (f : Nat) (acc l v r : List UInt8), rdVal f acc l = some (v, r) → ∃ v', v = acc ++ v' ∧ l = v'.flatMap qu ++ r ∧ (r = [] ∨ ∃ r', r = 34 :: r')
  | 0, _, _, _, _, h => by cases h
  | f + 1, acc, [], v, r, h => by
    simp only [rdVal, Option.some.injEq, Prod.mk.injEq] at h
    obtain ⟨rfl, rfl⟩ := h
    exact ⟨[], by simp, by simp, .inl rfl⟩
  | f + 1, acc, c :: t, v, r, h => by
    unfold rdVal at h
    split at h
    · rename_i hc
      simp only [Option.some.injEq, Prod.mk.injEq] at h
      obtain ⟨rfl, rfl⟩ := h
      exact ⟨[], by simp, by simp, .inr ⟨t, by rw [hc]⟩⟩
    · split at h
      · cases h
      · rename_i x n hr
        obtain ⟨v', hv, hl, he⟩ := rdVal_sound f _ _ _ _ h
        have hs := (rd_sound hr).1
        refine ⟨x :: v', by rw [hv]; simp, ?_, he⟩
        rw [List.flatMap_cons, List.append_assoc, ← hl, ← hs]
theorem qu_ne (c : UInt8) : ∃ a t, qu c = a :: t ∧ a ≠ 34 := by
  cases hc : plainC c.toNat with
  | true => exact ⟨c, [], qu_plain hc, by intro e; subst e; revert hc; decide⟩
  | false => exact ⟨92, _, qu_not hc, by decide⟩
theorem rdVal_whole : ∀ (v : List UInt8) (f : Nat) (acc r : List UInt8), (v.flatMap qu ++ 34 :: r).length < f → rdVal f acc (v.flatMap qu ++ 34 :: r) = some (acc ++ v, 34 :: r)
  | [], 0, _, _, h => by simp at h
  | [], f + 1, acc, r, _ => by simp [rdVal]
  | c :: v, 0, _, _, h => by simp at h
  | c :: v, f + 1, acc, r, h => by
    obtain ⟨a, t, hq, hne⟩ := qu_ne c
    have hl : (c :: v).flatMap qu ++ 34 :: r = qu c ++ (v.flatMap qu ++ 34 :: r) := by rw [List.flatMap_cons, List.append_assoc]
    have hr := rd_whole c (v.flatMap qu ++ 34 :: r)
    have hd : (qu c ++ (v.flatMap qu ++ 34 :: r)).drop (qu c).length = v.flatMap qu ++ 34 :: r := by simp
    rw [hl] at h ⊢
    have h0 : 0 < (qu c).length := by rw [hq]; simp
    have ih := rdVal_whole v f (acc ++ [c]) r (by rw [List.length_append] at h; omega)
    obtain ⟨rest, hrest⟩ : ∃ rest, v.flatMap qu ++ 34 :: r = rest := ⟨_, rfl⟩
    rw [hrest] at hr hd ih ⊢
    rw [hq, List.cons_append] at hr hd ⊢
    unfold rdVal
    rw [if_neg hne, hr]
    show rdVal f (acc ++ [c]) ((a :: (t ++ rest)).drop _) = _
    rw [hd, ih]; simp

/-- a label that is read, and what stands behind its value -/
def step1 (l : List UInt8) : Option (Lab × List UInt8) :=
  match l.dropWhile okU with
  | e :: q :: c :: r => if e = 61 ∧ q = 34 then (match rdVal ((c :: r).length + 1) [] (c :: r) with
      | none => none
      | some (v, r2) => some ((bt (l.takeWhile okU), bt v), r2)) else none
  | _ => none
/-- labels that are read, behind those that have been -/
def rparseF : Nat → List Lab → List UInt8 → Option (List Lab)
  | 0, _, _ => none
  | k + 1, acc, l => match step1 l with
    | none => none
    | some (x, r2) => match r2 with
      | _ :: d :: r4 => if d = 44 then rparseF k (acc ++ [x]) r4 else if d = 125 ∧ r4 = [] ∧ isSet (acc ++ [x]) = true then some (acc ++ [x]) else none
      | _ => none
/-- the set of a text -/
def setIn (s : ByteArray) : Option (List Lab) :=
  if s.size < 2 ∨ at_ s 0 ≠ 123 ∨ at_ s (s.size - 1) ≠ 125 then none else if tb s = [123, 125] then some [] else rparseF 5 [] ((tb s).drop 1)

def lt1 (x : Lab) : List UInt8 := tb x.1 ++ [61, 34] ++ (tb x.2).flatMap qu ++ [34]
/-- labels, as they are written, and the end -/
def bodyT : List Lab → List UInt8
  | [] => [125]
  | [x] => lt1 x ++ [125]
  | x :: y :: r => lt1 x ++ 44 :: bodyT (y :: r)
theorem qs_flat (s : ByteArray) : ∀ k, k ≤ s.size → (qs s k).map UInt8.ofNat = ((tb s).take k).flatMap qu
  | 0, _ => by simp [qs]
  | k + 1, h => by
    have hk : k < (tb s).length := by rw [tb_len]; omega
    rw [qs, List.map_append, qs_flat s k (by omega), List.take_succ_eq_append_getElem hk, List.flatMap_append]
    congr 1
    have : at_ s k = ((tb s)[k]).toNat := by rw [at_tb]; simp [hk]
    rw [this]
    simp [qu]
theorem tb_labText (x : Lab) : tb (labText x) = lt1 x := by
  unfold labText lt1
  rw [tb_append, tb_append, tb_append, tb_bs, qs_flat _ _ (Nat.le_refl _), List.take_of_length_le (by rw [tb_len]; exact Nat.le_refl _)]
  rfl
theorem textTo_body (l : List Lab) : ∀ d k, k + d = l.length → 0 < k → tb (textTo l k) ++ (if d = 0 then [125] else 44 :: bodyT (l.drop k)) = tb (textTo l l.length) ++ [125]
  | 0, k, hk, _ => by rw [if_pos rfl, show k = l.length by omega]
  | d + 1, k, hk, hp => by
    have hlt : k < l.length := by omega
    have ih := textTo_body l d (k + 1) (by omega) (by omega)
    rw [if_neg (by omega), ← ih, textTo, if_neg (by omega), tb_append, tb_append, tb_labText, List.drop_eq_getElem_cons hlt, show l.getD k lab0 = l[k] by simp [hlt]]
    have e44 : tb ({ data := #[44] } : ByteArray) = [44] := rfl
    rw [e44]
    rcases Nat.eq_zero_or_pos d with h0 | h0
    · subst h0
      rw [if_pos rfl, List.drop_eq_nil_of_le (by omega), bodyT]
      simp
    · have hlt2 : k + 1 < l.length := by omega
      rw [if_neg (by omega), List.drop_eq_getElem_cons hlt2, bodyT]
      simp
theorem tb_textOf (l : List Lab) : tb (textOf l) = 123 :: bodyT l := by
  unfold textOf
  rw [tb_append, show tb ({ data := #[125] } : ByteArray) = [125] from rfl]
  cases l with
  | nil => rfl
  | cons x r =>
    rw [← textTo_body (x :: r) r.length 1 (by simp; omega) (by omega)]
    have e : tb (textTo (x :: r) 1) = 123 :: lt1 x := by
      show tb (textTo (x :: r) 0 ++ labText x) = _
      rw [tb_append, tb_labText]; rfl
    rw [e]
    cases r with
    | nil => rw [if_pos (show ([] : List Lab).length = 0 from rfl)]; rfl
    | cons y r => rw [if_neg (by simp)]; rfl

theorem isNm_ok {s : ByteArray} (h : isNm s = true) : ∀ c ∈ tb s, okU c = true := by
  unfold isNm at h
  simp only [Bool.and_eq_true] at h
  have ha := h.2
  have key : ∀ k, allC s k = true → ∀ i, i < k → okC (at_ s i) = true := by
    intro k
    induction k with
    | zero => intro _ i hi; omega
    | succ k ih =>
      intro hk i hi
      rw [allC, Bool.and_eq_true] at hk
      rcases Nat.lt_or_ge i k with g | g
      · exact ih hk.1 i g
      · obtain rfl : i = k := by omega
        exact hk.2
  intro c hc
  obtain ⟨i, hi, rfl⟩ := List.getElem_of_mem hc
  have := key _ ha i (by rw [← tb_len]; exact hi)
  rw [at_tb] at this
  unfold okU
  simpa [hi] using this
theorem span_ok : ∀ (a : List UInt8) (r : List UInt8), (∀ c ∈ a, okU c = true) → (a ++ 61 :: r).takeWhile okU = a ∧ (a ++ 61 :: r).dropWhile okU = 61 :: r
  | [], r, _ => by
    have : okU 61 = false := by decide
    simp [this]
  | c :: a, r, h => by
    have hc := h c (by simp)
    have ih := span_ok a r (fun x hx => h x (by simp [hx]))
    simp [hc, ih.1, ih.2]
theorem step1_whole {x : Lab} (h : isNm x.1 = true) (r : List UInt8) : step1 (lt1 x ++ r) = some (x, 34 :: r) := by
  have hl : lt1 x ++ r = tb x.1 ++ 61 :: (34 :: ((tb x.2).flatMap qu ++ 34 :: r)) := by unfold lt1; simp
  have hsp := span_ok (tb x.1) (34 :: ((tb x.2).flatMap qu ++ 34 :: r)) (isNm_ok h)
  have hv := rdVal_whole (tb x.2) (((tb x.2).flatMap qu ++ 34 :: r).length + 1) [] r (by omega)
  unfold step1
  rw [hl, hsp.1, hsp.2]
  obtain ⟨c, t, hct⟩ : ∃ c t, (tb x.2).flatMap qu ++ 34 :: r = c :: t := by
    cases hq : (tb x.2).flatMap qu with
    | nil => exact ⟨_, _, rfl⟩
    | cons c t => exact ⟨_, _, rfl⟩
  rw [hct] at hv ⊢
  show (if (61 : UInt8) = 61 ∧ (34 : UInt8) = 34 then _ else _) = _
  rw [if_pos ⟨rfl, rfl⟩, hv]
  show some ((bt (tb x.1), bt ([] ++ tb x.2)), 34 :: r) = _
  rw [List.nil_append, bt_tb, bt_tb]
theorem rparse_whole : ∀ (m : List Lab) (k : Nat) (acc : List Lab), m ≠ [] → m.length ≤ k → (∀ x ∈ m, isNm x.1 = true) → isSet (acc ++ m) = true → rparseF k acc (bodyT m) = some (acc ++ m)
  | [], _, _, h, _, _, _ => absurd rfl h
  | x :: r, 0, _, _, h, _, _ => by simp at h
  | [x], k + 1, acc, _, _, hn, hs => by
    unfold rparseF
    rw [bodyT, step1_whole (hn x (by simp))]
    show (if (125 : UInt8) = 44 then _ else if (125 : UInt8) = 125 ∧ ([] : List UInt8) = [] ∧ isSet (acc ++ [x]) = true then some (acc ++ [x]) else none) = _
    rw [if_neg (by decide), if_pos ⟨rfl, rfl, hs⟩]
  | x :: y :: r, k + 1, acc, _, hk, hn, hs => by
    unfold rparseF
    rw [bodyT, step1_whole (hn x (by simp))]
    show (if (44 : UInt8) = 44 then rparseF k (acc ++ [x]) (bodyT (y :: r)) else _) = _
    rw [if_pos rfl, rparse_whole (y :: r) k (acc ++ [x]) (by simp) (by simpa using hk) (fun z hz => hn z (by simp [List.mem_cons.1 hz])) (by simpa using hs)]
    simp
theorem step1_sound {l : List UInt8} {x : Lab} {r2 : List UInt8} (h : step1 l = some (x, r2)) : r2 = [] ∨ ∃ r3, r2 = 34 :: r3 ∧ l = lt1 x ++ r3 := by
  unfold step1 at h
  split at h
  · rename_i e q c r hd
    split at h
    · rename_i heq
      obtain ⟨rfl, rfl⟩ := heq
      split at h
      · cases h
      · rename_i v r2' hv
        simp only [Option.some.injEq, Prod.mk.injEq] at h
        obtain ⟨rfl, rfl⟩ := h
        obtain ⟨v', hv1, hv2, hv3⟩ := rdVal_sound _ _ _ _ _ hv
        rcases hv3 with rfl | ⟨r3, rfl⟩
        · exact .inl rfl
        · refine .inr ⟨r3, rfl, ?_⟩
          have hsp := List.takeWhile_append_dropWhile (p := okU) (l := l)
          rw [hd, hv2] at hsp
          rw [List.nil_append] at hv1
          subst hv1
          unfold lt1
          rw [tb_bt, tb_bt]
          refine Eq.trans hsp.symm ?_
          simp
    · cases h
  · cases h
theorem rparse_sound : ∀ (k : Nat) (acc : List Lab) (l : List UInt8) (s : List Lab), rparseF k acc l = some s → isSet s = true ∧ ∃ m, s = acc ++ m ∧ m ≠ [] ∧ l = bodyT m
  | 0, _, _, _, h => by cases h
  | k + 1, acc, l, s, h => by
    unfold rparseF at h
    split at h
    · cases h
    · rename_i x r2 hst
      split at h
      · rename_i c d r4
        rcases step1_sound hst with h0 | ⟨r3, hr, hl⟩
        · cases h0
        · simp only [List.cons.injEq] at hr
          obtain ⟨rfl, rfl⟩ := hr
          split at h
          · rename_i hd
            subst hd
            obtain ⟨h1, m, h2, h3, h4⟩ := rparse_sound k _ _ _ h
            refine ⟨h1, x :: m, by rw [h2]; simp, by simp, ?_⟩
            cases m with
            | nil => exact absurd rfl h3
            | cons y r => rw [hl, h4, bodyT]
          · split at h
            · rename_i hd
              obtain ⟨rfl, rfl, h1⟩ := hd
              simp only [Option.some.injEq] at h
              subst h
              exact ⟨h1, [x], rfl, by simp, by rw [hl, bodyT]⟩
            · cases h
      · cases h
theorem setIn_whole {l : List Lab} (h : isSet l = true) : setIn (textOf l) = some l := by
  obtain ⟨h4, h1, _⟩ : l.length ≤ 4 ∧ (∀ x ∈ l, isNm x.1 = true) ∧ True := by
    unfold isSet at h
    simp only [Bool.and_eq_true, decide_eq_true_eq] at h
    refine ⟨h.1, fun x hx => ?_, trivial⟩
    obtain ⟨i, hi, rfl⟩ := List.getElem_of_mem hx
    have := (upTo_le h.2 hi).1
    simpa [hi] using this
  have ht := tb_textOf l
  have hb : ∃ b, bodyT l = b ++ [125] := by
    clear h h4 h1 ht
    induction l with
    | nil => exact ⟨[], rfl⟩
    | cons x r ih =>
      cases r with
      | nil => exact ⟨lt1 x, rfl⟩
      | cons y r =>
        obtain ⟨b, hb⟩ := ih
        exact ⟨lt1 x ++ 44 :: b, by rw [bodyT, hb]; simp⟩
  obtain ⟨b, hb⟩ := hb
  have hsz : (textOf l).size = b.length + 2 := by rw [← tb_len, ht, hb]; simp
  have c0 : at_ (textOf l) 0 = 123 := by rw [at_tb, ht]; rfl
  have c1 : at_ (textOf l) ((textOf l).size - 1) = 125 := by
    rw [at_tb, ht, hb, hsz, show b.length + 2 - 1 = b.length + 1 from by omega]
    simp
  unfold setIn
  rw [if_neg (by rw [c0, c1, hsz]; omega)]
  split
  · rename_i he
    rw [ht] at he
    cases l with
    | nil => rfl
    | cons x r =>
      exfalso
      have hlen := congrArg List.length he
      cases r with
      | nil => simp [bodyT, lt1] at hlen; omega
      | cons y r => simp [bodyT, lt1] at hlen; omega
  · rename_i he
    have hne : l ≠ [] := by intro e; subst e; exact he ht
    rw [ht, List.drop_one, List.tail_cons]
    exact rparse_whole l 5 [] hne (by omega) h1 (by simpa using h)
theorem setIn_sound {s : ByteArray} {l : List Lab} (h : setIn s = some l) : isSet l = true ∧ textOf l = s := by
  unfold setIn at h
  split at h
  · cases h
  · rename_i hc
    split at h
    · rename_i he
      simp only [Option.some.injEq] at h
      subst h
      exact ⟨rfl, tb_inj (by rw [tb_textOf, he]; rfl)⟩
    · obtain ⟨h1, m, h2, h3, h4⟩ := rparse_sound _ _ _ _ h
      rw [List.nil_append] at h2
      subst h2
      refine ⟨h1, tb_inj ?_⟩
      rw [tb_textOf, ← h4]
      have h123 : at_ s 0 = 123 := by omega
      have hsz : 2 ≤ s.size := by omega
      rw [at_tb] at h123
      cases ht : tb s with
      | nil => rw [← tb_len, ht] at hsz; simp at hsz
      | cons a t =>
        rw [ht] at h123
        have : a = 123 := UInt8.toNat_inj.1 (by simpa using h123)
        rw [this]; rfl
theorem textOf_inj {l m : List Lab} (hl : isSet l = true) (hm : isSet m = true) (h : textOf l = textOf m) : l = m := by
  have h1 := setIn_whole hl
  rw [h, setIn_whole hm] at h1
  exact (Option.some.inj h1).symm
end Go.Proofs.YtadfmenlpnibnaaGreat
end SecLabPa0
section SecLabPa1
/- Contracts of the library's functions at this program, laid in plain words. -/
namespace Go.Proofs.YtadfmenlpnibnaaGreat
open Go.Shelf
set_option linter.unusedVariables false
def sh_lays137_ren : Go.Shelf.Ren := ⟨fun | 137 => 142 | 217 => 145 | 266 => 149 | n => n, fun | 9 => 9 | 5 => 5 | 3 => 3 | n => n, fun | n => n⟩
theorem sh_lays137 : Go.Proofs.Lays.n137 Tryz.prog sh_lays137_ren := {
  mixed := by kernel_rfl
  f137 := Tryz.func142.trans (congrArg some (by kernel_rfl))
  f217 := Tryz.func145.trans (congrArg some (by kernel_rfl))
  f266 := Tryz.func149.trans (congrArg some (by kernel_rfl))
  t3 := Tryz.underlying3
  a3 := Tryz.isAgg3
  z3 := Tryz.sizeOf3
  v3 := Tryz.zeroValue3
  t5 := Tryz.underlying5
  a5 := Tryz.isAgg5
  z5 := Tryz.sizeOf5
  v5 := Tryz.zeroValue5
  t9 := Tryz.underlying9
  a9 := Tryz.isAgg9
  z9 := Tryz.sizeOf9
  v9 := Tryz.zeroValue9 }
open Go.RowKit in
theorem sh_strings_IndexByte (s : ByteArray) (c : Int) (w : World) :
    Calls Tryz.prog 142 #[.string s, .int .u8 c] w fun e w' => e = .returned (.int .i64 (Lib.indexByte s.data.toList c.toNat.toUInt8)) ∧ w' = w := Any.strings_IndexByte sh_lays137 s c w
def sh_lays103_ren : Go.Shelf.Ren := ⟨fun | 103 => 106 | 210 => 130 | 206 => 140 | n => n, fun | 9 => 9 | 4 => 4 | 24 => 134 | 3 => 3 | n => n, fun | n => n⟩
theorem sh_lays103 : Go.Proofs.Lays.n103 Tryz.prog sh_lays103_ren := {
  mixed := by kernel_rfl
  f103 := Tryz.func106.trans (congrArg some (by kernel_rfl))
  f206 := Tryz.func140.trans (congrArg some (by kernel_rfl))
  f210 := Tryz.func130.trans (congrArg some (by kernel_rfl))
  t3 := Tryz.underlying3
  a3 := Tryz.isAgg3
  z3 := Tryz.sizeOf3
  v3 := Tryz.zeroValue3
  t4 := Tryz.underlying4
  a4 := Tryz.isAgg4
  z4 := Tryz.sizeOf4
  v4 := Tryz.zeroValue4
  t9 := Tryz.underlying9
  a9 := Tryz.isAgg9
  z9 := Tryz.sizeOf9
  v9 := Tryz.zeroValue9
  t24 := Tryz.underlying134
  a24 := Tryz.isAgg134
  z24 := Tryz.sizeOf134
  v24 := Tryz.zeroValue134 }
open Go.RowKit in
theorem sh_strings_CutPrefix (s p : ByteArray) (w : World) :
    Calls Tryz.prog 106 #[.string s, .string p] w fun e w' => e = .returned (.tuple #[.string ⟨(Lib.trimPrefix s.data.toList p.data.toList).toArray⟩, .bool (Lib.hasPrefix s.data.toList p.data.toList)]) ∧ w' = w := Any.strings_CutPrefix sh_lays103 s p w
def sh_lays145_ren : Go.Shelf.Ren := ⟨fun | 145 => 107 | 220 => 131 | 219 => 141 | 217 => 145 | 225 => 146 | 224 => 147 | 267 => 148 | 266 => 149 | 314 => 150 | n => n, fun | 9 => 9 | 4 => 4 | 59 => 136 | 3 => 3 | 5 => 5 | 46 => 109 | 146 => 170 | 51 => 40 | n => n, fun | 1 => 0 | n => n⟩
theorem sh_lays145 : Go.Proofs.Lays.n145 Tryz.prog sh_lays145_ren := {
  mixed := by kernel_rfl
  f145 := Tryz.func107.trans (congrArg some (by kernel_rfl))
  f217 := Tryz.func145.trans (congrArg some (by kernel_rfl))
  f219 := Tryz.func141.trans (congrArg some (by kernel_rfl))
  f220 := Tryz.func131.trans (congrArg some (by kernel_rfl))
  f224 := Tryz.func147.trans (congrArg some (by kernel_rfl))
  f225 := Tryz.func146.trans (congrArg some (by kernel_rfl))
  f266 := Tryz.func149.trans (congrArg some (by kernel_rfl))
  f267 := Tryz.func148.trans (congrArg some (by kernel_rfl))
  f314 := Tryz.func150.trans (congrArg some (by kernel_rfl))
  t3 := Tryz.underlying3
  a3 := Tryz.isAgg3
  z3 := Tryz.sizeOf3
  v3 := Tryz.zeroValue3
  t4 := Tryz.underlying4
  a4 := Tryz.isAgg4
  z4 := Tryz.sizeOf4
  v4 := Tryz.zeroValue4
  t5 := Tryz.underlying5
  a5 := Tryz.isAgg5
  z5 := Tryz.sizeOf5
  v5 := Tryz.zeroValue5
  t9 := Tryz.underlying9
  a9 := Tryz.isAgg9
  z9 := Tryz.sizeOf9
  v9 := Tryz.zeroValue9
  t46 := Tryz.underlying109
  a46 := Tryz.isAgg109
  z46 := Tryz.sizeOf109
  v46 := Tryz.zeroValue109
  t51 := Tryz.underlying40
  a51 := Tryz.isAgg40
  z51 := Tryz.sizeOf40
  v51 := Tryz.zeroValue40
  t59 := Tryz.underlying136
  a59 := Tryz.isAgg136
  z59 := Tryz.sizeOf136
  v59 := Tryz.zeroValue136
  t146 := Tryz.underlying170
  a146 := Tryz.isAgg170
  z146 := Tryz.sizeOf170
  v146 := Tryz.zeroValue170
  g1 := by kernel_rfl }
open Go.RowKit Go.Lib in
theorem sh_strings_Cut (s sep : ByteArray) (m : Int) (w : World) (hs : s.size < 4294967281) (hm : w.cell? ⟨0, 0, none⟩ = some (.int .i64 m)) :
    Calls Tryz.prog 107 #[.string s, .string sep] w fun e w' => e = .returned (.tuple #[.string ⟨(Lib.cut s.data.toList sep.data.toList).1.toArray⟩, .string ⟨(Lib.cut s.data.toList sep.data.toList).2.1.toArray⟩, .bool (Lib.cut s.data.toList sep.data.toList).2.2]) ∧ ∃ n, w' = w.drewN n := Any.strings_Cut sh_lays145 s sep m w hs hm
open Go.RowKit Go.Lib in
theorem maxlen_cell : ∀ w : World, w.ShapedOpen Tryz.prog → ∃ m, w.cell? ⟨0, 0, none⟩ = some (.int .i64 m) :=
  fun w h => cell_of_shapedOpen_int (zero := #[.int .i64 0]) (t := 3) h (of_decide_eq_true (by kernel_rfl)) (by kernel_rfl) rfl (by kernel_rfl) (by kernel_rfl) Tryz.underlying3
end Go.Proofs.YtadfmenlpnibnaaGreat
end SecLabPa1
section SecLabPa2
/- Package label's digit and plain, walked. -/
namespace Go.Proofs.YtadfmenlpnibnaaGreat
open Go.RowKit LabPlain
set_option linter.unusedVariables false

/-- a digit's number; 0 of what is none -/
def dgv (c : Nat) : Nat := if 48 ≤ c ∧ c ≤ 57 then c - 48 else if 97 ≤ c ∧ c ≤ 102 then c - 87 else 0
theorem dgv_lt (c : Nat) : dgv c < 16 := by
  unfold dgv
  repeat' split
  all_goals omega
theorem dgv_dg {n : Nat} (h : n < 16) : dgv (dg n) = n := by
  unfold dgv dg
  repeat' split
  all_goals omega
set_option maxRecDepth 100000 in
theorem ix_dgv : ∀ c, c < 256 → max 0 (Lib.indexByte [48, 49, 50, 51, 52, 53, 54, 55, 56, 57, 97, 98, 99, 100, 101, 102] c.toUInt8) = (dgv c : Int) := by decide +kernel

set_option maxRecDepth 100000 in
set_option maxHeartbeats 1000000 in
theorem digit_any (c : Nat) (hc : c < 256) (w : World) :
    Calls Tryz.prog 132 #[.int .u8 (c : Int)] w fun e w' => e = .returned (.int .u8 (dgv c : Int)) ∧ w' = w := by
  have HP := Lib.hid (sh_strings_IndexByte { data := #[48, 49, 50, 51, 52, 53, 54, 55, 56, 57, 97, 98, 99, 100, 101, 102] } (c : Int) w)
  obtain ⟨r, hr⟩ : ∃ r, r = Lib.indexByte [48, 49, 50, 51, 52, 53, 54, 55, 56, 57, 97, 98, 99, 100, 101, 102] c.toUInt8 := ⟨_, rfl⟩
  have hm : max 0 r = (dgv c : Int) := by rw [hr]; exact ix_dgv c hc
  have hd := dgv_lt c
  have HR := Lib.hid hr
  have HM := Lib.hid hm
  clear hr
  by_cases g : r < 0
  · have hz : dgv c = 0 := by omega
    have HZ := Lib.hid hz
    clear hm hz hd
    go_enter Tryz.func132, Tryz.ntmps132
    go_wp2_with fail
    refine HP.out.mono ?_
    rintro e w' ⟨rfl, rfl⟩
    rw [show Lib.indexByte ({ data := #[48, 49, 50, 51, 52, 53, 54, 55, 56, 57, 97, 98, 99, 100, 101, 102] } : ByteArray).data.toList (c : Int).toNat.toUInt8 = r from HR.out.symm]
    go_wp2_with fail
    go_ret
    rw [HZ.out]; exact ⟨by show Ending.returned (.int .u8 (max 0 r)) = .returned (.int .u8 ((0 : Nat) : Int)); rw [HM.out, HZ.out], rfl⟩
  · replace g : 0 ≤ r := by omega
    obtain ⟨k, rfl⟩ : ∃ k : Nat, r = (k : Int) := ⟨r.toNat, by omega⟩
    have hz : dgv c = k := by omega
    rw [hz] at hd
    have HZ := Lib.hid hz
    clear hm hz
    go_enter Tryz.func132, Tryz.ntmps132
    go_wp2_with fail
    refine HP.out.mono ?_
    rintro e w' ⟨rfl, rfl⟩
    rw [show Lib.indexByte ({ data := #[48, 49, 50, 51, 52, 53, 54, 55, 56, 57, 97, 98, 99, 100, 101, 102] } : ByteArray).data.toList (c : Int).toNat.toUInt8 = (k : Int) from HR.out.symm]
    go_wp2_with fail
    go_ret
    rw [HZ.out]; exact ⟨rfl, rfl⟩

/-- the byte at the head, and how many it takes -/
def plQ : List UInt8 → Nat × Nat
  | c :: a :: b :: _ => if c = 92 then (dgv a.toNat * 16 + dgv b.toNat, 3) else (c.toNat, 1)
  | c :: _ => (c.toNat, 1)
  | [] => (0, 1)
/-- the value that is quoted so -/
def plF : Nat → List UInt8 → List Nat
  | 0, _ => []
  | f + 1, [] => []
  | f + 1, c :: r => (plQ (c :: r)).1 :: plF f ((c :: r).drop (plQ (c :: r)).2)
theorem plQ_lt (l : List UInt8) : (plQ l).1 < 256 := by
  unfold plQ
  split
  · split
    · rename_i c a b _ _
      have := dgv_lt a.toNat
      have := dgv_lt b.toNat
      show dgv a.toNat * 16 + dgv b.toNat < 256
      omega
    · exact UInt8.toNat_lt _
  · exact UInt8.toNat_lt _
  · show (0 : Nat) < 256; omega
theorem plF_lt : ∀ (f : Nat) (l : List UInt8), ∀ x ∈ plF f l, x < 256
  | 0, _, x, h => by cases h
  | f + 1, [], x, h => by cases h
  | f + 1, c :: r, x, h => by
    rw [plF] at h
    rcases List.mem_cons.1 h with rfl | h
    · exact plQ_lt _
    · exact plF_lt f _ x h
theorem plQ_pos (l : List UInt8) : 1 ≤ (plQ l).2 := by
  rcases l with _ | ⟨c, _ | ⟨a, _ | ⟨b, r⟩⟩⟩
  · exact Nat.le_refl _
  · exact Nat.le_refl _
  · exact Nat.le_refl _
  · show 1 ≤ (if c = 92 then (dgv a.toNat * 16 + dgv b.toNat, 3) else (c.toNat, 1)).2
    split
    · show 1 ≤ 3; omega
    · exact Nat.le_refl _
def szOf : Value → Nat
  | .string s => s.size
  | _ => 0
theorem plF_len : ∀ (f : Nat) (l : List UInt8), (plF f l).length ≤ l.length
  | 0, _ => Nat.zero_le _
  | f + 1, [] => Nat.zero_le _
  | f + 1, c :: r => by
    have h := plF_len f ((c :: r).drop (plQ (c :: r)).2)
    have h2 := plQ_pos (c :: r)
    rw [plF, List.length_cons]
    rw [List.length_drop] at h
    rw [List.length_cons] at h ⊢
    omega
theorem plQ_whole (c : UInt8) (r : List UInt8) : plQ (qu c ++ r) = (c.toNat, (qu c).length) := by
  cases hc : plainC c.toNat with
  | true =>
    have h92 : c ≠ 92 := by intro e; subst e; revert hc; decide
    rw [qu_plain hc]
    rcases r with _ | ⟨a, _ | ⟨b, t⟩⟩
    · rfl
    · rfl
    · show (if c = 92 then _ else (c.toNat, 1)) = _
      rw [if_neg h92]; rfl
  | false =>
    have hl := UInt8.toNat_lt c
    have e : ∀ n, n < 16 → (UInt8.ofNat (dg n)).toNat = dg n := fun n hn => by rw [UInt8.toNat_ofNat', Nat.mod_eq_of_lt (dg_lt n hn)]
    rw [qu_not hc]
    show (if (92 : UInt8) = 92 then (dgv (UInt8.ofNat (dg (c.toNat / 16))).toNat * 16 + dgv (UInt8.ofNat (dg (c.toNat % 16))).toNat, 3) else ((92 : UInt8).toNat, 1)) = _
    rw [if_pos rfl, e _ (by omega), e _ (by omega), dgv_dg (by omega), dgv_dg (by omega), show c.toNat / 16 * 16 + c.toNat % 16 = c.toNat by omega]
    rfl
theorem plF_whole : ∀ (v : List UInt8) (f : Nat), (v.flatMap qu).length < f → plF f (v.flatMap qu) = v.map UInt8.toNat
  | [], 0, _ => rfl
  | [], f + 1, _ => rfl
  | c :: v, 0, h => by omega
  | c :: v, f + 1, h => by
    obtain ⟨a, t, hq, _⟩ := qu_ne c
    have hs := plQ_whole c (v.flatMap qu)
    rw [List.flatMap_cons] at h ⊢
    have h0 : 0 < (qu c).length := by rw [hq]; simp
    have ih := plF_whole v f (by rw [List.length_append] at h; omega)
    have hd : (qu c ++ v.flatMap qu).drop (qu c).length = v.flatMap qu := by simp
    obtain ⟨rest, hrest⟩ : ∃ rest, v.flatMap qu = rest := ⟨_, rfl⟩
    rw [hrest] at hs hd ih ⊢
    have hl : (qu c).length = (t.length + 1) := by rw [hq]; rfl
    rw [hq, List.cons_append] at hs hd ⊢
    rw [plF, hs]
    show c.toNat :: plF f ((a :: (t ++ rest)).drop (a :: t).length) = _
    rw [hd, ih]; rfl

theorem tb_drop (s : ByteArray) (k : Nat) : tb (s.extract k s.size) = (tb s).drop k := by
  show (s.extract k s.size).data.toList = _
  rw [Lib.extract_data, List.take_of_length_le (by rw [List.length_drop]; have := tb_len s; unfold tb at this; omega)]; rfl
theorem tb_at (s : ByteArray) (k : Nat) (h : k < s.size) : (tb s).drop k = (s[k]'h) :: (tb s).drop (k + 1) := by
  have h2 : k < (tb s).length := by rw [tb_len]; exact h
  rw [List.drop_eq_getElem_cons h2]; rfl

theorem or_dig {a b : Nat} (ha : a < 16) (hb : b < 16) : bits .or .u8 ((a : Int) * 16) (b : Int) = ((a * 16 + b : Nat) : Int) := by
  have h := u8_or_nat (a * 16) b (by omega) (by omega)
  rw [Int.natCast_mul] at h
  refine h.trans ?_
  rw [show a * 16 = 2 ^ 4 * a by omega, ← Nat.two_pow_add_eq_or_of_lt (by omega : b < 2 ^ 4) a]
set_option maxRecDepth 100000 in
set_option maxHeartbeats 2000000 in
theorem plain_any (s : ByteArray) (hs : s.size ≤ 1300) (w : World) :
    Calls Tryz.prog 108 #[.string s] w fun e w' => e = .returned (.string (bs (plF (s.size + 1) (tb s)))) ∧ Below w.heap.size w w' := by
  obtain ⟨i0, hi, hz0, hz1, hz2⟩ := info_parts info_u8
  have HO0 := Lib.hid (own_nil_bytes w w.heap.size)
  obtain ⟨R, hR⟩ : ∃ R, R = plF (s.size + 1) (tb s) := ⟨_, rfl⟩
  have HRL := Lib.hid (show R.length ≤ s.size by rw [hR, ← tb_len]; exact plF_len _ _)
  have HRB := Lib.hid (show ∀ x ∈ R, x < 256 by rw [hR]; exact plF_lt _ _)
  have HR := Lib.hid (show R = [] ++ plF (s.size + 1) (tb s) by rw [hR]; rfl)
  rw [← hR]
  clear hR
  go_enter Tryz.func108, Tryz.ntmps108
  go_wp2_with fail
  go_loopw [0, 3] (fun s0 s3 wr => ∃ (t : ByteArray) (f m c : Nat) (a : Option Addr) (out : List Nat), t.size ≤ s.size ∧ s0 = .string t ∧ s3 = .slice a m c ∧ Hid (t.size < f) ∧ Hid (R = out ++ plF f (tb t)) ∧ Hid (wr.ownsRow w.heap.size 5 1 (.slice a m c) m (bv out)) ∧ Hid (Below w.heap.size w wr)) (fun s0 _ _ => szOf s0)
  case atStart => exact ⟨s, s.size + 1, 0, 0, none, [], by omega, rfl, rfl, Lib.hid (by omega), HR, HO0, Lib.hid (Below.refl _ _)⟩
  case round =>
    clear HO0 HR
    obtain ⟨t, f, m, cp, a, out, hts, rfl, rfl, HF, HE, HO, HB⟩ := hrel
    rename World => wr
    by_cases ht0 : 0 < t.size
    · obtain ⟨c, hc⟩ : ∃ c : Nat, c = (t[0]'ht0).toNat := ⟨_, rfl⟩
      have hsk : (t[0]'ht0).toNat = c := hc.symm
      have hcl : c < 256 := by rw [hc]; exact UInt8.toNat_lt _
      have hd : tb t = (t[0]'ht0) :: (tb t).drop 1 := tb_at t 0 ht0
      obtain ⟨u, hu⟩ : ∃ u, u = t.extract 1 t.size := ⟨_, rfl⟩
      have hus : u.size = t.size - 1 := by rw [hu]; simp
      have htu : tb u = (tb t).drop 1 := by rw [hu, tb_drop]
      have hbs := HB.out.size
      have hm3 : m ≤ 1300 := by
        have h1 := HO.out.1
        have h2 := congrArg List.length HE.out
        have h3 := HRL.out
        rw [List.length_append] at h2
        rw [bv_length] at h1
        omega
      obtain ⟨f, rfl⟩ : ∃ f', f = f' + 1 := ⟨f - 1, by have := HF.out; omega⟩
      have h1i : (1 : Int) ≤ (t.size : Int) := by omega
      have hui : ((u.size : Nat) : Int) = (t.size : Int) - 1 := by omega
      rw [← htu] at hd
      have HD := Lib.hid hd
      have HC := Lib.hid hc
      have HU := Lib.hid hu
      clear htu hd hc hu
      by_cases hq : c = 92 ∧ 2 ≤ u.size
      · obtain ⟨hc92, hu2⟩ := hq
        obtain ⟨x, hx⟩ : ∃ x : Nat, x = (u[0]'(by omega)).toNat := ⟨_, rfl⟩
        obtain ⟨y, hy⟩ : ∃ y : Nat, y = (u[1]'(by omega)).toNat := ⟨_, rfl⟩
        have hx0 : (u[0]'(by omega)).toNat = x := hx.symm
        have hy0 : (u[1]'(by omega)).toNat = y := hy.symm
        have hxl : x < 256 := by rw [hx]; exact UInt8.toNat_lt _
        have hyl : y < 256 := by rw [hy]; exact UInt8.toNat_lt _
        obtain ⟨d1, hd1⟩ : ∃ d, d = dgv x := ⟨_, rfl⟩
        obtain ⟨d2, hd2⟩ : ∃ d, d = dgv y := ⟨_, rfl⟩
        have l1 : d1 < 16 := by rw [hd1]; exact dgv_lt _
        have l2 : d2 < 16 := by rw [hd2]; exact dgv_lt _
        obtain ⟨v, hv⟩ : ∃ v, v = u.extract 2 (t.size - 1) := ⟨_, rfl⟩
        have hvs : v.size = u.size - 2 := by rw [hv, ← hus]; simp
        have hE : plQ (tb t) = (d1 * 16 + d2, 3) ∧ (tb t).drop 3 = tb v := by
          have e0 : tb u = (u[0]'(by omega)) :: ((u[1]'(by omega)) :: (tb u).drop 2) := ((show tb u = (tb u).drop 0 from rfl).trans (tb_at u 0 (by omega))).trans (congrArg _ (tb_at u 1 (by omega)))
          rw [HD.out, e0]
          have e92 : (t[0]'ht0) = 92 := UInt8.toNat_inj.1 (by rw [← HC.out, hc92]; rfl)
          constructor
          · show (if (t[0]'ht0) = 92 then (dgv (u[0]'(by omega)).toNat * 16 + dgv (u[1]'(by omega)).toNat, 3) else ((t[0]'ht0).toNat, 1)) = _
            rw [if_pos e92, ← hx, ← hy, ← hd1, ← hd2]
          · rw [hv, ← hus, tb_drop, e0]; rfl
        have hst : plF (f + 1) (tb t) = (d1 * 16 + d2) :: plF f (tb v) := by
          rw [HD.out] at hE ⊢
          rw [plF, hE.1, hE.2]
        have HE2 := Lib.hid (show R = (out ++ [d1 * 16 + d2]) ++ plF f (tb v) by rw [HE.out, hst]; simp)
        have hq1 : ((c : Int) == 92) = true := by rw [beq_iff_eq]; omega
        have hq2 : (2 : Int) ≤ ((t.size - 1 : Nat) : Int) := by omega
        have hbor : bits .or .u8 ((d1 : Int) * 16) (d2 : Int) = ((d1 * 16 + d2 : Nat) : Int) := or_dig l1 l2
        have hcx : d1 * 16 + d2 < 256 := by omega
        obtain ⟨z, hz⟩ : ∃ z, z = d1 * 16 + d2 := ⟨_, rfl⟩
        rw [← hz] at hbor hcx HE2
        have HOA := Lib.hid (HO.out.alloc (.cells #[.int .u8 (z : Int)] 5))
        have hui2 : (2 : Int) ≤ (u.size : Int) := by omega
        have HG1 := Lib.hid (fun w1 : World => hd1 ▸ digit_any x hxl w1)
        have HG2 := Lib.hid (fun w1 : World => hd2 ▸ digit_any y hyl w1)
        have hU := HU.out
        have HV := Lib.hid hv
        have HX := Lib.hid hd1
        have HY := Lib.hid hd2
        clear hE hst hv hx hy hd1 hd2 hU hz
        go_wp2_with fail
        rw [← HU.out]
        go_quiet ((first | (go_at_call 132; first | exact Calls.quiet_of_same (HG1.out _) | exact Calls.quiet_of_same (HG2.out _))))
        go_wp2_with (at_builtin; refine wpList_append_own_at _ rfl (.tmp 29) (.tmp 31) 159 rfl w.heap.size 5 i0 (.int .u8 0) 1 1 Tryz.underlying159 hi hz0 hz1 hz2 rfl (by decide) _ _ _ rfl HOA.out.drew ⟨wr.heap.size, 0, none⟩ 1 1 [.int .u8 (z : Int)] rfl rfl (one_src _ _ _) (one_oneCell rfl) (by unfold maxLen; omega) (by omega) (by simp; omega) ?_)
        intro v2 w2 ho2 hg2 _ _
        obtain ⟨g2, c2, rfl⟩ := own_some2 ho2 (by omega)
        have HB2 := Lib.hid (((below_drewN HB.out _).alloc hbs _).grown hg2 (by simp; omega) (fun k hk => (HOA.out.lt k hk).1))
        have HO2 := Lib.hid ho2
        clear ho2 hg2
        go_wp2_with fail
        rw [← HV.out]
        go_roundw
        case rel => exact ⟨v, f, m + 1, c2, _, _, by omega, rfl, rfl, Lib.hid (by have := HF.out; omega), HE2, Lib.hid (by rw [bv_append]; exact HO2.out), HB2⟩
        case measure => simp [szOf]; omega
      · have hpl : plQ (tb t) = (c, 1) := by
          rw [HD.out, HC.out]
          rcases hb : tb u with _ | ⟨a, _ | ⟨b, r⟩⟩
          · rfl
          · rfl
          · have h2 : 2 ≤ u.size := by rw [← tb_len, hb]; simp
            have hne : ¬ (t[0]'ht0) = 92 := fun e => hq ⟨by rw [HC.out, e]; rfl, h2⟩
            show (if (t[0]'ht0) = 92 then _ else ((t[0]'ht0).toNat, 1)) = _
            rw [if_neg hne]
        have hst : plF (f + 1) (tb t) = c :: plF f (tb u) := by
          have e : (tb t).drop 1 = tb u := by rw [HD.out]; rfl
          rw [HD.out] at hpl ⊢
          rw [plF, hpl, ← HD.out]
          show c :: plF f ((tb t).drop 1) = _
          rw [e]
        have HE2 := Lib.hid (show R = (out ++ [c]) ++ plF f (tb u) by rw [HE.out, hst]; simp)
        have hq2 : ((c : Int) == 92) = false ∨ (((c : Int) == 92) = true ∧ (t.size : Int) - 1 < 2) := by
          rcases Nat.lt_or_ge u.size 2 with g | g
          · by_cases hc92 : c = 92
            · exact .inr ⟨by rw [beq_iff_eq]; omega, by omega⟩
            · exact .inl (by rw [beq_eq_false_iff_ne]; omega)
          · exact .inl (by rw [beq_eq_false_iff_ne]; intro e; exact hq ⟨by omega, g⟩)
        have HOA := Lib.hid (HO.out.alloc (.cells #[.int .u8 (c : Int)] 5))
        clear hq hpl hst
        rcases hq2 with hq2 | ⟨hq2, hq3⟩
        all_goals
          go_wp2_with (at_builtin; refine wpList_append_own_at _ rfl (.tmp 29) (.tmp 31) 159 rfl w.heap.size 5 i0 (.int .u8 0) 1 1 Tryz.underlying159 hi hz0 hz1 hz2 rfl (by decide) _ _ _ rfl HOA.out ⟨wr.heap.size, 0, none⟩ 1 1 [.int .u8 (c : Int)] rfl rfl (one_src _ _ _) (one_oneCell rfl) (by unfold maxLen; omega) (by omega) (by simp; omega) ?_)
          intro v2 w2 ho2 hg2 _ _
          obtain ⟨g2, c2, rfl⟩ := own_some2 ho2 (by omega)
          have HB2 := Lib.hid (below_own (HB.out.alloc hbs (.cells #[.int .u8 (c : Int)] 5)) HOA.out hg2 (Nat.le_refl _) (by simp; omega))
          have HO2 := Lib.hid ho2
          clear ho2 hg2
          go_wp2_with fail
          go_roundw
          case rel => exact ⟨u, f, m + 1, c2, _, _, by omega, by rw [HU.out], rfl, Lib.hid (by have := HF.out; omega), HE2, Lib.hid (by rw [bv_append]; exact HO2.out), HB2⟩
          case measure => rw [← HU.out]; simp [szOf]; omega
    · have h00 : t.size = 0 := by omega
      have hz : (t.size : Int) = 0 := by omega
      have hRo : R = out := by
        rw [HE.out]
        have : tb t = [] := List.eq_nil_of_length_eq_zero (by rw [tb_len]; exact h00)
        rw [this]
        cases f <;> simp [plF]
      have HR2 := Lib.hid hRo
      obtain ⟨a9, c9, he9, hba, _⟩ := BytesAt.ofOwn HO.out (by rw [← hRo]; exact HRB.out) (by
        have h1 := HO.out.1
        have h3 := HRL.out
        rw [bv_length, ← hRo] at h1
        omega)
      simp only [Value.slice.injEq, true_and] at he9
      obtain ⟨rfl, rfl⟩ := he9
      have hcv := hba.conv
      have HB9 := HB
      clear ht0 hba hRo h00
      go_wp2_with fail
      go_ret
      rw [HR2.out]; exact ⟨rfl, HB9.out⟩
end Go.Proofs.YtadfmenlpnibnaaGreat
end SecLabPa2
section SecLabPa3
/- Package label's parts, walked. -/
namespace Go.Proofs.YtadfmenlpnibnaaGreat
open Go.RowKit LabPlain
set_option linter.unusedVariables false

def plainS (l : List UInt8) : ByteArray := bs (plF (l.length + 1) l)
/-- a label that the program reads, and what stands behind it -/
def stepP (l : List UInt8) : Option (Lab × List UInt8) :=
  if (Lib.cut l [61, 34]).2.2 = false then none
  else if (Lib.cut (Lib.cut l [61, 34]).2.1 [34]).2.2 = false then none
  else some ((bt (Lib.cut l [61, 34]).1, plainS (Lib.cut (Lib.cut l [61, 34]).2.1 [34]).1), (Lib.cut (Lib.cut l [61, 34]).2.1 [34]).2.1)
/-- labels that the program reads, behind those that have been -/
def partsF : Nat → List Lab → List UInt8 → List Lab × Bool
  | 0, _, _ => ([], false)
  | k + 1, acc, l => match stepP l with
    | none => ([], false)
    | some (x, b) => if b = [125] then (acc ++ [x], true) else if Lib.hasPrefix b [44] = true then partsF k (acc ++ [x]) (Lib.trimPrefix b [44]) else ([], false)
def partsR (s : ByteArray) : List Lab × Bool :=
  if Lib.hasPrefix (tb s) [123] = true then (if Lib.trimPrefix (tb s) [123] = [125] then ([], true) else partsF 4 [] (Lib.trimPrefix (tb s) [123])) else ([], false)

def lenOf : Value → Nat
  | .slice _ n _ => n
  | _ => 0
theorem cut_len (l sep : List UInt8) : (Lib.cut l sep).1.length ≤ l.length ∧ (Lib.cut l sep).2.1.length ≤ l.length := by
  unfold Lib.cut
  split
  · simp only [List.length_take, List.length_drop]; omega
  · simp
theorem bt_size (l : List UInt8) : (bt l).size = l.length := by rw [← tb_len]; rfl
theorem plainS_size (l : List UInt8) : (plainS l).size ≤ l.length := by unfold plainS; rw [bs_size]; exact plF_len _ _
theorem bt_eq (a b : List UInt8) : ((bt a).toList == b) = decide (a = b) := by
  rw [show (bt a).toList = a from ByteArray.toList_eq _]
  by_cases h : a = b
  · rw [h]; simp
  · rw [decide_eq_false h, beq_eq_false_iff_ne]; exact h

set_option maxRecDepth 100000 in
set_option maxHeartbeats 4000000 in
theorem parts_any (s : ByteArray) (hs : s.size ≤ 1300) (mx : Int) (w : World) (hmx : w.cell? ⟨0, 0, none⟩ = some (.int .i64 mx)) :
    Calls Tryz.prog 89 #[.string s] w fun e w' => ∃ a n c, e = .returned (.tuple #[.slice a n c, .bool (partsR s).2]) ∧ LabsAt w' a n c (partsR s).1 ∧ Below w.heap.size w w' := by
  obtain ⟨i0, hi, hz0, hz1, hz2⟩ := info_parts lab_info
  have h0w : 0 < w.heap.size := World.block_lt_of_cell? w _ hmx
  have HMX := Lib.hid (fun (w1 : World) (h : Below w.heap.size w w1) => show w1.cell? ⟨0, 0, none⟩ = some (.int .i64 mx) from (h.cell (p := ⟨0, 0, none⟩) h0w).trans hmx)
  have HPL := Lib.hid (fun (x : List UInt8) (hx : x.length ≤ 1300) (w1 : World) => show Calls Tryz.prog 108 #[.string (bt x)] w1 fun e w' => e = .returned (.string (plainS x)) ∧ Below w1.heap.size w1 w' from by
    have := plain_any (bt x) (by rw [bt_size]; exact hx) w1
    rw [bt_size, tb_bt] at this
    exact this)
  have HCP := Lib.hid (fun (x p : List UInt8) (w1 : World) => show Calls Tryz.prog 106 #[.string (bt x), .string (bt p)] w1 fun e w' => e = .returned (.tuple #[.string (bt (Lib.trimPrefix x p)), .bool (Lib.hasPrefix x p)]) ∧ w' = w1 from sh_strings_CutPrefix (bt x) (bt p) w1)
  have HCU := Lib.hid (fun (x p : List UInt8) (hx : x.length ≤ 1300) (w1 : World) (h : Below w.heap.size w w1) => show Calls Tryz.prog 107 #[.string (bt x), .string (bt p)] w1 fun e w' => e = .returned (.tuple #[.string (bt (Lib.cut x p).1), .string (bt (Lib.cut x p).2.1), .bool (Lib.cut x p).2.2]) ∧ ∃ n, w' = w1.drewN n from
    sh_strings_Cut (bt x) (bt p) mx w1 (by rw [bt_size]; omega) ((h.cell (p := ⟨0, 0, none⟩) h0w).trans hmx))
  have HO0 := Lib.hid (World.ownsRow_nil w w.heap.size 140 2)
  have hsl : (tb s).length ≤ 1300 := by rw [tb_len]; exact hs
  obtain ⟨l0, hl0⟩ : ∃ l0, l0 = tb s := ⟨_, rfl⟩
  have hsb : s = bt l0 := by rw [hl0, bt_tb]
  obtain ⟨R, hR⟩ : ∃ R, R = partsR s := ⟨_, rfl⟩
  rw [← hR]
  unfold partsR at hR
  rw [← hl0] at hR hsl
  rw [hsb]
  clear hsb hl0 hmx hs
  cases hp : Lib.hasPrefix l0 [123] with
  | false =>
    rw [hp, if_neg (by decide)] at hR
    have HR := Lib.hid hR
    have HP := Lib.hid hp
    clear hp hR
    go_enter Tryz.func89, Tryz.ntmps89
    go_wp2_with fail
    refine (HCP.out l0 [123] w).mono ?_
    rw [HP.out]
    rintro e w1 ⟨rfl, rfl⟩
    go_wp2_with fail
    go_ret2
    rw [HR.out]; exact ⟨none, 0, 0, rfl, LabsAt.empty _ _ _ (by omega) (fun _ => rfl), Below.refl _ _⟩
  | true =>
    rw [hp, if_pos rfl] at hR
    have htl := Lib.trimPrefix_le l0 [123]
    obtain ⟨l1, hl1⟩ : ∃ l1, l1 = Lib.trimPrefix l0 [123] := ⟨_, rfl⟩
    rw [← hl1] at hR htl
    have HP := Lib.hid hp
    have HL1 := Lib.hid hl1
    clear hp hl1
    by_cases he : l1 = [125]
    · rw [if_pos he] at hR
      have HR := Lib.hid hR
      have hq : ((bt l1).toList == [125]) = true := by rw [bt_eq]; exact decide_eq_true he
      clear hR he
      go_enter Tryz.func89, Tryz.ntmps89
      go_wp2_with fail
      refine (HCP.out l0 [123] w).mono ?_
      rw [HP.out, ← HL1.out]
      rintro e w1 ⟨rfl, rfl⟩
      go_wp2_with fail
      go_ret2
      rw [HR.out]; exact ⟨none, 0, 0, rfl, LabsAt.empty _ _ _ (by omega) (fun _ => rfl), Below.refl _ _⟩
    · rw [if_neg he] at hR
      have HR := Lib.hid hR
      have hq : ((bt l1).toList == [125]) = false := by rw [bt_eq]; exact decide_eq_false he
      clear hR he
      go_enter Tryz.func89, Tryz.ntmps89
      go_wp2_with fail
      refine (HCP.out l0 [123] w).mono ?_
      rw [HP.out, ← HL1.out]
      rintro e w1 ⟨rfl, rfl⟩
      rename World => w
      go_wp2_with fail
      go_loopw [4, 6] (fun s4 s6 wr => ∃ (l : List UInt8) (m cp : Nat) (a : Option Addr) (acc : List Lab), l.length ≤ 1300 ∧ m ≤ 4 ∧ s4 = .string (bt l) ∧ s6 = .slice a m cp ∧ Hid (acc.length = m) ∧ Hid (∀ x ∈ acc, x.1.size ≤ 1300 ∧ x.2.size ≤ 1300) ∧ Hid (R = partsF (4 - m) acc l) ∧ Hid (wr.ownsRow w.heap.size 140 2 (.slice a m cp) m (lcells acc)) ∧ Hid (Below w.heap.size w wr)) (fun _ s6 _ => 4 - lenOf s6)
      case atStart => exact ⟨l1, 0, 0, none, [], by omega, by omega, rfl, rfl, Lib.hid rfl, Lib.hid (fun x hx => by cases hx), HR, HO0, Lib.hid (Below.refl _ _)⟩
      case round =>
        clear HO0 HR hq HL1 HP htl
        obtain ⟨l, m, cp, a, acc, hll, hm4, rfl, rfl, HA, HS, HR, HO, HB⟩ := hrel
        rename World => wr
        have hbs := HB.out.size
        by_cases hm : m < 4
        · obtain ⟨k, hk⟩ : ∃ k, 4 - m = k + 1 := ⟨3 - m, by omega⟩
          have hR := HR.out
          rw [hk] at hR
          have hmi : (m : Int) < 4 := by omega
          have HC1 := Lib.hid (HCU.out l [61, 34] hll wr HB.out)
          have c1l := cut_len l [61, 34]
          obtain ⟨nm, hnm⟩ : ∃ x, x = (Lib.cut l [61, 34]).1 := ⟨_, rfl⟩
          obtain ⟨b1, hb1⟩ : ∃ x, x = (Lib.cut l [61, 34]).2.1 := ⟨_, rfl⟩
          rw [← hnm, ← hb1] at c1l
          have nml := c1l.1
          have b1l := c1l.2
          clear c1l
          cases hf1 : (Lib.cut l [61, 34]).2.2 with
          | false =>
            have hst : stepP l = none := by unfold stepP; rw [if_pos hf1]
            have HRR := Lib.hid (show R = ([], false) by rw [hR, partsF, hst])
            have HF1 := Lib.hid hf1
            clear hf1 hst hR hnm hb1
            go_wp2_with fail
            refine HC1.out.mono ?_
            rw [HF1.out]
            rintro e w2 ⟨rfl, q, rfl⟩
            go_wp2_with fail
            go_ret2
            rw [HRR.out]; exact ⟨none, 0, 0, rfl, LabsAt.empty _ _ _ (by omega) (fun _ => rfl), below_drewN HB.out _⟩
          | true =>
            have HC2 := Lib.hid (fun q => HCU.out b1 [34] (by omega) (wr.drewN q) (below_drewN HB.out q))
            have c2l := cut_len b1 [34]
            obtain ⟨qv, hqv⟩ : ∃ x, x = (Lib.cut b1 [34]).1 := ⟨_, rfl⟩
            obtain ⟨b2, hb2⟩ : ∃ x, x = (Lib.cut b1 [34]).2.1 := ⟨_, rfl⟩
            rw [← hqv, ← hb2] at c2l
            have qvl := c2l.1
            have b2l := c2l.2
            clear c2l
            cases hf2 : (Lib.cut b1 [34]).2.2 with
            | false =>
              have hst : stepP l = none := by unfold stepP; rw [if_neg (by rw [hf1]; decide), ← hb1, if_pos hf2]
              have HRR := Lib.hid (show R = ([], false) by rw [hR, partsF, hst])
              have HF1 := Lib.hid (And.intro hf1 (And.intro hnm hb1))
              have HF2 := Lib.hid hf2
              clear hf1 hf2 hst hR hnm hb1 hqv hb2
              go_wp2_with fail
              refine HC1.out.mono ?_
              rw [HF1.out.1, ← HF1.out.2.1, ← HF1.out.2.2]
              rintro e w2 ⟨rfl, q, rfl⟩
              go_wp2_with fail
              refine (HC2.out _).mono ?_
              rw [HF2.out]
              rintro e w2 ⟨rfl, q2, rfl⟩
              go_wp2_with fail
              go_ret2
              rw [HRR.out]; exact ⟨none, 0, 0, rfl, LabsAt.empty _ _ _ (by omega) (fun _ => rfl), below_drewN HB.out _⟩
            | true =>
              obtain ⟨v, hv⟩ : ∃ v, v = plainS qv := ⟨_, rfl⟩
              have hvs : v.size ≤ 1300 := by rw [hv]; have := plainS_size qv; omega
              have hst : stepP l = some ((bt nm, v), b2) := by
                unfold stepP; rw [if_neg (by rw [hf1]; decide), ← hb1, if_neg (by rw [hf2]; decide), ← hnm, ← hqv, ← hb2, ← hv]
              have HS2 := Lib.hid (show ∀ x ∈ acc ++ [(bt nm, v)], x.1.size ≤ 1300 ∧ x.2.size ≤ 1300 from fun x hx => by
                rcases List.mem_append.1 hx with h | h
                · exact HS.out x h
                · rw [List.mem_singleton] at h
                  rw [h]; exact ⟨by show (bt nm).size ≤ 1300; rw [bt_size]; omega, hvs⟩)
              have HA2 := Lib.hid (show (acc ++ [(bt nm, v)]).length = m + 1 by rw [List.length_append, HA.out]; rfl)
              have HF1 := Lib.hid (And.intro hf1 (And.intro hnm hb1))
              have HF2 := Lib.hid (And.intro hf2 (And.intro hqv hb2))
              have HPV := Lib.hid (fun w1 => HPL.out qv (by omega) w1)
              rw [← hv] at HPV
              have hR2 := hR
              rw [partsF, hst] at hR2
              replace hR2 : R = if b2 = [125] then (acc ++ [(bt nm, v)], true) else if Lib.hasPrefix b2 [44] = true then partsF k (acc ++ [(bt nm, v)]) (Lib.trimPrefix b2 [44]) else ([], false) := hR2
              have HV := Lib.hid hv
              clear hf1 hf2 hst hR hnm hb1 hqv hb2 hv
              have hxs : ∀ x ∈ acc ++ [(bt nm, v)], x.1.size ≤ 140737488355328 ∧ x.2.size ≤ 140737488355328 := fun x hx => ⟨Nat.le_trans (HS2.out x hx).1 (by omega), Nat.le_trans (HS2.out x hx).2 (by omega)⟩
              have HXS := Lib.hid hxs
              clear hxs
              have tail : ∀ (w3 : World), Hid (Below w.heap.size w w3) → Hid (w3.ownsRow w.heap.size 140 2 (.slice a m cp) m (lcells acc)) → True := fun _ _ _ => trivial
              clear tail
              by_cases he : b2 = [125]
              · have hq : ((bt b2).toList == [125]) = true := by rw [bt_eq]; exact decide_eq_true he
                rw [if_pos he] at hR2
                have HRR := Lib.hid hR2
                clear hR2 he
                go_wp2_with fail
                refine HC1.out.mono ?_
                rw [HF1.out.1, ← HF1.out.2.1, ← HF1.out.2.2]
                rintro e w2 ⟨rfl, q, rfl⟩
                go_wp2_with fail
                refine (HC2.out _).mono ?_
                rw [HF2.out.1, ← HF2.out.2.1, ← HF2.out.2.2]
                rintro e w2 ⟨rfl, q2, rfl⟩
                go_wp2_with fail
                refine (HPV.out _).mono ?_
                rintro e w4 ⟨rfl, hb4⟩
                have HB4 := Lib.hid ((below_drewN HB.out _).trans (hb4.mono hbs))
                have HO4 := Lib.hid (own_below (w := wr.drewN (q + q2)) HO.out hb4)
                have hbs4 := HB4.out.size
                have HBA := Lib.hid (HB4.out.alloc hbs4 (.cells #[.string (bt nm), .string v] 140))
                have HOA := Lib.hid (HO4.out.alloc (.cells #[.string (bt nm), .string v] 140))
                clear hb4
                go_wp2_with (at_builtin; refine wpList_append_own_at _ rfl (.tmp 42) (.tmp 47) 101 rfl w.heap.size 140 i0 _ 2 32 Tryz.underlying101 hi hz0 hz1 hz2 rfl (by decide) _ _ _ rfl HOA.out ⟨w4.heap.size, 0, none⟩ 1 1 [.string (bt nm), .string v] rfl rfl (two_src _ _ _ _) (lcells_one [(bt nm, v)]) (by unfold maxLen; omega) (by omega) (by simp; omega) ?_)
                intro v5 w5 ho5 hg5 _ _
                obtain ⟨g5, c5, rfl⟩ := own_some2 ho5 (by omega)
                have HB5 := Lib.hid (below_own HBA.out HOA.out hg5 (Nat.le_refl _) (by simp; omega))
                have ho6 : w5.ownsRow w.heap.size 140 2 (.slice (some ⟨g5, 0, none⟩) (m + 1) c5) (m + 1) (lcells (acc ++ [(bt nm, v)])) := by rw [lcells_append]; exact ho5
                obtain ⟨a9, c9, he9, hat⟩ := LabsAt.ofOwn ho6 HA2.out HXS.out
                simp only [Value.slice.injEq, true_and] at he9
                obtain ⟨rfl, rfl⟩ := he9
                have HAT := Lib.hid hat
                clear ho5 ho6 hg5 hat
                go_wp2_with fail
                go_ret2
                rw [HRR.out]; exact ⟨_, _, _, rfl, HAT.out, HB5.out⟩
              · have hq : ((bt b2).toList == [125]) = false := by rw [bt_eq]; exact decide_eq_false he
                rw [if_neg he] at hR2
                have HC3 := Lib.hid (fun w1 => HCP.out b2 [44] w1)
                have htl := Lib.trimPrefix_le b2 [44]
                obtain ⟨l5, hl5⟩ : ∃ x, x = Lib.trimPrefix b2 [44] := ⟨_, rfl⟩
                rw [← hl5] at htl hR2
                have HL5 := Lib.hid hl5
                clear he hl5
                cases hf3 : Lib.hasPrefix b2 [44] with
                | false =>
                  rw [hf3, if_neg (by decide)] at hR2
                  have HRR := Lib.hid hR2
                  have HF3 := Lib.hid hf3
                  clear hR2 hf3
                  go_wp2_with fail
                  refine HC1.out.mono ?_
                  rw [HF1.out.1, ← HF1.out.2.1, ← HF1.out.2.2]
                  rintro e w2 ⟨rfl, q, rfl⟩
                  go_wp2_with fail
                  refine (HC2.out _).mono ?_
                  rw [HF2.out.1, ← HF2.out.2.1, ← HF2.out.2.2]
                  rintro e w2 ⟨rfl, q2, rfl⟩
                  go_wp2_with fail
                  refine (HPV.out _).mono ?_
                  rintro e w4 ⟨rfl, hb4⟩
                  have HB4 := Lib.hid ((below_drewN HB.out _).trans (hb4.mono hbs))
                  have HO4 := Lib.hid (own_below (w := wr.drewN (q + q2)) HO.out hb4)
                  have hbs4 := HB4.out.size
                  have HBA := Lib.hid (HB4.out.alloc hbs4 (.cells #[.string (bt nm), .string v] 140))
                  have HOA := Lib.hid (HO4.out.alloc (.cells #[.string (bt nm), .string v] 140))
                  clear hb4
                  go_wp2_with (at_builtin; refine wpList_append_own_at _ rfl (.tmp 42) (.tmp 47) 101 rfl w.heap.size 140 i0 _ 2 32 Tryz.underlying101 hi hz0 hz1 hz2 rfl (by decide) _ _ _ rfl HOA.out ⟨w4.heap.size, 0, none⟩ 1 1 [.string (bt nm), .string v] rfl rfl (two_src _ _ _ _) (lcells_one [(bt nm, v)]) (by unfold maxLen; omega) (by omega) (by simp; omega) ?_)
                  intro v5 w5 ho5 hg5 _ _
                  have HB5 := Lib.hid (below_own HBA.out HOA.out hg5 (Nat.le_refl _) (by simp; omega))
                  clear ho5 hg5
                  go_wp2_with fail
                  refine (HC3.out _).mono ?_
                  rw [HF3.out, ← HL5.out]
                  rintro e w6 ⟨rfl, rfl⟩
                  go_wp2_with fail
                  go_ret2
                  rw [HRR.out]; exact ⟨none, 0, 0, rfl, LabsAt.empty _ _ _ (by omega) (fun _ => rfl), HB5.out⟩
                | true =>
                  rw [hf3, if_pos rfl] at hR2
                  have HRR := Lib.hid (show R = partsF (4 - (m + 1)) (acc ++ [(bt nm, v)]) l5 by rw [show 4 - (m + 1) = k by omega]; exact hR2)
                  have HF3 := Lib.hid hf3
                  clear hR2 hf3
                  go_wp2_with fail
                  refine HC1.out.mono ?_
                  rw [HF1.out.1, ← HF1.out.2.1, ← HF1.out.2.2]
                  rintro e w2 ⟨rfl, q, rfl⟩
                  go_wp2_with fail
                  refine (HC2.out _).mono ?_
                  rw [HF2.out.1, ← HF2.out.2.1, ← HF2.out.2.2]
                  rintro e w2 ⟨rfl, q2, rfl⟩
                  go_wp2_with fail
                  refine (HPV.out _).mono ?_
                  rintro e w4 ⟨rfl, hb4⟩
                  have HB4 := Lib.hid ((below_drewN HB.out _).trans (hb4.mono hbs))
                  have HO4 := Lib.hid (own_below (w := wr.drewN (q + q2)) HO.out hb4)
                  have hbs4 := HB4.out.size
                  have HBA := Lib.hid (HB4.out.alloc hbs4 (.cells #[.string (bt nm), .string v] 140))
                  have HOA := Lib.hid (HO4.out.alloc (.cells #[.string (bt nm), .string v] 140))
                  clear hb4
                  go_wp2_with (at_builtin; refine wpList_append_own_at _ rfl (.tmp 42) (.tmp 47) 101 rfl w.heap.size 140 i0 _ 2 32 Tryz.underlying101 hi hz0 hz1 hz2 rfl (by decide) _ _ _ rfl HOA.out ⟨w4.heap.size, 0, none⟩ 1 1 [.string (bt nm), .string v] rfl rfl (two_src _ _ _ _) (lcells_one [(bt nm, v)]) (by unfold maxLen; omega) (by omega) (by simp; omega) ?_)
                  intro v5 w5 ho5 hg5 _ _
                  obtain ⟨g5, c5, rfl⟩ := own_some2 ho5 (by omega)
                  have HB5 := Lib.hid (below_own HBA.out HOA.out hg5 (Nat.le_refl _) (by simp; omega))
                  have HO6 := Lib.hid (show w5.ownsRow w.heap.size 140 2 (.slice (some ⟨g5, 0, none⟩) (m + 1) c5) (m + 1) (lcells (acc ++ [(bt nm, v)])) by rw [lcells_append]; exact ho5)
                  clear ho5 hg5
                  go_wp2_with fail
                  refine (HC3.out _).mono ?_
                  rw [HF3.out, ← HL5.out]
                  rintro e w6 ⟨rfl, rfl⟩
                  go_wp2_with fail
                  go_roundw
                  case rel => exact ⟨l5, m + 1, c5, _, _, by omega, by omega, rfl, rfl, HA2, HS2, HRR, HO6, HB5⟩
                  case measure => simp [lenOf] <;> omega
        · obtain rfl : m = 4 := by omega
          have HRR := Lib.hid (show R = ([], false) by rw [HR.out]; rfl)
          clear hm
          go_wp2_with fail
          go_ret2
          rw [HRR.out]; exact ⟨none, 0, 0, rfl, LabsAt.empty _ _ _ (by omega) (fun _ => rfl), HB.out⟩
end Go.Proofs.YtadfmenlpnibnaaGreat
end SecLabPa3
section SecLabPa4
/- Package label's Parse, walked: the set of a text, or none. -/
namespace Go.Proofs.YtadfmenlpnibnaaGreat
open Go.RowKit LabPlain
set_option linter.unusedVariables false

theorem index_app (x : UInt8) (t r : List UInt8) : ∀ a : List UInt8, (∀ c ∈ a, c ≠ x) → Lib.index (a ++ (x :: t ++ r)) (x :: t) = (a.length : Int)
  | [], _ => by
    have hp : (x :: t).isPrefixOf (x :: (t ++ r)) = true := by rw [List.isPrefixOf_iff_prefix]; exact ⟨r, rfl⟩
    show (if (x :: t).isPrefixOf (x :: (t ++ r)) = true then (0 : Int) else _) = _
    rw [if_pos hp]; rfl
  | c :: a, h => by
    have hc := h c (by simp)
    have ih := index_app x t r a (fun z hz => h z (by simp [hz]))
    show (if (x :: t).isPrefixOf (c :: (a ++ (x :: t ++ r))) = true then (0 : Int) else if Lib.index (a ++ (x :: t ++ r)) (x :: t) == -1 then -1 else Lib.index (a ++ (x :: t ++ r)) (x :: t) + 1) = _
    rw [ih, if_neg (by simp only [List.isPrefixOf_iff_prefix, List.cons_prefix_cons]; exact fun e => hc e.1.symm), if_neg (by rw [beq_iff_eq]; omega), List.length_cons]; omega
theorem cut_app (x : UInt8) (t r a : List UInt8) (h : ∀ c ∈ a, c ≠ x) : Lib.cut (a ++ (x :: t ++ r)) (x :: t) = (a, r, true) := by
  unfold Lib.cut
  rw [index_app x t r a h, if_pos (by omega), Int.toNat_natCast]
  simp
theorem dg_ne {n : Nat} (h : n < 16) : UInt8.ofNat (dg n) ≠ 34 := by
  intro e
  have e2 : (UInt8.ofNat (dg n)).toNat = 34 := by rw [e]; rfl
  rw [UInt8.toNat_ofNat', Nat.mod_eq_of_lt (dg_lt n h)] at e2
  unfold dg at e2
  split at e2 <;> omega
theorem qu_ne34 (c : UInt8) : ∀ x ∈ qu c, x ≠ 34 := by
  cases hc : plainC c.toNat with
  | true =>
    rw [qu_plain hc]
    intro x hx e
    rw [List.mem_singleton] at hx
    subst hx; subst e; revert hc; decide
  | false =>
    have hl := UInt8.toNat_lt c
    rw [qu_not hc]
    intro x hx
    simp only [List.mem_cons, List.not_mem_nil, or_false] at hx
    rcases hx with rfl | rfl | rfl
    · decide
    · exact dg_ne (by omega)
    · exact dg_ne (by omega)
theorem stepP_whole {x : Lab} (h : isNm x.1 = true) (r : List UInt8) : stepP (lt1 x ++ r) = some (x, r) := by
  have h1 : ∀ c ∈ tb x.1, c ≠ 61 := fun c hc e => by
    have := isNm_ok h c hc
    rw [e] at this
    exact absurd this (by decide)
  have h2 : ∀ c ∈ (tb x.2).flatMap qu, c ≠ 34 := fun c hc => by
    obtain ⟨d, _, hd⟩ := List.mem_flatMap.1 hc
    exact qu_ne34 d c hd
  have e1 : lt1 x ++ r = tb x.1 ++ (61 :: [34] ++ ((tb x.2).flatMap qu ++ (34 :: [] ++ r))) := by unfold lt1; simp
  have c1 := cut_app 61 [34] ((tb x.2).flatMap qu ++ (34 :: [] ++ r)) (tb x.1) h1
  have c2 := cut_app 34 [] r ((tb x.2).flatMap qu) h2
  unfold stepP
  rw [e1, c1]
  show (if true = false then none else if (Lib.cut ((tb x.2).flatMap qu ++ (34 :: [] ++ r)) [34]).2.2 = false then none else some ((bt (tb x.1), plainS (Lib.cut ((tb x.2).flatMap qu ++ (34 :: [] ++ r)) [34]).1), (Lib.cut ((tb x.2).flatMap qu ++ (34 :: [] ++ r)) [34]).2.1)) = _
  rw [c2, if_neg (by decide)]
  show (if true = false then none else some ((bt (tb x.1), plainS ((tb x.2).flatMap qu)), r)) = _
  rw [if_neg (by decide), bt_tb]
  have : plainS ((tb x.2).flatMap qu) = x.2 := by
    unfold plainS
    rw [plF_whole _ _ (by omega)]
    apply tb_inj
    rw [tb_bs, List.map_map]
    conv => rhs; rw [← List.map_id (tb x.2)]
    apply List.map_congr_left
    intro c _
    simp
  rw [this]
theorem parts_whole : ∀ (m : List Lab) (k : Nat) (acc : List Lab), m ≠ [] → m.length ≤ k → (∀ x ∈ m, isNm x.1 = true) → partsF k acc (bodyT m) = (acc ++ m, true)
  | [], _, _, h, _, _ => absurd rfl h
  | x :: r, 0, _, _, h, _ => by simp at h
  | [x], k + 1, acc, _, _, hn => by
    rw [bodyT, partsF, stepP_whole (hn x (by simp))]
    show (if ([125] : List UInt8) = [125] then (acc ++ [x], true) else _) = _
    rw [if_pos rfl]
  | x :: y :: r, k + 1, acc, _, hk, hn => by
    rw [bodyT, partsF, stepP_whole (hn x (by simp))]
    show (if 44 :: bodyT (y :: r) = ([125] : List UInt8) then (acc ++ [x], true) else if Lib.hasPrefix (44 :: bodyT (y :: r)) [44] = true then partsF k (acc ++ [x]) (Lib.trimPrefix (44 :: bodyT (y :: r)) [44]) else ([], false)) = _
    have hp : Lib.hasPrefix (44 :: bodyT (y :: r)) [44] = true := by unfold Lib.hasPrefix; rw [List.isPrefixOf_iff_prefix]; exact ⟨bodyT (y :: r), rfl⟩
    have ht : Lib.trimPrefix (44 :: bodyT (y :: r)) [44] = bodyT (y :: r) := by unfold Lib.trimPrefix; rw [if_pos hp]; rfl
    rw [if_neg (by intro e; simp at e), if_pos hp, ht, parts_whole (y :: r) k (acc ++ [x]) (by simp) (by simpa using hk) (fun z hz => hn z (by simp [List.mem_cons.1 hz]))]
    simp
theorem partsR_whole {l : List Lab} (h : isSet l = true) : partsR (textOf l) = (l, true) := by
  have h4 : l.length ≤ 4 ∧ (∀ x ∈ l, isNm x.1 = true) := by
    unfold isSet at h
    simp only [Bool.and_eq_true, decide_eq_true_eq] at h
    refine ⟨h.1, fun x hx => ?_⟩
    obtain ⟨i, hi, rfl⟩ := List.getElem_of_mem hx
    have := (upTo_le h.2 hi).1
    simpa [hi] using this
  have hp : Lib.hasPrefix (123 :: bodyT l) [123] = true := by unfold Lib.hasPrefix; rw [List.isPrefixOf_iff_prefix]; exact ⟨bodyT l, rfl⟩
  have ht : Lib.trimPrefix (123 :: bodyT l) [123] = bodyT l := by unfold Lib.trimPrefix; rw [if_pos hp]; rfl
  unfold partsR
  rw [tb_textOf, if_pos hp, ht]
  cases l with
  | nil => rfl
  | cons x r =>
    rw [if_neg, parts_whole (x :: r) 4 [] (by simp) h4.1 h4.2]
    · rfl
    · intro e
      have hlen := congrArg List.length e
      cases r with
      | nil => simp [bodyT, lt1] at hlen; omega
      | cons y r => simp [bodyT, lt1] at hlen; omega

set_option maxRecDepth 100000 in
set_option maxHeartbeats 2000000 in
theorem parse_any (s : ByteArray) (hs : s.size ≤ 1300) (mx : Int) (w : World) (hmx : w.cell? ⟨0, 0, none⟩ = some (.int .i64 mx)) :
    Calls Tryz.prog 68 #[.string s] w fun e w' => ∃ a n c, e = .returned (.tuple #[.slice a n c, .int .i64 (if (setIn s).isSome then 0 else 4)]) ∧ LabsAt w' a n c ((setIn s).getD []) ∧ Below w.heap.size w w' := by
  have HP := Lib.hid (parts_any s hs mx w hmx)
  obtain ⟨R, hR⟩ : ∃ R, R = partsR s := ⟨_, rfl⟩
  rw [← hR] at HP
  obtain ⟨l, ok⟩ := R
  have none_of : ∀ (h : ∀ m, isSet m = true → textOf m = s → False), setIn s = none := fun h => by
    cases hx : setIn s with
    | none => rfl
    | some m => exact (h m (setIn_sound hx).1 (setIn_sound hx).2).elim
  cases ok with
  | false =>
    have HN := Lib.hid (none_of fun m h1 h2 => by
      rw [← h2, partsR_whole h1] at hR
      simp at hR)
    clear hR none_of
    rw [HN.out]
    go_enter Tryz.func68, Tryz.ntmps68
    go_wp2_with fail
    refine HP.out.mono ?_
    rintro e w1 ⟨a1, n1, c1, rfl, hat, hb⟩
    have HB := Lib.hid hb
    clear hat hb
    go_wp2_with fail
    go_ret2
    exact ⟨none, 0, 0, rfl, LabsAt.empty _ _ _ (by omega) (fun _ => rfl), HB.out⟩
  | true =>
    cases hs2 : isSet l with
    | false =>
      have HN := Lib.hid (none_of fun m h1 h2 => by
        rw [← h2, partsR_whole h1] at hR
        simp only [Prod.mk.injEq, and_true] at hR
        rw [hR, h1] at hs2; cases hs2)
      have HS := Lib.hid hs2
      clear hR none_of hs2
      rw [HN.out]
      go_enter Tryz.func68, Tryz.ntmps68
      go_wp2_with fail
      refine HP.out.mono ?_
      rintro e w1 ⟨a1, n1, c1, rfl, hat, hb⟩
      have HB := Lib.hid hb
      have HT := Lib.hid (text_no hat HS.out)
      clear hat hb
      go_wp2_with fail
      refine HT.out.mono ?_
      rintro e w2 ⟨rfl, hb2⟩
      have HB2 := Lib.hid (HB.out.trans (hb2.mono HB.out.size))
      clear hb2
      go_wp2_with fail
      go_ret2
      exact ⟨none, 0, 0, rfl, LabsAt.empty _ _ _ (by omega) (fun _ => rfl), HB2.out⟩
    | true =>
      have HS := Lib.hid hs2
      by_cases he : textOf l = s
      · have HN := Lib.hid (show setIn s = some l by rw [← he]; exact setIn_whole hs2)
        have hq : ((textOf l).toList == s.toList) = true := by rw [eq_toList]; exact decide_eq_true he
        clear hR none_of hs2 he
        rw [HN.out]
        go_enter Tryz.func68, Tryz.ntmps68
        go_wp2_with fail
        refine HP.out.mono ?_
        rintro e w1 ⟨a1, n1, c1, rfl, hat, hb⟩
        have HB := Lib.hid hb
        have HT := Lib.hid (text_yes hat HS.out)
        have HAT := Lib.hid hat
        clear hat hb
        go_wp2_with fail
        refine HT.out.mono ?_
        rintro e w2 ⟨rfl, hb2⟩
        have HB2 := Lib.hid (HB.out.trans (hb2.mono HB.out.size))
        have HA2 := Lib.hid (HAT.out.kept hb2)
        clear hb2
        go_wp2_with fail
        go_ret2
        exact ⟨_, _, _, rfl, HA2.out, HB2.out⟩
      · have HN := Lib.hid (none_of fun m h1 h2 => by
          rw [← h2, partsR_whole h1] at hR
          simp only [Prod.mk.injEq, and_true] at hR
          exact he (by rw [hR]; exact h2))
        have hq : ((textOf l).toList == s.toList) = false := by rw [eq_toList]; exact decide_eq_false he
        clear hR none_of hs2 he
        rw [HN.out]
        go_enter Tryz.func68, Tryz.ntmps68
        go_wp2_with fail
        refine HP.out.mono ?_
        rintro e w1 ⟨a1, n1, c1, rfl, hat, hb⟩
        have HB := Lib.hid hb
        have HT := Lib.hid (text_yes hat HS.out)
        clear hat hb
        go_wp2_with fail
        refine HT.out.mono ?_
        rintro e w2 ⟨rfl, hb2⟩
        have HB2 := Lib.hid (HB.out.trans (hb2.mono HB.out.size))
        clear hb2
        go_wp2_with fail
        go_ret2
        exact ⟨none, 0, 0, rfl, LabsAt.empty _ _ _ (by omega) (fun _ => rfl), HB2.out⟩
end Go.Proofs.YtadfmenlpnibnaaGreat
end SecLabPa4
end PkMS11_1
section PkMS11_2
/- Parse, as Right asks it: what it answers to any part's text (parted from XMfPf). -/
namespace Go.Proofs.YtadfmenlpnibnaaGreat
open Go.RowKit LabPlain
set_option linter.unusedVariables false

def pfS (t : ByteArray) : Int := if (setIn t).isSome then 0 else 4
def MaxAt (mx : Int) (w : World) : Prop := w.cell? ⟨0, 0, none⟩ = some (.int .i64 mx)
theorem MaxAt.below {mx : Int} {w w' : World} (h : MaxAt mx w) (hb : Below w.heap.size w w') : MaxAt mx w' := (hb.cell (p := ⟨0, 0, none⟩) (World.block_lt_of_cell? w _ h)).trans h
theorem par_any {mx : Int} {w : World} (h : MaxAt mx w) {le : List EntV} (hk : ∀ x ∈ le, x.part.size ≤ 1300) : ∀ (W : World) (x : EntV), x ∈ le → Below w.heap.size w W → Calls Tryz.prog 68 #[.string x.part] W fun e w' => ParIs (pfS x.part) e ∧ Below W.heap.size W w' := fun W x hx hb => by
  refine (parse_any x.part (hk x hx) mx W (h.below hb)).mono ?_
  rintro e w' ⟨a, n, c, rfl, _, hb2⟩
  exact ⟨⟨a, n, c, rfl⟩, hb2⟩
end Go.Proofs.YtadfmenlpnibnaaGreat
end PkMS11_2
