/- Texts put together by packtpl2.py: RefWdPl, BitsRow, BitsRRead. -/
import Derived.Test.YtpbijdoemdoijaaGreatDoorPkCa10
import Derived.Test.YtpbijdoemdoijaaGreatDoorPkCa15
import Derived.Deep.RegionHeld3
import Derived.Deep.LoopGhost
section PkCa45_0
/- The document's words, plainly: its dictionary is the words known; its runs are those that a column of words has. -/
namespace Go.Proofs.YtpbijdoemdoijaaGreatDoor
open Go.RowKit BitsPlain NumsPlain LabPlain
set_option linter.unusedVariables false

theorem plc_at {l : List ByteArray} {z : ByteArray} {k : Nat} (hk : k < l.length) (h1 : ∀ j, j < k → l.getD j ByteArray.empty ≠ z) (h2 : l.getD k ByteArray.empty = z) : plc l z = k := by
  have g : ∀ j (hj : j < l.length), l.getD j ByteArray.empty = l[j] := fun j hj => by simp [hj]
  unfold plc
  refine (List.findIdx_eq hk).2 ⟨?_, fun j hj => ?_⟩
  · rw [← g k hk, h2]; exact decide_eq_true rfl
  · refine decide_eq_false fun e => h1 j hj ?_
    rw [g j (by omega)]; exact e
/-- texts that rise -/
def Rise (d : List ByteArray) : Prop := d.Pairwise fun x y => ltB x y = true
theorem ltB_or {x y : ByteArray} (h : ltB x y = false) (hne : x ≠ y) : ltB y x = true := by
  have h1 := leq_not y x
  rw [h] at h1
  simp only [Bool.not_false, Bool.or_eq_true, beq_iff_eq] at h1
  rcases h1 with g | g
  · exact g
  · exact absurd (ByteArray.ext (Array.toList_inj.1 (by rw [← ByteArray.toList_eq, ← ByteArray.toList_eq]; exact g))).symm hne
theorem rise_uniq : ∀ (a b : List ByteArray), Rise a → Rise b → (∀ z, z ∈ a ↔ z ∈ b) → a = b
  | [], [], _, _, _ => rfl
  | [], y :: b, _, _, h => absurd ((h y).2 (by simp)) (by simp)
  | x :: a, [], _, _, h => absurd ((h x).1 (by simp)) (by simp)
  | x :: a, y :: b, ha, hb, h => by
    obtain ⟨ha1, ha2⟩ := List.pairwise_cons.1 ha
    obtain ⟨hb1, hb2⟩ := List.pairwise_cons.1 hb
    have hxy : x = y := by
      rcases List.mem_cons.1 ((h x).1 (by simp)) with e | e
      · exact e
      · rcases List.mem_cons.1 ((h y).2 (by simp)) with g | g
        · exact g.symm
        · have h1 := hb1 x e
          have h2 := ha1 y g
          have h3 := ltB_trans h1 h2
          rw [ltB_irrefl] at h3; cases h3
    subst hxy
    have ht : a = b := rise_uniq a b ha2 hb2 fun z => by
      have h1 := h z
      simp only [List.mem_cons] at h1
      constructor
      · intro hz
        rcases h1.1 (.inr hz) with e | e
        · subst e
          have := ha1 z hz
          rw [ltB_irrefl] at this; cases this
        · exact e
      · intro hz
        rcases h1.2 (.inr hz) with e | e
        · subst e
          have := hb1 z hz
          rw [ltB_irrefl] at this; cases this
        · exact e
    rw [ht]
/-- how many at the head are less; a word put in its place; the dictionary of the first k -/
def lo (d : List ByteArray) (z : ByteArray) : Nat := (d.takeWhile fun s => ltB s z).length
def insW (d : List ByteArray) (z : ByteArray) : List ByteArray := if lo d z < d.length ∧ d.getD (lo d z) ByteArray.empty = z then d else d.take (lo d z) ++ [z] ++ d.drop (lo d z)
def dicTo (l : List ByteArray) : Nat → List ByteArray
  | 0 => []
  | k + 1 => insW (dicTo l k) (l.getD k ByteArray.empty)
theorem dw_head (p : ByteArray → Bool) {b : ByteArray} {t : List ByteArray} : ∀ l : List ByteArray, l.dropWhile p = b :: t → p b = false
  | [], h => by cases h
  | x :: l, h => by
    rw [List.dropWhile_cons] at h
    split at h
    · exact dw_head p l h
    · rename_i hx
      cases h
      simpa using hx
theorem tw_all (p : ByteArray → Bool) : ∀ (l : List ByteArray) (x : ByteArray), x ∈ l.takeWhile p → p x = true := fun l x hx => List.all_eq_true.1 (List.all_takeWhile (l := l) (p := p)) x hx
theorem insW_facts {d : List ByteArray} {z : ByteArray} (h : Rise d) : Rise (insW d z) ∧ ∀ y, y ∈ insW d z ↔ y ∈ d ∨ y = z := by
  obtain ⟨A, hA⟩ : ∃ A, A = d.takeWhile fun s => ltB s z := ⟨_, rfl⟩
  obtain ⟨B, hB⟩ : ∃ B, B = d.dropWhile fun s => ltB s z := ⟨_, rfl⟩
  have hd : d = A ++ B := by rw [hA, hB]; exact List.takeWhile_append_dropWhile.symm
  have hlo : lo d z = A.length := by rw [hA]; rfl
  have hAlt : ∀ x ∈ A, ltB x z = true := fun x hx => tw_all _ d x (by rw [← hA]; exact hx)
  have ht : d.take (lo d z) = A := by rw [hlo, hd]; exact List.take_left
  have hdr : d.drop (lo d z) = B := by rw [hlo, hd]; exact List.drop_left
  have hr := h
  unfold Rise at hr
  rw [hd] at hr
  obtain ⟨hrA, hrB, hrAB⟩ := List.pairwise_append.1 hr
  have hmem : ∀ y, y ∈ A ++ [z] ++ B ↔ y ∈ d ∨ y = z := fun y => by
    rw [hd]
    simp only [List.mem_append, List.mem_singleton]
    constructor
    · rintro ((g | g) | g)
      · exact .inl (.inl g)
      · exact .inr g
      · exact .inl (.inr g)
    · rintro ((g | g) | g)
      · exact .inl (.inl g)
      · exact .inr g
      · exact .inl (.inr g)
  have hput : (∀ y ∈ B, ltB z y = true) → Rise (A ++ [z] ++ B) := fun hz => by
    unfold Rise
    refine List.pairwise_append.2 ⟨List.pairwise_append.2 ⟨hrA, by simp, fun x hx y hy => by rw [List.mem_singleton.1 hy]; exact hAlt x hx⟩, hrB, fun x hx y hy => ?_⟩
    rcases List.mem_append.1 hx with g | g
    · exact hrAB x g y hy
    · rw [List.mem_singleton.1 g]; exact hz y hy
  unfold insW
  match hBe : B with
  | [] =>
    have hl : ¬ lo d z < d.length := by rw [hlo, hd]; simp
    rw [if_neg (fun g => hl g.1), ht, hdr]
    exact ⟨hput (fun y hy => by cases hy), hmem⟩
  | b :: t =>
    have hb : ltB b z = false := dw_head (fun s => ltB s z) d hB.symm
    have hg : d.getD (lo d z) ByteArray.empty = b := by
      rw [hlo, hd, List.getD_eq_getElem?_getD, List.getElem?_append_right (Nat.le_refl _), Nat.sub_self]; rfl
    have hl : lo d z < d.length := by rw [hlo, hd]; simp
    by_cases hbz : b = z
    · rw [if_pos ⟨hl, by rw [hg]; exact hbz⟩]
      refine ⟨h, fun y => ⟨fun hy => .inl hy, fun hy => ?_⟩⟩
      rcases hy with g | g
      · exact g
      · rw [g, ← hbz, hd]; simp
    · rw [if_neg (fun g => hbz (by rw [← hg]; exact g.2)), ht, hdr]
      refine ⟨hput fun y hy => ?_, hmem⟩
      have hzb := ltB_or hb hbz
      rcases List.mem_cons.1 hy with g | g
      · rw [g]; exact hzb
      · exact ltB_trans hzb ((List.pairwise_cons.1 hrB).1 y g)
theorem insW_len (d : List ByteArray) (z : ByteArray) : (insW d z).length ≤ d.length + 1 := by
  unfold insW
  split
  · omega
  · simp only [List.length_append, List.length_take, List.length_drop, List.length_cons, List.length_nil]; omega
theorem dicTo_len (l : List ByteArray) : ∀ k, (dicTo l k).length ≤ k
  | 0 => Nat.le_refl _
  | k + 1 => by
    have := insW_len (dicTo l k) (l.getD k ByteArray.empty)
    have := dicTo_len l k
    rw [dicTo]; omega
theorem dicTo_facts (l : List ByteArray) : ∀ k, k ≤ l.length → Rise (dicTo l k) ∧ ∀ y, y ∈ dicTo l k ↔ y ∈ l.take k
  | 0, _ => ⟨List.Pairwise.nil, fun y => by simp [dicTo]⟩
  | k + 1, hk => by
    obtain ⟨h1, h2⟩ := dicTo_facts l k (by omega)
    obtain ⟨h3, h4⟩ := insW_facts (z := l.getD k ByteArray.empty) h1
    refine ⟨h3, fun y => ?_⟩
    have hkl : k < l.length := by omega
    have e : l.take (k + 1) = l.take k ++ [l.getD k ByteArray.empty] := by
      rw [List.take_add_one, List.getElem?_eq_getElem hkl, show l.getD k ByteArray.empty = l[k] from by simp [hkl]]
      rfl
    rw [dicTo, h4 y, h2 y, e, List.mem_append, List.mem_singleton]
theorem dic_eq (l : List ByteArray) : dicTo l l.length = kno l := by
  obtain ⟨h1, h2⟩ := dicTo_facts l l.length (Nat.le_refl _)
  obtain ⟨h3, h4⟩ := kno_facts l
  refine rise_uniq _ _ h1 ?_ fun z => by rw [h2 z, List.take_length, h4 z]
  have h5 := List.pairwise_map.1 h3
  exact h5.imp fun {x y} g => by rw [ltB_lex]; exact decide_eq_true g
theorem dicTo_sizes {l : List ByteArray} {B : Nat} (h : ∀ s ∈ l, s.size ≤ B) {k : Nat} (hk : k ≤ l.length) : ∀ s ∈ dicTo l k, s.size ≤ B := fun s hs => h s (List.mem_of_mem_take (((dicTo_facts l k hk).2 s).1 hs))
theorem lo_at {d : List ByteArray} {z : ByteArray} {r : Nat} (hr : r ≤ d.length) (h1 : ∀ i, i < r → ltB (d.getD i ByteArray.empty) z = true) (h2 : r = d.length ∨ ltB (d.getD r ByteArray.empty) z = false) : lo d z = r := tw_at _ d r hr h1 h2

/-- the runs: what stands behind the first i rows, of the last of which run are the same -/
def WI (l kn : List ByteArray) (i run : Nat) (D : List Nat) : Prop := ∃ s f, s + run = i ∧ l.length ≤ s + f ∧ (i = l.length → run = 0) ∧ wordsC l = D ++ wrR kn f (l.drop s) ∧ ∀ j, s ≤ j → j ≤ i → j < l.length → l.getD j ByteArray.empty = l.getD s ByteArray.empty
theorem WI.start {l : List ByteArray} : WI l (kno l) 0 0 (wnP (kno l) (kno l).length ++ pu l.length) :=
  ⟨0, l.length, rfl, by omega, fun _ => rfl, by unfold wordsC; rw [List.drop_zero], fun j h1 h2 _ => by rw [show j = 0 from by omega]⟩
theorem WI.stay {l kn : List ByteArray} {i run : Nat} {D : List Nat} (h : WI l kn i run D) (hi : i + 1 < l.length) (he : l.getD (i + 1) ByteArray.empty = l.getD i ByteArray.empty) : WI l kn (i + 1) (run + 1) D := by
  obtain ⟨s, f, h1, h2, h3, h4, h5⟩ := h
  refine ⟨s, f, by omega, h2, fun e => by omega, h4, fun j j1 j2 j3 => ?_⟩
  by_cases hj : j = i + 1
  · rw [hj, he]; exact h5 i (by omega) (Nat.le_refl _) (by omega)
  · exact h5 j j1 (by omega) j3
theorem drop_getD (l : List ByteArray) (s j : Nat) : (l.drop s).getD j ByteArray.empty = l.getD (s + j) ByteArray.empty := by rw [List.getD_eq_getElem?_getD, List.getD_eq_getElem?_getD, List.getElem?_drop]
theorem WI.cut {l kn : List ByteArray} {i run : Nat} {D : List Nat} (h : WI l kn i run D) (hi : i < l.length) (he : i + 1 = l.length ∨ l.getD (i + 1) ByteArray.empty ≠ l.getD i ByteArray.empty) : WI l kn (i + 1) 0 (D ++ pu (plc kn (l.getD i ByteArray.empty)) ++ pu (run + 1)) := by
  obtain ⟨s, f, h1, h2, h3, h4, h5⟩ := h
  have hs : l.getD i ByteArray.empty = l.getD s ByteArray.empty := h5 i (by omega) (Nat.le_refl _) hi
  have ha : run + 1 = alk (l.drop s) := alk_of ⟨by omega, by rw [List.length_drop]; omega, fun j hj => by rw [drop_getD, drop_getD]; exact h5 _ (by omega) (by omega) (by omega), by
    rcases he with e | e
    · exact .inl (by rw [List.length_drop]; omega)
    · refine .inr ?_
      rw [drop_getD, drop_getD, show s + (run + 1) = i + 1 from by omega, show s + 0 = s from rfl, ← hs]
      exact e⟩
  obtain ⟨g, rfl⟩ : ∃ g, f = g + 1 := ⟨f - 1, by omega⟩
  refine ⟨i + 1, g, by omega, by omega, fun _ => rfl, ?_, fun j j1 j2 _ => by rw [show j = i + 1 from by omega]⟩
  rw [h4, wrR, if_neg (by rw [List.length_drop]; omega), ← ha, drop_getD, show s + 0 = s from rfl, ← hs, List.drop_drop, show s + (run + 1) = i + 1 from by omega]
  simp only [List.append_assoc]
theorem WI.done {l kn : List ByteArray} {run : Nat} {D : List Nat} (h : WI l kn l.length run D) : wordsC l = D := by
  obtain ⟨s, f, h1, h2, h3, h4, h5⟩ := h
  have h6 := h3 rfl
  rw [h4, List.drop_of_length_le (by omega)]
  have : wrR kn f [] = [] := by cases f with
    | zero => rfl
    | succ f => rw [wrR]; rfl
  rw [this, List.append_nil]
theorem WI.done' {l kn : List ByteArray} {n run : Nat} {D : List Nat} (h : WI l kn n run D) (hn : l.length = n) : wordsC l = D := by
  subst hn
  exact h.done
theorem WI.run {l kn : List ByteArray} {i run : Nat} {D : List Nat} (h : WI l kn i run D) : run ≤ i := by
  obtain ⟨s, f, h1, _⟩ := h
  omega
end Go.Proofs.YtpbijdoemdoijaaGreatDoor
end PkCa45_0
section PkCa45_1
/- The document's row of bits (layer 2): Row and Number, walked. -/
namespace Go.Proofs.YtpbijdoemdoijaaGreatDoor
open Go.RowKit BitsPlain
set_option linter.unusedVariables false



/-- truths that lie in memory -/
structure BoolsAt (w : World) (a : Option Addr) (n c : Nat) (l : List Bool) : Prop where
  len : l.length = n
  cap : n ≤ c
  reach : n ≤ 140737488351232
  capm : c ≤ 9223372036854775807
  nl : a = none → c = 0
  cells : 0 < n → ∃ b off, a = some ⟨b, off, none⟩ ∧ b < w.heap.size ∧ ∀ i, i < n → w.cell? ⟨b, off + i, none⟩ = some (.bool (l.getD i false))

theorem BoolsAt.keep {w w' : World} {a : Option Addr} {n c : Nat} {l : List Bool} (h : BoolsAt w a n c l) {B : Nat} (hb : Below B w w') (hB : w.heap.size ≤ B) : BoolsAt w' a n c l :=
  ⟨h.len, h.cap, h.reach, h.capm, h.nl, fun hn => by
    obtain ⟨b, off, ha, hlt, hc⟩ := h.cells hn
    exact ⟨b, off, ha, Nat.lt_of_lt_of_le hlt hb.size, fun i hi => (hb.cell (p := ⟨b, off + i, none⟩) (Nat.lt_of_lt_of_le hlt hB)).trans (hc i hi)⟩⟩
theorem BoolsAt.kept {w w' : World} {a : Option Addr} {n c : Nat} {l : List Bool} (h : BoolsAt w a n c l) (hb : Below w.heap.size w w') : BoolsAt w' a n c l := h.keep hb (Nat.le_refl _)
theorem BoolsAt.drewN {w : World} {a : Option Addr} {n c : Nat} {l : List Bool} (h : BoolsAt w a n c l) (k : Nat) : BoolsAt (w.drewN k) a n c l :=
  ⟨h.len, h.cap, h.reach, h.capm, h.nl, h.cells⟩
theorem BoolsAt.grownE {w w' : World} {a : Option Addr} {n c : Nat} {l : List Bool} (h : BoolsAt w a n c l) {r : Nat} (hg : w.grownBy w' (some r)) (hne : ∀ b off s, 0 < n → a = some ⟨b, off, s⟩ → b ≠ r) : BoolsAt w' a n c l :=
  ⟨h.len, h.cap, h.reach, h.capm, h.nl, fun hp => by
    obtain ⟨b, off, ha, hlt, hc⟩ := h.cells hp
    exact ⟨b, off, ha, Nat.lt_of_lt_of_le hlt hg.size, fun k hk => hg.cell (hc k hk) (fun e => hne b off _ hp ha (Option.some.inj e))⟩⟩
theorem BoolsAt.ofOwn {w : World} {base n : Nat} {v : Value} {l : List Bool} (h : w.ownsRow base 4 1 v n (bl l)) (hr : n ≤ 140737488351232) :
    ∃ a c, v = .slice a n c ∧ BoolsAt w a n c l ∧ (∀ b off s, a = some ⟨b, off, s⟩ → base ≤ b) := by
  have hlen : l.length = n := by have := h.1; simpa [bl] using this
  rcases h.2 with ⟨h0, h1⟩ | ⟨g, cap, cur, rfl, hg, hh, hn, hcap, hsz, htake⟩
  · subst h1
    obtain rfl : l = [] := List.eq_nil_of_length_eq_zero hlen
    exact ⟨none, 0, h0, ⟨rfl, Nat.le_refl _, Nat.zero_le _, by omega, fun _ => rfl, fun h => absurd h (Nat.lt_irrefl 0)⟩, fun _ _ _ e => by cases e⟩
  · have hlt : g < w.heap.size := (Array.getElem?_eq_some_iff.1 hh).1
    refine ⟨some ⟨g, 0, none⟩, cap, rfl, ⟨hlen, hn, hr, (by unfold maxLen at hcap; exact hcap), (fun e => by cases e), fun hp => ⟨g, 0, rfl, hlt, fun i hi => ?_⟩⟩, fun b off s e => by cases e; exact hg⟩
    have := h.cellAt i (by omega)
    rw [Nat.zero_add, this, bl_get _ _ (by omega)]

/-- the first k bits of bytes -/
def rowTo (xs : List Nat) (k : Nat) : List Bool := (List.range k).map fun p => bitAt xs p == 1
theorem rowTo_len (xs : List Nat) (k : Nat) : (rowTo xs k).length = k := by simp [rowTo]
theorem rowTo_succ (xs : List Nat) (k : Nat) : rowTo xs (k + 1) = rowTo xs k ++ [bitAt xs k == 1] := by simp [rowTo, List.range_succ]

set_option maxRecDepth 100000 in
set_option maxHeartbeats 2000000 in
theorem row_any {a : Option Addr} {n c : Nat} {xs : List Nat} {w : World} (h : BytesAt w a n c xs) (hn : n ≤ 1024) :
    Calls Tryz.prog 62 #[.slice a n c] w fun e w' => ∃ a' c', e = .returned (.slice a' (8 * n) c') ∧ BoolsAt w' a' (8 * n) c' (rowTo xs (8 * n)) ∧ Below w.heap.size w w' ∧ (∀ b off s, a' = some ⟨b, off, s⟩ → w.heap.size ≤ b) := by
  obtain ⟨i0, hi, hz0, hz1, hz2⟩ := info_parts info_bool
  have hown0 := World.ownsRow_lit (base := w.heap.size) (e := 4) (size := 1) w #[] 0 (Nat.le_refl _) (by unfold maxLen; omega) rfl
  have hcap := h.cap
  have hcm := h.capm
  have HH := Lib.hid h
  have HL := Lib.hid h.len
  clear h
  go_enter Tryz.func62, Tryz.ntmps62
  go_wp2_with fail
  go_loopw [3, 10] (fun s3 s10 wr => ∃ k : Nat, k ≤ n ∧ s10 = .int .i64 k ∧ wr.ownsRow w.heap.size 4 1 s3 (8 * k) (bl (rowTo xs (8 * k))) ∧ Below w.heap.size w wr) (fun _ s10 _ => n - (intOf s10).toNat)
  case atStart => exact ⟨0, by omega, rfl, by simpa [rowTo, bl] using hown0, (Below.refl _ _).alloc (Nat.le_refl _) _⟩
  case round =>
    obtain ⟨k, hk, rfl, hown, hbel⟩ := hrel
    rename World => wr
    by_cases hkn : k < n
    · obtain ⟨b, off, rfl, hlt, hc⟩ := HH.out.cells (by omega)
      have hck := (hbel.cell (p := ⟨b, off + k, none⟩) hlt).trans (hc k hkn)
      obtain ⟨x, hx⟩ : ∃ x, x = xs.getD k 0 := ⟨_, rfl⟩
      have hx256 : x < 256 := by
        have h1 : k < xs.length := by have := HL.out; omega
        have : xs.getD k 0 = xs[k] := by simp [h1]
        rw [hx, this]
        exact HH.out.byte _ (List.getElem_mem h1)
      rw [← hx] at hck
      have HX := Lib.hid hx
      have HO := Lib.hid hown
      have HB := Lib.hid hbel
      clear hc hx hown hbel
      go_wp2_with fail
      go_loopw [3, 5, 6] (fun s3 s5 s6 wr => ∃ (j y : Nat), j ≤ 8 ∧ s6 = .int .i64 j ∧ s5 = .int .u8 y ∧ y < 256 ∧ Hid (y = x / 2 ^ j) ∧ Hid (wr.ownsRow w.heap.size 4 1 s3 (8 * k + j) (bl (rowTo xs (8 * k + j)))) ∧ Hid (Below w.heap.size w wr)) (fun _ _ s6 _ => 8 - (intOf s6).toNat)
      case atStart => exact ⟨0, x, by omega, rfl, rfl, hx256, Lib.hid (by simp), HO, HB⟩
      case round =>
        obtain ⟨j, y, hj, rfl, rfl, hy, HY, HO2, HB2⟩ := hrel
        rename World => wj
        by_cases hj8 : j < 8
        · have hbs := HB2.out.size
          have hown := HO2.out
          have hyb : (y % 2 == 1) = (bitAt xs (8 * k + j) == 1) := by
            unfold bitAt
            rw [show (8 * k + j) / 8 = k from by omega, show (8 * k + j) % 8 = j from by omega, ← HX.out, ← HY.out]
          have HYB := Lib.hid hyb
          clear hyb
          go_wp2_with (at_builtin; refine wpList_append_own _ rfl (.tmp 18) (.tmp 22) 24 rfl w.heap.size 4 i0 (.bool false) 1 1 Tryz.underlying24 hi hz0 hz1 hz2 rfl (by decide) _ _ _ rfl (hown.alloc _) ⟨wj.heap.size, 0, none⟩ 1 1 [.bool ((y : Int) % 2 == 1)] rfl rfl (one_src _ _ _) (one_oneCell rfl) (by unfold maxLen; omega) (by omega) (by simp; omega) ?_)
          intro v' w1 hown' hgrow _
          have HO3 := Lib.hid hown'
          have HB3 := Lib.hid ((HB2.out.alloc HB2.out.size _).grown hgrow (by simp; omega) (fun k hk => (hown.lt k hk).1))
          clear hown' hgrow hown
          go_wp2_with fail
          go_roundw
          case rel =>
            refine ⟨j + 1, y / 2, by omega, by go_num, by go_num, by omega, Lib.hid ?_, Lib.hid ?_, HB3⟩
            · rw [HY.out, Nat.div_div_eq_div_mul, ← Nat.pow_succ]
            · have e1 : ((y : Int) % 2 == 1) = (bitAt xs (8 * k + j) == 1) := by
                rw [← HYB.out, Bool.eq_iff_iff, beq_iff_eq, beq_iff_eq]; omega
              have := HO3.out
              rw [e1] at this
              rw [← Nat.add_assoc, rowTo_succ]
              simpa [bl] using this
          case measure => simp [intOf]; omega
        · have h8 : j = 8 := by omega
          subst h8
          go_wp2_with fail
          go_roundw
          case rel => exact ⟨k + 1, by omega, by go_num, HO2.out, HB2.out⟩
          case measure => simp [intOf]; omega
    · have hkn2 : k = n := by omega
      subst hkn2
      obtain ⟨a', c', rfl, hba, hfa⟩ := BoolsAt.ofOwn hown (by omega)
      have HBA := Lib.hid hba
      have HBE := Lib.hid hbel
      clear hown hba hbel
      go_wp2_with fail
      go_ret
      exact ⟨a', c', rfl, HBA.out, HBE.out, hfa⟩

/-- the number that truths stand for, the lowest first -/
def nb : List Bool → Nat
  | [] => 0
  | b :: l => b.toNat + 2 * nb l
theorem nb_lt : ∀ l : List Bool, nb l < 2 ^ l.length
  | [] => by simp [nb]
  | b :: l => by
    have := nb_lt l
    have hb : b.toNat ≤ 1 := Bool.toNat_le b
    simp only [nb, List.length_cons, Nat.pow_succ]
    omega
theorem nb_snoc (b : Bool) : ∀ l : List Bool, nb (l ++ [b]) = nb l + b.toNat * 2 ^ l.length
  | [] => by simp [nb]
  | c :: l => by
    simp only [List.cons_append, nb, nb_snoc b l, List.length_cons, Nat.pow_succ]
    have : b.toNat * (2 ^ l.length * 2) = 2 * (b.toNat * 2 ^ l.length) := by rw [← Nat.mul_assoc, Nat.mul_comm _ 2]
    omega

set_option maxRecDepth 100000 in
set_option maxHeartbeats 1000000 in
theorem rnumb_any {a : Option Addr} {n c : Nat} {l : List Bool} {w : World} (h : BoolsAt w a n c l) (hn : n ≤ 32) :
    Calls Tryz.prog 84 #[.slice a n c] w fun e w' => e = .returned (.int .u32 (nb l : Int)) ∧ w = w' := by
  have hcap := h.cap
  have hcm := h.capm
  have HH := Lib.hid h
  have HL := Lib.hid h.len
  have e0 : IntKind.i64.wrap ((n : Int) - 1) = (n : Int) - 1 := IntWalk.i64_in _ (by omega)
  clear h
  go_enter Tryz.func84, Tryz.ntmps84
  go_wp2_with fail
  go_loop [3, 4] (fun s3 s4 => ∃ (t : Nat) (i : Int), t ≤ n ∧ s4 = .int .i64 i ∧ i = (t : Int) - 1 ∧ s3 = .int .u32 (nb (l.drop t) : Int)) (fun _ s4 => (intOf s4 + 1).toNat)
  case atStart => exact ⟨n, _, by omega, rfl, rfl, by rw [List.drop_eq_nil_of_le (by rw [HL.out]; omega)]; rfl⟩
  case round =>
    obtain ⟨t, i, ht, rfl, hi, rfl⟩ := hrel
    rcases t with _ | u
    · obtain rfl : i = -1 := by simpa using hi
      clear hi
      go_wp2_with fail
      go_ret
      exact ⟨by simp, rfl⟩
    · obtain rfl : i = (u : Int) := by omega
      clear hi
      obtain ⟨b, off, rfl, hlt, hc⟩ := HH.out.cells (by omega)
      have hcu := hc u (by omega)
      have hul : u < l.length := by have := HL.out; omega
      have hd : l.drop u = l.getD u false :: l.drop (u + 1) := by
        rw [List.drop_eq_getElem_cons hul]; simp [hul]
      have hlt2 := nb_lt (l.drop (u + 1))
      have hlen2 : (l.drop (u + 1)).length ≤ 31 := by have := HL.out; simp; omega
      have hp2 : 2 ^ (l.drop (u + 1)).length ≤ 2 ^ 31 := Nat.pow_le_pow_right (by omega) hlen2
      have h31 : (2 : Nat) ^ 31 = 2147483648 := by decide
      obtain ⟨V, hV⟩ : ∃ V, V = nb (l.drop (u + 1)) := ⟨_, rfl⟩
      have hV31 : V ≤ 2147483647 := by rw [hV]; omega
      rw [← hV]
      have HV := Lib.hid hV
      have HD := Lib.hid hd
      have e1 : IntKind.i64.wrap ((u : Int) - 1) = (u : Int) - 1 := IntWalk.i64_in _ (by omega)
      have e2 : IntKind.u32.wrap ((V : Int) * 2) = (V : Int) * 2 := by rw [IntKind.wrap_u32']; omega
      have e3 : IntKind.u32.wrap ((V : Int) * 2 + 1) = (V : Int) * 2 + 1 := by rw [IntKind.wrap_u32']; omega
      clear hc hd hlt2 hlen2 hp2 h31 hV
      cases hb : l.getD u false
      · rw [hb] at hcu
        have HBB := Lib.hid hb
        clear hb
        go_wp2_with fail
        go_round
        case rel => exact ⟨u, _, by omega, rfl, rfl, by rw [HD.out, HBB.out, nb, ← HV.out]; simp; omega⟩
        case measure => simp [intOf]
      · rw [hb] at hcu
        have HBB := Lib.hid hb
        clear hb
        go_wp2_with fail
        go_round
        case rel => exact ⟨u, _, by omega, rfl, rfl, by rw [HD.out, HBB.out, nb, ← HV.out]; simp; omega⟩
        case measure => simp [intOf]
end Go.Proofs.YtpbijdoemdoijaaGreatDoor
end PkCa45_1
section PkCa45_2
/- The document's reader of bits (layer 2): Bits and Align, walked; package bits' Reader: Align, and what a nil one answers. -/
namespace Go.Proofs.YtpbijdoemdoijaaGreatDoor
open Go.RowKit BitsPlain
set_option linter.unusedVariables false

/-- a reader's block: the row, the place -/
structure RRAt (w : World) (B : Nat) (a : Option Addr) (n c : Nat) (l : List Bool) (p : Nat) : Prop where
  blk : w.heap[B]? = some (.cells #[.slice a n c, .int .i64 (p : Int)] 148 (0, 0))
  src : BoolsAt w a n c l
  apart : ∀ b off s, 0 < n → a = some ⟨b, off, s⟩ → b ≠ B
  le : p ≤ n

section
variable {w w' : World} {B : Nat} {a : Option Addr} {n c : Nat} {l : List Bool} {p : Nat}
theorem RRAt.c0 (h : RRAt w B a n c l p) : w.cell? ⟨B, 0, none⟩ = some (.slice a n c) := by
  rw [cell_of_row w B 0 _ _ (0, 0) h.blk]; rfl
theorem RRAt.c1 (h : RRAt w B a n c l p) : w.cell? ⟨B, 1, none⟩ = some (.int .i64 (p : Int)) := by
  rw [cell_of_row w B 1 _ _ (0, 0) h.blk]; rfl
theorem RRAt.f (h : RRAt w B a n c l p) (j : Nat) : w.frozen? ⟨B, j, none⟩ = false := frozen_of_row w B j _ _ h.blk
theorem RRAt.lt (h : RRAt w B a n c l p) : B < w.heap.size := (Array.getElem?_eq_some_iff.1 h.blk).1
theorem RRAt.drewN (h : RRAt w B a n c l p) (k : Nat) : RRAt (w.drewN k) B a n c l p := ⟨h.blk, h.src.drewN k, h.apart, h.le⟩
theorem RRAt.drew (h : RRAt w B a n c l p) : RRAt w.drew B a n c l p := ⟨h.blk, h.src.drewN 1, h.apart, h.le⟩
theorem RRAt.keptB (h : RRAt w B a n c l p) (hb : Below w.heap.size w w') : RRAt w' B a n c l p :=
  ⟨(hb.block B h.lt).trans h.blk, h.src.kept hb, h.apart, h.le⟩
theorem RRAt.set1 (h : RRAt w B a n c l p) (j : Nat) (hj : j ≤ n) :
    RRAt (w.setCell ⟨B, 1, none⟩ (.int .i64 (j : Int))) B a n c l j ∧ w.grownBy (w.setCell ⟨B, 1, none⟩ (.int .i64 (j : Int))) (some B) := by
  have hg : w.grownBy (w.setCell ⟨B, 1, none⟩ (.int .i64 (j : Int))) (some B) := ⟨rfl, rfl, rfl, by simp, fun k _ hk => heap_setCell_other w ⟨B, 1, none⟩ k _ (fun e => hk (by simp [e]))⟩
  refine ⟨⟨?_, h.src.grownE hg h.apart, h.apart, hj⟩, hg⟩
  rw [heap_setCell_same w B 1 _ _ _ h.blk]; rfl
theorem RRAt.other (h : RRAt w B a n c l p) {r : Nat} (hg : w.grownBy w' (some r)) (hB : B ≠ r) (ha : ∀ b off s, 0 < n → a = some ⟨b, off, s⟩ → b ≠ r) : RRAt w' B a n c l p :=
  ⟨(hg.block B h.lt (fun e => hB (Option.some.inj e))).trans h.blk, h.src.grownE hg ha, h.apart, h.le⟩
/-- the two readers never share memory -/
theorem RRAt.step (h : RRAt w B a n c l p) {B' : Nat} {a' : Option Addr} {n' c' : Nat} {xs : List Nat} {p' : Nat} (h' : RdAt w B' a' n' c' xs p') (hg : w.grownBy w' (some B')) : RRAt w' B a n c l p := by
  refine h.other hg ?_ ?_
  · rintro rfl
    have := h.blk.symm.trans h'.blk
    simp at this
  · rintro b off s hp ha rfl
    obtain ⟨b2, off2, ha2, _, hc⟩ := h.src.cells hp
    rw [ha] at ha2
    cases ha2
    have := hc 0 hp
    rw [cell_of_row w b _ _ _ (0, 0) h'.blk] at this
    match off, this with
    | 0, h => simp at h
    | 1, h => simp at h
    | k + 2, h => simp at h
theorem _root_.Go.Proofs.YtpbijdoemdoijaaGreatDoor.RdAt.step {B' : Nat} {a' : Option Addr} {n' c' : Nat} {xs : List Nat} {p' : Nat} (h' : RdAt w B' a' n' c' xs p') (h : RRAt w B a n c l p) (hg : w.grownBy w' (some B)) : RdAt w' B' a' n' c' xs p' := by
  refine h'.other hg ?_ ?_
  · intro e
    cases e
    have := h.blk.symm.trans h'.blk
    simp at this
  · intro hp b off s ha e
    cases e
    obtain ⟨b2, off2, ha2, _, hc⟩ := h'.src.cells hp
    rw [ha] at ha2
    cases ha2
    have := hc 0 hp
    rw [cell_of_row w B _ _ _ (0, 0) h.blk] at this
    match off, this with
    | 0, h => simp at h
    | 1, h => simp at h
    | k + 2, h => simp at h
end

theorem BoolsAt.sub {w : World} {b off n c : Nat} {l : List Bool} (h : BoolsAt w (some ⟨b, off, none⟩) n c l) (i m : Nat) (him : i + m ≤ n) (hm : 0 < m) : BoolsAt w (some ⟨b, off + i, none⟩) m (c - i) ((l.drop i).take m) := by
  have hl := h.len
  have hc := h.cap
  have hr := h.reach
  have hcm := h.capm
  refine ⟨by simp; omega, by omega, by omega, by omega, (fun e => by cases e), fun _ => ?_⟩
  obtain ⟨b', off', ha, hlt, hcell⟩ := h.cells (by omega)
  cases ha
  refine ⟨b, off + i, rfl, hlt, fun k hk => ?_⟩
  rw [Nat.add_assoc, hcell (i + k) (by omega)]
  have e : ((l.drop i).take m).getD k false = l.getD (i + k) false := by
    simp [List.getD, hk]
  rw [e]
theorem BoolsAt.subAny {w : World} {a : Option Addr} {n c : Nat} {l : List Bool} (h : BoolsAt w a n c l) (i m : Nat) (him : i + m ≤ n) : BoolsAt w (if c = i then a else a.map (·.add i)) m (c - i) ((l.drop i).take m) := by
  have hc := h.cap
  have hcm := h.capm
  rcases Nat.eq_zero_or_pos m with h0 | hp
  · subst h0
    rw [List.take_zero]
    refine ⟨rfl, Nat.zero_le _, Nat.zero_le _, by omega, fun e => ?_, fun h => absurd h (Nat.lt_irrefl 0)⟩
    split at e
    · omega
    · have hn : a = none := by cases a with | none => rfl | some _ => simp at e
      have := h.nl hn
      omega
  · obtain ⟨b, off, rfl, _, _⟩ := h.cells (by omega)
    rw [if_neg (by omega)]
    have h4 : (⟨b, off, none⟩ : Addr).add i = ⟨b, off + i, none⟩ := by unfold Addr.add; split <;> simp_all
    simp only [Option.map_some, h4]
    exact h.sub i m him hp
theorem size_bool (w : World) : (Go.sizeOf 4).run Tryz.prog w = .ok 1 w := by kernel_rfl
set_option maxRecDepth 100000 in
theorem slice_runB (a : Option Addr) (n c i m : Nat) (him : i + m ≤ c) (w : World) :
    (Instr.slice 24 (.slice a n c) (some (.int .i64 (i : Int))) (some (.int .i64 ((i : Int) + (m : Int)))) none).run Tryz.prog w = .ok (.slice (if c = i then a else a.map (·.add i)) m (c - i)) w := by
  have ht' : Tryz.prog.underlying 24 = some (.slice (Tryz.prog.elem 24)) := by simp [Program.elem, Tryz.underlying24]
  have he : Tryz.prog.elem 24 = 4 := by simp [Program.elem, Tryz.underlying24]
  rw [run_slice_lh w 24 _ _ _ ht' .i64 .i64 _ _ (by omega) (by omega) (by omega), he, size_bool]
  have e1 : ((i : Int) + (m : Int)).toNat = i + m := by omega
  simp only [Result.andThen, sliced, Int.toNat_natCast, e1, Nat.mul_one]
  congr 2
  omega

theorem nb_num (xs : List Nat) (p : Nat) : ∀ m, nb ((List.range m).map fun k => bitAt xs (p + k) == 1) = num xs p m
  | 0 => rfl
  | m + 1 => by
    rw [List.range_succ, List.map_append, List.map_singleton, nb_snoc, nb_num xs p m]
    have := bitAt_lt xs (p + m)
    have e : (bitAt xs (p + m) == 1).toNat = bitAt xs (p + m) := by
      rcases (show bitAt xs (p + m) = 0 ∨ bitAt xs (p + m) = 1 by omega) with h | h <;> rw [h] <;> rfl
    simp [num, e]
theorem row_part (xs : List Nat) (N p m : Nat) (h : p + m ≤ N) : ((rowTo xs N).drop p).take m = (List.range m).map fun k => bitAt xs (p + k) == 1 := by
  apply List.ext_getElem
  · simp [rowTo]; omega
  · intro i h1 h2
    simp [rowTo]

set_option maxRecDepth 100000 in
set_option maxHeartbeats 4000000 in
theorem rrbits_any {w : World} {B : Nat} {a : Option Addr} {n c : Nat} {xs : List Nat} {p : Nat} (hn : n ≤ 1024) (hx : xs.length = n) (h : RRAt w B a (8 * n) c (rowTo xs (8 * n)) p) (k : Int) (hmlo : -9223372036854775808 ≤ k) (hmhi : k ≤ 9223372036854775807) :
    Calls Tryz.prog 131 #[.pointer (some ⟨B, 0, none⟩), .int .i64 k] w fun e w' => e = .returned (.tuple #[.int .u32 ((rb xs p k).1 : Int), .int .i64 ((rb xs p k).2.1 : Int)]) ∧ RRAt w' B a (8 * n) c (rowTo xs (8 * n)) (rb xs p k).2.2 ∧ w.grownBy w' (some B) := by
  have h0 := h.c0
  have h1 := h.c1
  have f1 := h.f 1
  have hle := h.le
  have hcap := h.src.cap
  have hcm := h.src.capm
  have HH := Lib.hid h
  have HX := Lib.hid hx
  obtain ⟨N, hN⟩ : ∃ N, N = 8 * n := ⟨_, rfl⟩
  have hNm : N ≤ 8192 := by omega
  rw [← hN] at h0 hle hcap HH ⊢
  have HN := Lib.hid hN
  have HM1 := Lib.hid hmlo
  have HM2 := Lib.hid hmhi
  have e1 : IntKind.i64.wrap ((N : Int) - (p : Int)) = (N : Int) - (p : Int) := IntWalk.i64_in _ (by omega)
  clear h hx hN hmlo hmhi
  by_cases hneg : k < 0
  · have hr : rb xs p k = (0, 1, p) := by unfold rb; rw [if_pos (Or.inl hneg)]
    have HR := Lib.hid hr
    have d1 : decide (k < 0) = true := by simp; omega
    clear hr
    go_enter Tryz.func131, Tryz.ntmps131
    go_wp2_with fail
    go_ret2
    rw [HR.out]
    exact ⟨rfl, HH.out, World.grownBy.refl _ _⟩
  · by_cases hbig : 32 < k
    · have hr : rb xs p k = (0, 1, p) := by unfold rb; rw [if_pos (Or.inr hbig)]
      have HR := Lib.hid hr
      clear hr
      go_enter Tryz.func131, Tryz.ntmps131
      go_wp2_with fail
      go_ret2
      rw [HR.out]
      exact ⟨rfl, HH.out, World.grownBy.refl _ _⟩
    · obtain ⟨m, rfl⟩ := Int.eq_ofNat_of_zero_le (show 0 ≤ k by omega)
      have hm32 : m ≤ 32 := by omega
      by_cases hs : (N : Int) - (p : Int) < (m : Int)
      · have hr : rb xs p (m : Int) = (0, 3, p) := by unfold rb; rw [if_neg (by omega), if_pos (by rw [HX.out, ← HN.out]; simp; omega)]
        have HR := Lib.hid hr
        clear hr
        go_enter Tryz.func131, Tryz.ntmps131
        go_wp2_with fail
        go_quiet (fail)
        go_wp2_with fail
        go_ret2
        rw [HR.out]
        exact ⟨rfl, HH.out.drewN _, grown_drewN _ _ _⟩
      · have hr : rb xs p (m : Int) = (num xs p m, 0, p + m) := by unfold rb; rw [if_neg (by omega), if_neg (by rw [HX.out, ← HN.out]; simp; omega)]; simp
        have HR := Lib.hid hr
        have him : p + m ≤ N := by omega
        have hs2 : (m : Int) ≤ (N : Int) - (p : Int) := by omega
        have e2 : IntKind.i64.wrap ((p : Int) + (m : Int)) = (p : Int) + (m : Int) := IntWalk.i64_in _ (by omega)
        have e3 : IntKind.i64.wrap (p : Int) = (p : Int) := IntWalk.i64_in _ (by omega)
        clear hr hs
        go_enter Tryz.func131, Tryz.ntmps131
        go_wp2_with fail
        go_quiet (fail)
        go_wp2_with fail
        rename Nat => nq
        obtain ⟨w2, hw2⟩ : ∃ w2, w2 = w.drewN nq := ⟨_, rfl⟩
        have s2 : RRAt w2 B a N c (rowTo xs N) p := by rw [hw2]; exact HH.out.drewN nq
        have t2 : w.grownBy w2 (some B) := by rw [hw2]; exact grown_drewN _ _ _
        rw [← hw2]
        have m0 := s2.c0
        have m1 := s2.c1
        have mf := s2.f 1
        have S2 := Lib.hid s2
        have T2 := Lib.hid t2
        have hsl := slice_runB a N c p m (by omega)
        have hsub := s2.src.subAny p m him
        rw [row_part xs N p m him] at hsub
        generalize (if c = p then a else a.map (·.add p)) = A at hsl hsub
        have hnum : ∀ k, Calls Tryz.prog 84 #[.slice A m (c - p)] (w2.drewN k) fun e w' => e = .returned (.int .u32 (num xs p m : Int)) ∧ w' = w2.drewN k := fun k => (rnumb_any (hsub.drewN k) hm32).mono fun e w' h => ⟨by rw [h.1, nb_num], h.2.symm⟩
        have HNUM := Lib.hid hnum
        clear hw2 s2 t2 h0 h1 f1 hsub hnum
        go_quiet ((go_at_call 84; exact Calls.quiet_of_same (HNUM.out _)))
        go_wp2_with fail
        go_ret2
        rw [HR.out]
        obtain ⟨hs1, hg1⟩ := (S2.out.drewN _).set1 (p + m) him
        exact ⟨rfl, hs1, T2.out.trans' ((grown_drewN _ _ _).trans' hg1)⟩

/-- the next beginning of a byte -/
def al (p : Nat) : Nat := (p + 7) / 8 * 8

set_option maxRecDepth 100000 in
set_option maxHeartbeats 1000000 in
theorem rralign_any {w : World} {B : Nat} {a : Option Addr} {n c : Nat} {l : List Bool} {p : Nat} (hn : n ≤ 1024) (h : RRAt w B a (8 * n) c l p) :
    Calls Tryz.prog 135 #[.pointer (some ⟨B, 0, none⟩)] w fun e w' => e = .returned (.tuple #[]) ∧ RRAt w' B a (8 * n) c l (al p) ∧ w.grownBy w' (some B) := by
  have HH := Lib.hid h
  have hle := h.le
  clear h
  go_enter Tryz.func135, Tryz.ntmps135
  go_wp2_with fail
  go_loopg [] (al p - p) (fun k wr => ∃ q, k = al p - q ∧ p ≤ q ∧ q ≤ al p ∧ Hid (RRAt wr B a (8 * n) c l q) ∧ Hid (w.grownBy wr (some B)))
  case atStart => exact ⟨p, rfl, by omega, by unfold al; omega, HH, Lib.hid (World.grownBy.refl _ _)⟩
  case round =>
    obtain ⟨q, hk, hpq, hqa, HQ, HG⟩ := hrel
    have v1 := HQ.out.c1
    have f1 := HQ.out.f 1
    unfold al at hqa hk
    by_cases hz : q % 8 = 0
    · have e : q = al p := by unfold al; omega
      have z : ((q : Int) % 8 != 0) = false := by rw [bne_eq_false_iff_eq]; omega
      clear hk
      go_wp2_with fail
      go_end0
      exact ⟨rfl, by rw [← e]; exact HQ.out, HG.out⟩
    · have z : ((q : Int) % 8 != 0) = true := by rw [bne_iff_ne]; omega
      have hq1 : q + 1 ≤ 8 * n := by omega
      obtain ⟨s1, g1⟩ := HQ.out.set1 (q + 1) hq1
      have S1 := Lib.hid s1
      have G1 := Lib.hid (HG.out.trans' g1)
      clear s1 g1
      go_wp2_with fail
      go_roundg (al p - (q + 1))
      case rel => exact ⟨q + 1, rfl, by omega, by unfold al; omega, S1, G1⟩
      case measure => unfold al; omega

set_option maxHeartbeats 400000 in
theorem ralign_any {w : World} {B : Nat} {a : Option Addr} {n c : Nat} {xs : List Nat} {p : Nat} (h : RdAt w B a n c xs p) :
    Calls Tryz.prog 193 #[.pointer (some ⟨B, 0, none⟩)] w fun e w' => e = .returned (.tuple #[]) ∧ RdAt w' B a n c xs (al p) ∧ w.grownBy w' (some B) := by
  have h1 := h.c1
  have f1 := h.f 1
  have hle := h.le
  have hr := h.src.reach
  obtain ⟨s1, g1⟩ := h.set1 (al p) (by unfold al; omega)
  have S1 := Lib.hid s1
  have G1 := Lib.hid g1
  have e1 : IntKind.i64.wrap ((p : Int) + 7) = (p : Int) + 7 := IntWalk.i64_in _ (by omega)
  have e2 : IntKind.i64.wrap (((p : Int) + 7) / 8 * 8) = (al p : Int) := by rw [IntWalk.i64_in _ (by omega)]; unfold al; omega
  clear h s1 g1
  go_enter Tryz.func193, Tryz.ntmps193
  go_wp2_with fail
  go_end0
  exact ⟨rfl, S1.out, G1.out⟩

theorem rbits_nil (k : Int) (w : World) : Calls Tryz.prog 101 #[.pointer none, .int .i64 k] w fun e w' => e = .returned (.tuple #[.int .u32 0, .int .i64 1]) ∧ w = w' := by
  go_enter Tryz.func101, Tryz.ntmps101
  go_wp2_with fail
  go_ret2
  exact ⟨rfl, rfl⟩
theorem rat_nil (w : World) : Calls Tryz.prog 163 #[.pointer none] w fun e w' => e = .returned (.int .i64 0) ∧ w = w' := by
  go_enter Tryz.func163, Tryz.ntmps163
  go_wp2_with fail
  go_ret
  exact ⟨rfl, rfl⟩
theorem rleft_nil (w : World) : Calls Tryz.prog 139 #[.pointer none] w fun e w' => e = .returned (.int .i64 0) ∧ w = w' := by
  go_enter Tryz.func139, Tryz.ntmps139
  go_wp2_with fail
  go_ret
  exact ⟨rfl, rfl⟩
end Go.Proofs.YtpbijdoemdoijaaGreatDoor
end PkCa45_2
