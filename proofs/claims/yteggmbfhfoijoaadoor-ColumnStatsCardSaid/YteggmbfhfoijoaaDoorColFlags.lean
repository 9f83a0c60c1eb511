/- Columns of flags: their content and back, walked. -/
import Derived.Test.YteggmbfhfoijoaaDoorSqLives
import Derived.Test.YteggmbfhfoijoaaDoorCur
import Derived.Test.YteggmbfhfoijoaaDoorNI
import Derived.Test.YteggmbfhfoijoaaDoorBitsReader
namespace Go.Proofs.YteggmbfhfoijoaaDoor
open Go.RowKit BitsPlain NumsPlain
set_option linter.unusedVariables false

theorem info_bool : (Tryd.prog.info? 4).map (fun i => (i.zero, i.size, i.bytes)) = some (some (.bool false), 1, 1) := by kernel_rfl
theorem own_lower {w : World} {base base' n size : Nat} {e : TypeId} {v : Value} {xs : List Value} (h : w.ownsRow base e size v n xs) (hb : base' ≤ base) : w.ownsRow base' e size v n xs := by
  refine ⟨h.1, ?_⟩
  rcases h.2 with g | ⟨g, cap, cur, e1, e2, e3⟩
  · exact .inl g
  · exact .inr ⟨g, cap, cur, e1, Nat.le_trans hb e2, e3⟩
/-- truths as values; a slice of them -/
def bl (l : List Bool) : List Value := l.map fun b => Value.bool b
theorem bl_get (l : List Bool) (i : Nat) (h : i < l.length) : (bl l)[i]? = some (.bool (l.getD i false)) := by simp [bl, h]
structure FlAt (w : World) (a : Option Addr) (n c : Nat) (l : List Bool) : Prop where
  len : l.length = n
  cap : n ≤ c
  capm : c ≤ 9223372036854775807
  nl : a = none → c = 0
  cells : 0 < n → ∃ b off, a = some ⟨b, off, none⟩ ∧ b < w.heap.size ∧ ∀ i, i < n → w.cell? ⟨b, off + i, none⟩ = some (.bool (l.getD i false))
theorem FlAt.keep {w w' : World} {a : Option Addr} {n c : Nat} {l : List Bool} (h : FlAt w a n c l) {B : Nat} (hb : Below B w w') (hB : w.heap.size ≤ B) : FlAt w' a n c l :=
  ⟨h.len, h.cap, h.capm, h.nl, fun hn => by
    obtain ⟨b, off, ha, hlt, hc⟩ := h.cells hn
    exact ⟨b, off, ha, Nat.lt_of_lt_of_le hlt hb.size, fun i hi => (hb.cell (p := ⟨b, off + i, none⟩) (Nat.lt_of_lt_of_le hlt hB)).trans (hc i hi)⟩⟩
theorem FlAt.kept {w w' : World} {a : Option Addr} {n c : Nat} {l : List Bool} (h : FlAt w a n c l) (hb : Below w.heap.size w w') : FlAt w' a n c l := h.keep hb (Nat.le_refl _)
theorem FlAt.ofOwn {w : World} {base n : Nat} {v : Value} {l : List Bool} (h : w.ownsRow base 4 1 v n (bl l)) :
    ∃ a c, v = .slice a n c ∧ FlAt w a n c l := by
  have hlen : l.length = n := by have := h.1; simpa [bl] using this
  rcases h.2 with ⟨h0, h1⟩ | ⟨g, cap, cur, rfl, hg, hh, hn, hcap, hsz, htake⟩
  · subst h1
    obtain rfl : l = [] := List.eq_nil_of_length_eq_zero hlen
    exact ⟨none, 0, h0, ⟨rfl, Nat.le_refl _, by omega, fun _ => rfl, fun h => absurd h (Nat.lt_irrefl 0)⟩⟩
  · have hlt : g < w.heap.size := (Array.getElem?_eq_some_iff.1 hh).1
    refine ⟨some ⟨g, 0, none⟩, cap, rfl, ⟨hlen, hn, (by unfold maxLen at hcap; exact hcap), (fun e => by cases e), fun hp => ⟨g, 0, rfl, hlt, fun i hi => ?_⟩⟩⟩
    have := h.cellAt i (by omega)
    rw [Nat.zero_add, this, bl_get _ _ (by omega)]
def bit (b : Bool) : Nat := if b then 1 else 0
def fbits (f : List Bool) : List Nat := f.map bit
theorem fbits_snoc {f : List Bool} {k : Nat} (h : k < f.length) : fbits (f.take (k + 1)) = fbits (f.take k) ++ [bit (f.getD k false)] := by
  unfold fbits
  rw [List.take_add_one, List.getElem?_eq_getElem h, List.map_append]
  simp [h]
theorem fbits_bin (f : List Bool) : Bin (fbits f) := by
  intro x hx
  unfold fbits at hx
  obtain ⟨b, _, rfl⟩ := List.mem_map.1 hx
  unfold bit
  split <;> omega
/-- the content of a column of flags -/
def flC (f : List Bool) : List Nat := pu f.length ++ pack (fbits f)

set_option maxRecDepth 100000 in
set_option maxHeartbeats 2000000 in
theorem number_nil {w : World} {k : Nat} (hk : k < 9223372036854775808) :
    Calls Tryd.prog 36 #[.slice none 0 0, .int .i64 (k : Int)] w fun e w' => ∃ v, e = .returned v ∧ w'.ownsRow w.heap.size 5 1 v (pu k).length (bv (pu k)) ∧ Below w.heap.size w w' := by
  have HP := Lib.hid (putu k (by omega) w)
  have h10 := pu_ten (n := k) (by omega)
  go_enter Tryd.func36, Tryd.ntmps36
  go_wp2_with fail
  refine HP.out.mono ?_
  rintro e w1 ⟨g, c, rfl, hg, hb1, hbel⟩
  have HB1 := Lib.hid hbel
  have H1 := Lib.hid hb1
  have HS := Lib.hid hbel.size
  have HO := Lib.hid (own_nil_bytes w1 w.heap.size)
  clear hb1 hbel hg
  go_wp2_with (at_builtin; refine wpList_append_bytes rfl (.tmp 5) (.tmp 8) rfl w.heap.size _ 0 [] rfl HO.out _ _ _ (pu k) rfl H1.out (by omega) HS.out ?_)
  intro v2 w2 ho2 hg2
  have HO2 := Lib.hid (show w2.ownsRow w.heap.size 5 1 v2 (pu k).length (bv (pu k)) from by simpa using ho2)
  have HB2 := Lib.hid (below_own HB1.out HO.out hg2 (Nat.le_refl _) HS.out)
  clear ho2 hg2
  go_wp2_with fail
  go_ret
  exact ⟨_, rfl, HO2.out, HB2.out⟩

set_option maxRecDepth 100000 in
set_option maxHeartbeats 4000000 in
theorem flagsContent_any {w : World} {a : Option Addr} {n c : Nat} {f : List Bool} (h : FlAt w a n c f) (hn : n ≤ 100000) :
    Calls Tryd.prog 21 #[.slice a n c] w fun e w' => ∃ v, e = .returned (.tuple #[v, .int .i64 0]) ∧ w'.ownsRow w.heap.size 5 1 v (flC f).length (bv (flC f)) ∧ Below w.heap.size w w' := by
  have hnew := wr_new w w.heap.size (by omega)
  obtain ⟨w1, hw1⟩ : ∃ w1, w1 = w.alloc (.cells #[.slice none 0 0, .int .i64 0] 65) := ⟨_, rfl⟩
  have b1 : Below w.heap.size w w1 := by rw [hw1]; exact (Below.refl _ _).alloc (Nat.le_refl _) _
  rw [← hw1] at hnew
  have hll := h.len
  have HW1 := Lib.hid hw1
  have HL1 := Lib.hid (show Wl w w1 (.slice none 0 0) [] from ⟨hnew, b1⟩)
  have HF := Lib.hid h
  have hcap := h.cap
  have hcm := h.capm
  clear h b1 hnew hw1
  go_enter Tryd.func21, Tryd.ntmps21
  go_wp2_with fail
  rw [← HW1.out]
  go_loopw [6, 7, 10] (fun _ _ s10 wr => ∃ (k : Nat) (v : Value), k ≤ n ∧ s10 = .int .i64 (k : Int) ∧ Hid (Wl w wr v (fbits (f.take k)))) (fun _ _ s10 _ => n - (intOf s10).toNat)
  case atStart => exact ⟨0, _, by omega, rfl, by simpa [fbits] using HL1⟩
  case round =>
    obtain ⟨k, v, hk, rfl, HL⟩ := hrel
    rename World => wr
    have hkl : (fbits (f.take k)).length = k := by unfold fbits; rw [List.length_map, List.length_take]; omega
    by_cases hkn : k < n
    · have hki : (k : Int) < (n : Int) := by omega
      obtain ⟨b1, off, rfl, hlt, hcell⟩ := (HF.out.keep HL.out.bel (Nat.le_refl _)).cells (by omega)
      have hc := hcell k hkn
      have hsn := fbits_snoc (f := f) (k := k) (by omega)
      obtain ⟨x, hx⟩ : ∃ x, x = f.getD k false := ⟨_, rfl⟩
      rw [← hx] at hc hsn
      clear hcell hx
      cases x
      · have HC := Lib.hid (wbits_any HL.out.wr HL.out.bel.size 0 (by omega) 1 (by omega) (by omega))
        have HSN := Lib.hid (show fbits (f.take (k + 1)) = fbits (f.take k) ++ bitsOf 0 1 from hsn)
        clear hsn hkl
        go_wp2_with fail
        refine HC.out.mono ?_
        rintro e w2 ⟨rfl, v2, h2, t2, g2⟩
        have HL2 := Lib.hid (show Wl w w2 v2 (fbits (f.take (k + 1))) from by rw [HSN.out]; exact HL.out.step h2 t2)
        clear h2 t2 g2
        go_wp2_with fail
        go_roundw
        case rel => exact ⟨k + 1, v2, by omega, by go_num, HL2⟩
        case measure => simp [intOf]; omega
      · have HC := Lib.hid (wbits_any HL.out.wr HL.out.bel.size 1 (by omega) 1 (by omega) (by omega))
        have HSN := Lib.hid (show fbits (f.take (k + 1)) = fbits (f.take k) ++ bitsOf 1 1 from hsn)
        clear hsn hkl
        go_wp2_with fail
        refine HC.out.mono ?_
        rintro e w2 ⟨rfl, v2, h2, t2, g2⟩
        have HL2 := Lib.hid (show Wl w w2 v2 (fbits (f.take (k + 1))) from by rw [HSN.out]; exact HL.out.step h2 t2)
        clear h2 t2 g2
        go_wp2_with fail
        go_roundw
        case rel => exact ⟨k + 1, v2, by omega, by go_num, HL2⟩
        case measure => simp [intOf]; omega
    · have hkn2 : k = n := by omega
      have hnn : ¬ ((k : Int) < (n : Int)) := by omega
      have HLE := Lib.hid (show Wl w wr v (fbits f) from by have := HL.out; rw [List.take_of_length_le (by omega)] at this; exact this)
      have HKL := Lib.hid (show (fbits f).length = n from by unfold fbits; rw [List.length_map]; omega)
      have HN := Lib.hid (number_nil (w := wr) (k := n) (by omega))
      clear hkn hkl hkn2
      go_wp2_with fail
      refine HN.out.mono ?_
      rintro e w2 ⟨v2, rfl, ho2, hb2⟩
      have HO2 := Lib.hid (own_lower ho2 HLE.out.bel.size)
      have HWR := Lib.hid (HLE.out.wr.grow hb2)
      have HB2 := Lib.hid (HLE.out.bel.trans (hb2.mono HLE.out.bel.size))
      have HBY := Lib.hid (wbytes_any HWR.out (by rw [HKL.out]; omega))
      clear ho2 hb2
      go_wp2_with fail
      refine HBY.out.mono ?_
      rintro e w3 ⟨a3, c3, rfl, h3, hb3, _⟩
      have HO3 := Lib.hid (own_below HO2.out hb3)
      have HB3 := Lib.hid (HB2.out.trans (hb3.mono HB2.out.size))
      have H3 := Lib.hid h3
      have HS3 := Lib.hid HB3.out.size
      have hpl := pack_len_le (fbits f) (by rw [HKL.out]; omega)
      have hpu := pu_ten (n := n) (by omega)
      clear h3 hb3
      go_wp2_with (at_builtin; refine wpList_append_bytes rfl (.tmp 20) (.tmp 21) rfl w.heap.size v2 (pu n).length (pu n) rfl HO3.out _ _ _ (pack (fbits f)) rfl H3.out (by omega) HS3.out ?_)
      intro v4 w4 ho4 hg4
      have HO4 := Lib.hid (show w4.ownsRow w.heap.size 5 1 v4 (flC f).length (bv (flC f)) from by unfold flC; rw [hll, List.length_append]; exact ho4)
      have HB4 := Lib.hid (below_own HB3.out HO3.out hg4 (Nat.le_refl _) HS3.out)
      clear ho4 hg4
      go_wp2_with fail
      first | go_ret2 | go_ret
      exact ⟨_, rfl, HO4.out, HB4.out⟩
end Go.Proofs.YteggmbfhfoijoaaDoor
