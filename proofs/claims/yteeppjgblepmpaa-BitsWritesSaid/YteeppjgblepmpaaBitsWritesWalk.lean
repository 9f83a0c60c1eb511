/- The walk of BitsWrites: it returns true for all rows of things to write. -/
import Derived.Test.YteeppjgblepmpaaBitsRPad
import Derived.Test.YteeppjgblepmpaaBitsTurnsWalk
import Derived.Test.YteeppjgblepmpaaPuts
namespace Go.Proofs.Yteeppjgblepmpaa
open Go.RowKit BitsPlain
set_option linter.unusedVariables false

theorem Touch.cell {w w' : World} {B : Nat} {v : Value} (h : Touch w w' B v) {p : Addr} (hp : p.block < w.heap.size) (hB : p.block ≠ B) (hv : some p.block ≠ v.ownBlock) : w'.cell? p = w.cell? p := by
  unfold World.cell?
  rw [h.block p.block hp hB hv]
theorem Touch.ofBelow {w w' : World} (h : Below w.heap.size w w') : Touch w w' w.heap.size (.slice none 0 0) :=
  ⟨h.os, h.tape, h.output, h.size, fun k hk _ _ => h.block k hk⟩
theorem WrAt.keptB {w w' : World} {B base : Nat} {v : Value} {l : List Nat} (h : WrAt w B base v l) (hb : Below w.heap.size w w') : WrAt w' B base v l :=
  h.other (Touch.ofBelow hb) (by have := h.lt; omega) (by simp [Value.ownBlock]) (fun k hk => ⟨by have := (h.own.lt k hk).2; omega, by simp [Value.ownBlock]⟩)

/-- the writer and the document's row, of the same bits, apart -/
structure St (w0 w : World) (v : Value) (l : List Nat) (ra : Option Addr) (rc : Nat) : Prop where
  wr : WrAt w w0.heap.size w0.heap.size v l
  row : BoolsAt w ra l.length rc (rowOf l)
  ap : ∀ b off s, 0 < l.length → ra = some ⟨b, off, s⟩ → b ≠ w0.heap.size ∧ some b ≠ v.ownBlock
  below : Below w0.heap.size w0 w

theorem St.keptB {w0 w w' : World} {v : Value} {l : List Nat} {ra : Option Addr} {rc : Nat} (h : St w0 w v l ra rc) (hb : Below w.heap.size w w') : St w0 w' v l ra rc :=
  ⟨h.wr.keptB hb, h.row.kept hb, h.ap, h.below.trans (hb.mono h.below.size)⟩
theorem St.alloc {w0 w : World} {v : Value} {l : List Nat} {ra : Option Addr} {rc : Nat} (h : St w0 w v l ra rc) (o : Obj) : St w0 (w.alloc o) v l ra rc :=
  h.keptB ((Below.refl _ _).alloc (Nat.le_refl _) o)
theorem St.row1 {w0 w w2 : World} {v : Value} {l : List Nat} {ra : Option Addr} {rc : Nat} (h : St w0 w v l ra rc) (ht : Touch w w2 w0.heap.size v) : BoolsAt w2 ra l.length rc (rowOf l) :=
  ⟨h.row.len, h.row.cap, h.row.reach, h.row.capm, h.row.nl, fun hp => by
    obtain ⟨b, off, ha, hlt, hc⟩ := h.row.cells hp
    obtain ⟨n1, n2⟩ := h.ap b off none hp ha
    exact ⟨b, off, ha, Nat.lt_of_lt_of_le hlt ht.size, fun k hk => (ht.cell (p := ⟨b, off + k, none⟩) hlt n1 n2).trans (hc k hk)⟩⟩
theorem St.next {w0 w w2 w3 : World} {v v2 : Value} {l l2 : List Nat} {ra ra3 : Option Addr} {rc rc3 : Nat} (h : St w0 w v l ra rc) (hw2 : WrAt w2 w0.heap.size w0.heap.size v2 l2) (ht : Touch w w2 w0.heap.size v)
    (hb3 : BoolsAt w3 ra3 l2.length rc3 (rowOf l2)) (hbel : Below w2.heap.size w2 w3) (hfr : ∀ b off s, ra3 = some ⟨b, off, s⟩ → w2.heap.size ≤ b) : St w0 w3 v2 l2 ra3 rc3 := by
  have hb2 : Below w0.heap.size w0 w2 := ht.below h.below (Nat.le_refl _) (fun j e => (h.wr.own.lt j e).1)
  refine ⟨hw2.keptB hbel, hb3, fun b off s hp ha => ?_, hb2.trans (hbel.mono hb2.size)⟩
  have h1 := hfr b off s ha
  have h2 := hw2.lt
  refine ⟨by omega, fun e => ?_⟩
  have := (hw2.own.lt b e.symm).2
  omega

set_option maxRecDepth 100000 in
set_option maxHeartbeats 1000000 in
theorem clone_own {a : Option Addr} {n c : Nat} {xs : List Nat} {w : World} (h : BytesAt w a n c xs) :
    Calls Try.prog 25 #[.slice a n c] w fun e w' => ∃ a' c' g, e = .returned (.slice a' n c') ∧ BytesAt w' a' n c' xs ∧ Below w.heap.size w w' ∧ w.heap.size ≤ g ∧ (0 < n → a' = some ⟨g, 0, none⟩ ∧ g < w'.heap.size ∧ ∃ cur, w'.heap[g]? = some (.cells cur 5 (0, 0)) ∧ n ≤ cur.size) := by
  have q : ∀ (w : World) (a : Option Addr) (n c n' c' : Nat), (binOp .eql 22 (.slice a n c) (.slice none n' c')).run Try.prog w = .ok (.bool a.isNone) w := fun w a n c n' c' => Lib.run_eql_slice_nil w _ _ a n c n' c' Try.underlying22
  have hown0 := World.ownsRow_lit (base := w.heap.size) (e := 5) (size := 1) w #[] 0 (Nat.le_refl _) (by unfold maxLen; omega) rfl
  have hreach := h.reach
  have hlen := h.len
  rcases a with _ | ad
  · have hc0 := h.nl rfl
    have hn0 : n = 0 := by have := h.cap; omega
    subst hn0
    subst hc0
    have HH := Lib.hid h
    clear h hlen
    go_enter Try.func25, Try.ntmps25
    go_wp2_with fail
    go_ret
    first
      | exact ⟨none, 0, w.heap.size, rfl, HH.out, Below.refl _ _, Nat.le_refl _, fun h => absurd h (Nat.lt_irrefl 0)⟩
      | exact ⟨none, 0, rfl, HH.out, Below.refl _ _, w.heap.size, Nat.le_refl _, fun h => absurd h (Nat.lt_irrefl 0)⟩
      | exact ⟨none, 0, rfl, HH.out, Below.refl _ _, w.heap.size, Nat.le_refl _⟩
  · have HH := Lib.hid h
    have ha := h.alloc (.cells #[] 5)
    have HA := Lib.hid ha
    clear h ha
    go_enter Try.func25, Try.ntmps25
    go_wp2_with (at_builtin; refine wpList_append_bytes rfl (.tmp 5) (.tmp 6) rfl w.heap.size _ _ [] rfl hown0 _ _ _ _ rfl HA.out (by omega) (by simp) ?_)
    intro v' w1 hown' hgrow
    have hown2 : w1.ownsRow w.heap.size 5 1 v' n (bv xs) := by simpa using hown'
    clear hown'
    have hb : Below w.heap.size w w1 := ((Below.refl _ _).alloc (Nat.le_refl _) _).grown hgrow (by simp) (fun k hk => by simp [Value.ownBlock] at hk; omega)
    go_wp2_with fail
    go_ret
    rcases hown2.2 with ⟨h0, h1⟩ | ⟨g, cap, cur, rfl, hg, hh, hn, hcap, hsz, htake⟩
    · subst h0
      subst h1
      obtain rfl : xs = [] := List.eq_nil_of_length_eq_zero hlen
      exact ⟨none, 0, _, rfl, BytesAt.empty _ _ _ (by omega) (fun _ => rfl), hb, Nat.le_refl _, fun h => absurd h (Nat.lt_irrefl 0)⟩
    · have hlt : g < w1.heap.size := (Array.getElem?_eq_some_iff.1 hh).1
      refine ⟨some ⟨g, 0, none⟩, cap, g, rfl, ⟨hlen, hn, HH.out.byte, hreach, (by unfold maxLen at hcap; exact hcap), (fun e => by cases e), fun hp => ⟨g, 0, rfl, hlt, fun i hi => ?_⟩⟩, hb, hg, fun _ => ⟨rfl, hlt, cur, hh, by omega⟩⟩
      have := hown2.cellAt i (by omega)
      rw [Nat.zero_add, this, bv_get _ _ (by omega)]

set_option maxRecDepth 100000 in
set_option maxHeartbeats 1000000 in
theorem wbytes_own {w : World} {B base : Nat} {v : Value} {l : List Nat} (h : WrAt w B base v l) (hlen : l.length ≤ 100000) :
    Calls Try.prog 22 #[.pointer (some ⟨B, 0, none⟩)] w fun e w' => ∃ a c g, e = .returned (.slice a (pack l).length c) ∧ BytesAt w' a (pack l).length c (pack l) ∧ Below w.heap.size w w' ∧ w.heap.size ≤ g ∧ (0 < (pack l).length → a = some ⟨g, 0, none⟩ ∧ g < w'.heap.size ∧ ∃ cur, w'.heap[g]? = some (.cells cur 5 (0, 0)) ∧ (pack l).length ≤ cur.size) := by
  have hpl := pack_len_le l hlen
  obtain ⟨a, c, rfl, hb, _⟩ := BytesAt.ofOwn h.own (pack_byte h.bin) (by omega)
  have h0 := h.c0
  have hc := clone_own hb
  have HC := Lib.hid hc
  clear h hb hc
  go_enter Try.func22, Try.ntmps22
  go_wp2_with fail
  refine HC.out.mono ?_
  rintro e w1 ⟨a', c', g, rfl, hb1, hbel, hg, hx⟩
  have HB1 := Lib.hid hb1
  have HX := Lib.hid hx
  clear hb1 hx
  go_wp2_with fail
  go_ret
  exact ⟨a', c', g, rfl, HB1.out, hbel, hg, HX.out⟩

set_option maxRecDepth 100000 in
set_option maxHeartbeats 32000000 in
theorem bitsWrites_walk (a0 : Option Addr) (len0 cap0 : Nat) (ps : Nat → PutV) (w : World) (w0 : PutsAt w a0 len0 cap0 ps) :
    Calls Try.prog 4 #[.slice a0 len0 cap0] w fun e w' => e = .returned (.bool true) ∧ Below w.heap.size w w' := by
  have hcap := w0.cap
  have hcm := w0.capm
  have hnl := w0.nl
  have HC := Lib.hid w0.cells
  clear w0
  have hst : St w ((w.alloc (.cells #[.slice none 0 0, .int .i64 0] 41)).alloc (.cells #[] 4)) (.slice none 0 0) [] (some ⟨w.heap.size + 1, 0, none⟩) 0 := by
    refine ⟨(wr_new w w.heap.size (Nat.le_refl _)).keptB ((Below.refl _ _).alloc (Nat.le_refl _) _), ⟨rfl, Nat.le_refl _, Nat.zero_le _, by omega, (fun e => by cases e), fun h => absurd h (Nat.lt_irrefl 0)⟩, fun b off s h _ => absurd h (Nat.lt_irrefl 0), ?_⟩
    exact ((Below.refl _ _).alloc (Nat.le_refl _) _).alloc (by simp) _
  have HST := Lib.hid hst
  clear hst
  by_cases hbig : (200 : Int) < (len0 : Int)
  · obtain ⟨m, hm⟩ : ∃ m, m = 200 := ⟨_, rfl⟩
    have hm2 : m ≤ 200 := by omega
    have hml : m ≤ len0 := by omega
    go_enter Try.func4, Try.ntmps4
    go_wp2_with fail
    rw [show (200 : Int) = (m : Int) from by omega]
    clear hbig hm
    go_loopw [4, 24] (fun s4 sk wr => ∃ (k : Nat) (v' : Value) (l : List Nat) (ra : Option Addr) (rc : Nat), k ≤ m ∧ sk = .int .i64 k ∧ s4 = .slice ra l.length rc ∧ l.length ≤ 40 * k ∧ Hid (St w wr v' l ra rc)) (fun _ sk _ => m - (intOf sk).toNat)
    case atStart => exact ⟨0, .slice none 0 0, [], some ⟨w.heap.size + 1, 0, none⟩, 0, by omega, rfl, rfl, by simp, HST⟩
    case round =>
      obtain ⟨k, v', l, ra, rc, hk, rfl, rfl, hl, HS⟩ := hrel
      rename World => wr
      by_cases hkm : k < m
      · obtain ⟨b, off, rfl, hlt, hc⟩ := HC.out (by omega)
        obtain ⟨q0, q1, q2, q3, qv, qn⟩ := hc k (by omega)
        obtain ⟨x, hx⟩ : ∃ x, x = ps k := ⟨_, rfl⟩
        rw [← hx] at q0 q1 q2 q3 qv qn
        have r0 := (HS.out.below.cell (p := ⟨b, off + k * 4, none⟩) hlt).trans q0
        have r1 := (HS.out.below.cell (p := ⟨b, off + k * 4 + 1, none⟩) hlt).trans q1
        have r2 := (HS.out.below.cell (p := ⟨b, off + k * 4 + 2, none⟩) hlt).trans q2
        have r3 := (HS.out.below.cell (p := ⟨b, off + k * 4 + 3, none⟩) hlt).trans q3
        obtain ⟨xv, xn, xc, xa⟩ := x
        simp only at r0 r1 r2 r3 qv qn
        have HQ := Lib.hid qv
        obtain ⟨wx, hwx⟩ : ∃ wx, wx = wr.alloc (.cells #[.int .u32 (xv : Int), .int .i64 xn, .bool xc, .bool xa] 43) := ⟨_, rfl⟩
        have HSX := Lib.hid (show St w wx v' l ra rc by rw [hwx]; exact HS.out.alloc _)
        have hbs : w.heap.size ≤ wx.heap.size := HSX.out.below.size
        obtain ⟨X, hX⟩ : ∃ X, X = wr.heap.size := ⟨_, rfl⟩
        have hx0 : wx.cell? ⟨X, 0, none⟩ = some (.int .u32 (xv : Int)) := by rw [hwx, hX]; simp
        have hx1 : wx.cell? ⟨X, 1, none⟩ = some (.int .i64 xn) := by rw [hwx, hX]; simp
        have hx2 : wx.cell? ⟨X, 2, none⟩ = some (.bool xc) := by rw [hwx, hX]; simp
        have HX0 := Lib.hid hx0
        have HX1 := Lib.hid hx1
        have HX2 := Lib.hid hx2
        have HXL := Lib.hid (show X < wx.heap.size by rw [hwx, hX]; simp)
        have HXB := Lib.hid (show X ≠ w.heap.size by have := HS.out.wr.lt; omega)
        have HXV := Lib.hid (show some X ≠ v'.ownBlock from fun e => by have := (HS.out.wr.own.lt X e.symm).2; omega)
        have HWX := Lib.hid hwx
        have HXE := Lib.hid hX
        clear hc q0 q1 q2 q3 hx qv hwx hX hx0 hx1 hx2 HS
        cases xc
        · by_cases hneg : xn < 0
          · cases xa
            · have d1 : decide (xn < 0) = true := by simp; omega
              have hbd : xn < 0 ∨ 32 < xn := Or.inl hneg
              have HBD := Lib.hid hbd
              clear hbd
              go_wp2_with fail
              rw [← HWX.out]
              refine (wbits_bad _ _ _ _ HBD.out).mono ?_
              rintro r w2 ⟨rfl, rfl⟩
              go_wp2_with fail
              go_roundw
              case rel => exact ⟨k + 1, v', l, ra, rc, by omega, by go_num, rfl, by omega, HSX⟩
              case measure => simp [intOf]; omega
            · have d1 : decide (xn < 0) = true := by simp; omega
              have hbd : xn < 0 ∨ 32 < xn := Or.inl hneg
              have HBD := Lib.hid hbd
              clear hbd
              go_wp2_with fail
              rw [← HWX.out]
              refine (walign_any HSX.out.wr (by omega)).mono ?_
              rintro r w2 ⟨rfl, hw2, ht2⟩
              have HW2 := Lib.hid hw2
              have HT2 := Lib.hid ht2
              have HR2 := Lib.hid (HSX.out.row1 ht2)
              clear hw2 ht2
              go_wp2_with fail
              refine (rpad_any HR2.out (by omega)).mono ?_
              rintro r w3 ⟨a3, c3, rfl, hb3, hbel3, hf3⟩
              have HS3 := Lib.hid (HSX.out.next HW2.out HT2.out (by rw [padB_len]; exact hb3) hbel3 hf3)
              clear hb3 hbel3 hf3
              go_wp2_with fail
              go_roundw
              case rel => exact ⟨k + 1, v', padB l, a3, c3, by omega, by go_num, by rw [padB_len], by rw [padB_len]; unfold al; omega, HS3⟩
              case measure => simp [intOf]; omega
          · by_cases hbig : 32 < xn
            · cases xa
              · have hbd : xn < 0 ∨ 32 < xn := Or.inr hbig
                have HBD := Lib.hid hbd
                clear hbd
                go_wp2_with fail
                rw [← HWX.out]
                refine (wbits_bad _ _ _ _ HBD.out).mono ?_
                rintro r w2 ⟨rfl, rfl⟩
                go_wp2_with fail
                go_roundw
                case rel => exact ⟨k + 1, v', l, ra, rc, by omega, by go_num, rfl, by omega, HSX⟩
                case measure => simp [intOf]; omega
              · have hbd : xn < 0 ∨ 32 < xn := Or.inr hbig
                have HBD := Lib.hid hbd
                clear hbd
                go_wp2_with fail
                rw [← HWX.out]
                refine (walign_any HSX.out.wr (by omega)).mono ?_
                rintro r w2 ⟨rfl, hw2, ht2⟩
                have HW2 := Lib.hid hw2
                have HT2 := Lib.hid ht2
                have HR2 := Lib.hid (HSX.out.row1 ht2)
                clear hw2 ht2
                go_wp2_with fail
                refine (rpad_any HR2.out (by omega)).mono ?_
                rintro r w3 ⟨a3, c3, rfl, hb3, hbel3, hf3⟩
                have HS3 := Lib.hid (HSX.out.next HW2.out HT2.out (by rw [padB_len]; exact hb3) hbel3 hf3)
                clear hb3 hbel3 hf3
                go_wp2_with fail
                go_roundw
                case rel => exact ⟨k + 1, v', padB l, a3, c3, by omega, by go_num, by rw [padB_len], by rw [padB_len]; unfold al; omega, HS3⟩
                case measure => simp [intOf]; omega
            · cases xa
              · obtain ⟨n, rfl⟩ := Int.eq_ofNat_of_zero_le (show 0 ≤ xn by omega)
                have hn : n ≤ 32 := by omega
                have d0 : decide ((n : Int) < 0) = false := by simp
                have d2 : decide ((32 : Int) < (n : Int)) = false := by simp; omega
                clear hneg hbig
                go_wp2_with fail
                rw [← HWX.out]
                refine (wbits_any HSX.out.wr hbs xv HQ.out n hn (by omega)).mono ?_
                rintro r w2 ⟨rfl, v2, hw2, ht2, hwt2⟩
                rw [← HXE.out]
                have y0 := (ht2.cell (p := ⟨X, 0, none⟩) HXL.out HXB.out HXV.out).trans HX0.out
                have y1 := (ht2.cell (p := ⟨X, 1, none⟩) HXL.out HXB.out HXV.out).trans HX1.out
                have y2 := (ht2.cell (p := ⟨X, 2, none⟩) HXL.out HXB.out HXV.out).trans HX2.out
                have HW2 := Lib.hid hw2
                have HT2 := Lib.hid ht2
                have HR2 := Lib.hid (HSX.out.row1 ht2)
                clear hw2 ht2 hwt2 HXE HWX
                go_wp2_with fail
                refine (rput_any HR2.out (by omega) xv HQ.out n (by omega) false).mono ?_
                rintro r w3 ⟨a3, c3, rfl, hb3, hbel3, hf3⟩
                have hlen3 : (l ++ bitsOf xv n).length = l.length + n := by rw [List.length_append, bitsOf_length]
                have HS3 := Lib.hid (HSX.out.next HW2.out HT2.out (by rw [hlen3]; exact hb3) hbel3 hf3)
                have HL3 := Lib.hid hlen3
                clear hb3 hbel3 hf3 hlen3
                go_wp2_with fail
                go_roundw
                case rel => exact ⟨k + 1, v2, _, a3, c3, by omega, by go_num, by rw [HL3.out], by rw [HL3.out]; omega, HS3⟩
                case measure => simp [intOf]; omega
              · obtain ⟨n, rfl⟩ := Int.eq_ofNat_of_zero_le (show 0 ≤ xn by omega)
                have hn : n ≤ 32 := by omega
                have d0 : decide ((n : Int) < 0) = false := by simp
                have d2 : decide ((32 : Int) < (n : Int)) = false := by simp; omega
                clear hneg hbig
                go_wp2_with fail
                rw [← HWX.out]
                refine (walign_any HSX.out.wr (by omega)).mono ?_
                rintro r w2 ⟨rfl, hw2, ht2⟩
                have HW2 := Lib.hid hw2
                have HT2 := Lib.hid ht2
                have HR2 := Lib.hid (HSX.out.row1 ht2)
                clear hw2 ht2
                go_wp2_with fail
                refine (rpad_any HR2.out (by omega)).mono ?_
                rintro r w3 ⟨a3, c3, rfl, hb3, hbel3, hf3⟩
                have HS3 := Lib.hid (HSX.out.next HW2.out HT2.out (by rw [padB_len]; exact hb3) hbel3 hf3)
                clear hb3 hbel3 hf3
                go_wp2_with fail
                go_roundw
                case rel => exact ⟨k + 1, v', padB l, a3, c3, by omega, by go_num, by rw [padB_len], by rw [padB_len]; unfold al; omega, HS3⟩
                case measure => simp [intOf]; omega
        · by_cases hneg : xn < 0
          · cases xa
            · have d1 : decide (xn < 0) = true := by simp; omega
              have hbd : xn < 0 ∨ 16 < xn := Or.inl hneg
              have HBD := Lib.hid hbd
              clear hbd
              go_wp2_with fail
              rw [← HWX.out]
              refine (wcode_bad _ _ _ _ HBD.out).mono ?_
              rintro r w2 ⟨rfl, rfl⟩
              go_wp2_with fail
              go_roundw
              case rel => exact ⟨k + 1, v', l, ra, rc, by omega, by go_num, rfl, by omega, HSX⟩
              case measure => simp [intOf]; omega
            · have d1 : decide (xn < 0) = true := by simp; omega
              have hbd : xn < 0 ∨ 16 < xn := Or.inl hneg
              have HBD := Lib.hid hbd
              clear hbd
              go_wp2_with fail
              rw [← HWX.out]
              refine (walign_any HSX.out.wr (by omega)).mono ?_
              rintro r w2 ⟨rfl, hw2, ht2⟩
              have HW2 := Lib.hid hw2
              have HT2 := Lib.hid ht2
              have HR2 := Lib.hid (HSX.out.row1 ht2)
              clear hw2 ht2
              go_wp2_with fail
              refine (rpad_any HR2.out (by omega)).mono ?_
              rintro r w3 ⟨a3, c3, rfl, hb3, hbel3, hf3⟩
              have HS3 := Lib.hid (HSX.out.next HW2.out HT2.out (by rw [padB_len]; exact hb3) hbel3 hf3)
              clear hb3 hbel3 hf3
              go_wp2_with fail
              go_roundw
              case rel => exact ⟨k + 1, v', padB l, a3, c3, by omega, by go_num, by rw [padB_len], by rw [padB_len]; unfold al; omega, HS3⟩
              case measure => simp [intOf]; omega
          · by_cases hbig : 16 < xn
            · cases xa
              · have hbd : xn < 0 ∨ 16 < xn := Or.inr hbig
                have HBD := Lib.hid hbd
                clear hbd
                go_wp2_with fail
                rw [← HWX.out]
                refine (wcode_bad _ _ _ _ HBD.out).mono ?_
                rintro r w2 ⟨rfl, rfl⟩
                go_wp2_with fail
                go_roundw
                case rel => exact ⟨k + 1, v', l, ra, rc, by omega, by go_num, rfl, by omega, HSX⟩
                case measure => simp [intOf]; omega
              · have hbd : xn < 0 ∨ 16 < xn := Or.inr hbig
                have HBD := Lib.hid hbd
                clear hbd
                go_wp2_with fail
                rw [← HWX.out]
                refine (walign_any HSX.out.wr (by omega)).mono ?_
                rintro r w2 ⟨rfl, hw2, ht2⟩
                have HW2 := Lib.hid hw2
                have HT2 := Lib.hid ht2
                have HR2 := Lib.hid (HSX.out.row1 ht2)
                clear hw2 ht2
                go_wp2_with fail
                refine (rpad_any HR2.out (by omega)).mono ?_
                rintro r w3 ⟨a3, c3, rfl, hb3, hbel3, hf3⟩
                have HS3 := Lib.hid (HSX.out.next HW2.out HT2.out (by rw [padB_len]; exact hb3) hbel3 hf3)
                clear hb3 hbel3 hf3
                go_wp2_with fail
                go_roundw
                case rel => exact ⟨k + 1, v', padB l, a3, c3, by omega, by go_num, by rw [padB_len], by rw [padB_len]; unfold al; omega, HS3⟩
                case measure => simp [intOf]; omega
            · cases xa
              · obtain ⟨n, rfl⟩ := Int.eq_ofNat_of_zero_le (show 0 ≤ xn by omega)
                have hn : n ≤ 16 := by omega
                have d0 : decide ((n : Int) < 0) = false := by simp
                have d2 : decide ((16 : Int) < (n : Int)) = false := by simp; omega
                clear hneg hbig
                go_wp2_with fail
                rw [← HWX.out]
                refine (wcode_any HSX.out.wr hbs xv HQ.out n hn (by omega)).mono ?_
                rintro r w2 ⟨rfl, v2, hw2, ht2, hwt2⟩
                rw [← HXE.out]
                have y0 := (ht2.cell (p := ⟨X, 0, none⟩) HXL.out HXB.out HXV.out).trans HX0.out
                have y1 := (ht2.cell (p := ⟨X, 1, none⟩) HXL.out HXB.out HXV.out).trans HX1.out
                have y2 := (ht2.cell (p := ⟨X, 2, none⟩) HXL.out HXB.out HXV.out).trans HX2.out
                have HW2 := Lib.hid hw2
                have HT2 := Lib.hid ht2
                have HR2 := Lib.hid (HSX.out.row1 ht2)
                clear hw2 ht2 hwt2 HXE HWX
                go_wp2_with fail
                refine (rput_any HR2.out (by omega) xv HQ.out n (by omega) true).mono ?_
                rintro r w3 ⟨a3, c3, rfl, hb3, hbel3, hf3⟩
                have hlen3 : (l ++ codeOf xv n n).length = l.length + n := by rw [List.length_append, codeOf_length]
                have HS3 := Lib.hid (HSX.out.next HW2.out HT2.out (by rw [hlen3]; exact hb3) hbel3 hf3)
                have HL3 := Lib.hid hlen3
                clear hb3 hbel3 hf3 hlen3
                go_wp2_with fail
                go_roundw
                case rel => exact ⟨k + 1, v2, _, a3, c3, by omega, by go_num, by rw [HL3.out], by rw [HL3.out]; omega, HS3⟩
                case measure => simp [intOf]; omega
              · obtain ⟨n, rfl⟩ := Int.eq_ofNat_of_zero_le (show 0 ≤ xn by omega)
                have hn : n ≤ 16 := by omega
                have d0 : decide ((n : Int) < 0) = false := by simp
                have d2 : decide ((16 : Int) < (n : Int)) = false := by simp; omega
                clear hneg hbig
                go_wp2_with fail
                rw [← HWX.out]
                refine (walign_any HSX.out.wr (by omega)).mono ?_
                rintro r w2 ⟨rfl, hw2, ht2⟩
                have HW2 := Lib.hid hw2
                have HT2 := Lib.hid ht2
                have HR2 := Lib.hid (HSX.out.row1 ht2)
                clear hw2 ht2
                go_wp2_with fail
                refine (rpad_any HR2.out (by omega)).mono ?_
                rintro r w3 ⟨a3, c3, rfl, hb3, hbel3, hf3⟩
                have HS3 := Lib.hid (HSX.out.next HW2.out HT2.out (by rw [padB_len]; exact hb3) hbel3 hf3)
                clear hb3 hbel3 hf3
                go_wp2_with fail
                go_roundw
                case rel => exact ⟨k + 1, v', padB l, a3, c3, by omega, by go_num, by rw [padB_len], by rw [padB_len]; unfold al; omega, HS3⟩
                case measure => simp [intOf]; omega
      · have hkm2 : k = m := by omega
        have hl8 : l.length ≤ 8000 := by omega
        have hpk := pack_len_le l (by omega)
        have HB1 := Lib.hid (wbytes_own HS.out.wr (by omega))
        clear hl
        go_wp2_with fail
        refine HB1.out.mono ?_
        rintro r w2 ⟨ab, cb, g, rfl, hb2, hbel2, hgs, hx2⟩
        have HS2 := Lib.hid (HS.out.keptB hbel2)
        have HX2 := Lib.hid hx2
        have HBB := Lib.hid hb2
        have HC2 := Lib.hid (wbytes_any HS2.out.wr (by omega))
        have HG2 := Lib.hid hgs
        have HGW := Lib.hid (Nat.le_trans HS.out.below.size hgs)
        have HGB := Lib.hid (show g ≠ w.heap.size from fun e => by have := HS.out.wr.lt; omega)
        have HGV := Lib.hid (show v'.ownBlock ≠ some g from fun e => by have := (HS.out.wr.own.lt g e).2; omega)
        have HGR := Lib.hid (show ∀ b off s, 0 < l.length → ra = some ⟨b, off, s⟩ → b ≠ g from fun b off s hp ha e => by
          obtain ⟨b', off', ha', hlt, _⟩ := HS.out.row.cells hp
          rw [ha] at ha'
          cases ha'
          omega)
        clear hb2 hbel2 hgs hx2
        go_wp2_with fail
        refine HC2.out.mono ?_
        rintro r w3 ⟨ac, cc, rfl, hb3, hbel3, hf3⟩
        have HS3 := Lib.hid (HS2.out.keptB hbel3)
        have HBC := Lib.hid hb3
        have HCG := Lib.hid (show ∀ b off s, 0 < (pack l).length → ac = some ⟨b, off, s⟩ → b ≠ g from fun b off s hp ha e => by
          have h1 := (HX2.out hp).2.1
          have h2 := hf3 b off s ha
          omega)
        have HX3 := Lib.hid (show 0 < (pack l).length → ab = some ⟨g, 0, none⟩ ∧ ∃ cur, w3.heap[g]? = some (.cells cur 5 (0, 0)) ∧ (pack l).length ≤ cur.size ∧ ∀ i, 0 ≤ i → i < (pack l).length → w3.cell? ⟨g, i, none⟩ = some (.int .u8 ((pack l).getD i 0 : Nat)) from fun hp => by
          obtain ⟨h1, h2, cur, h3, h4⟩ := HX2.out hp
          refine ⟨h1, cur, (hbel3.block g h2).trans h3, h4, fun i _ hi => ?_⟩
          obtain ⟨b', off', ha', hlt, hc⟩ := (HBB.out.kept hbel3).cells hp
          rw [h1] at ha'
          cases ha'
          have := hc i hi
          rw [Nat.zero_add] at this
          exact this)
        obtain ⟨P, hP⟩ : ∃ P, P = (pack l).length := ⟨_, rfl⟩
        have HP := Lib.hid hP
        rw [← hP] at HX3 HBC HCG hpk ⊢
        clear hb3 hbel3 hf3 hP HX2 HBB HC2 HS2
        go_wp2_with fail
        go_loopw [12, 88] (fun s12 sk wr => ∃ j : Nat, j ≤ P ∧ sk = .int .i64 j ∧ Hid (St w wr v' l ra rc) ∧ Hid (BytesAt wr ac P cc (pack l)) ∧ Hid (0 < P → ab = some ⟨g, 0, none⟩ ∧ ∃ cur, wr.heap[g]? = some (.cells cur 5 (0, 0)) ∧ P ≤ cur.size ∧ ∀ i, j ≤ i → i < P → wr.cell? ⟨g, i, none⟩ = some (.int .u8 ((pack l).getD i 0 : Nat)))) (fun _ sk _ => P - (intOf sk).toNat)
        case atStart => exact ⟨0, by omega, rfl, HS3, HBC, HX3⟩
        case round =>
          obtain ⟨j, hj, rfl, HS4, HB4, HX4⟩ := hrel
          rename World => wj
          by_cases hjP : j < P
          · obtain ⟨hab, cur, hg, hcs, hcl⟩ := HX4.out (by omega)
            subst hab
            have hcell := hcl j (Nat.le_refl _) hjP
            obtain ⟨y, hy⟩ : ∃ y, y = (pack l).getD j 0 := ⟨_, rfl⟩
            rw [← hy] at hcell
            have hfz : wj.frozen? ⟨g, j, none⟩ = false := frozen_of_row wj g j _ _ hg
            have hstep : ∀ z, St w (wj.setCell ⟨g, j, none⟩ z) v' l ra rc ∧ BytesAt (wj.setCell ⟨g, j, none⟩ z) ac P cc (pack l) ∧ ((some ⟨g, 0, none⟩ : Option Addr) = some ⟨g, 0, none⟩ ∧ ∃ cur, (wj.setCell ⟨g, j, none⟩ z).heap[g]? = some (.cells cur 5 (0, 0)) ∧ P ≤ cur.size ∧ ∀ i, j + 1 ≤ i → i < P → (wj.setCell ⟨g, j, none⟩ z).cell? ⟨g, i, none⟩ = some (.int .u8 ((pack l).getD i 0 : Nat))) := by
              intro z
              have hgrow : wj.grownBy (wj.setCell ⟨g, j, none⟩ z) (some g) := ⟨rfl, rfl, rfl, by simp, fun k _ hk => heap_setCell_other wj ⟨g, j, none⟩ k _ (fun e => hk (by simp [e]))⟩
              have ht : Touch wj (wj.setCell ⟨g, j, none⟩ z) g (.slice none 0 0) := ⟨rfl, rfl, rfl, by simp, fun k _ hk _ => heap_setCell_other wj ⟨g, j, none⟩ k _ hk⟩
              have hset := heap_setCell_same wj g j cur 5 z hg
              refine ⟨⟨HS4.out.wr.other ht (fun e => HGB.out e.symm) (by simp [Value.ownBlock]) (fun k hk => ⟨fun e => HGV.out (by rw [hk, e]), by simp [Value.ownBlock]⟩), HS4.out.row.grownE hgrow HGR.out, HS4.out.ap, HS4.out.below.grown hgrow HS4.out.below.size (fun k hk => by cases hk; exact HGW.out)⟩, ?_, rfl, _, hset, by simpa using hcs, fun i h1 h2 => ?_⟩
              · exact ⟨HB4.out.len, HB4.out.cap, HB4.out.byte, HB4.out.reach, HB4.out.capm, HB4.out.nl, fun hp => by
                  obtain ⟨b, off, ha, hlt, hc⟩ := HB4.out.cells hp
                  exact ⟨b, off, ha, Nat.lt_of_lt_of_le hlt hgrow.size, fun k hk => hgrow.cell (hc k hk) (fun e => HCG.out b off _ hp ha (Option.some.inj e))⟩⟩
              · have h3 := hcl i (by omega) h2
                rw [cell_of_row _ g i _ _ _ hset]
                rw [cell_of_row wj g i _ _ _ hg] at h3
                rw [Array.getElem?_setIfInBounds_ne (by omega)]
                exact h3
            have HSTEP := Lib.hid hstep
            clear hg hcl hy hstep HX4 HS4 HB4
            go_wp2_with fail
            go_roundw
            case rel => exact ⟨j + 1, by omega, by go_num, Lib.hid (HSTEP.out _).1, Lib.hid (HSTEP.out _).2.1, Lib.hid (fun _ => ⟨by simp, (HSTEP.out _).2.2.2⟩)⟩
            case measure => simp [intOf]; omega
          · clear HX4
            go_wp2_with fail
            refine (rbytes_any HS4.out.row HS4.out.wr.bin (by omega)).mono ?_
            rintro r w5 ⟨a5, c5, rfl, hb5, hbel5⟩
            have HB5 := Lib.hid hb5
            have HBC5 := Lib.hid (HB4.out.kept hbel5)
            have HS5 := Lib.hid (HS4.out.keptB hbel5)
            clear hb5 hbel5
            go_wp2_with fail
            refine (same_any HBC5.out HB5.out).mono ?_
            rintro r w6 ⟨rfl, rfl⟩
            rw [beq_self_eq_true]
            go_wp2_with fail
            refine (wbytes_any HS5.out.wr (by omega)).mono ?_
            rintro r w6 ⟨a6, c6, rfl, hb6, hbel6, _⟩
            have HB6 := Lib.hid hb6
            have HBC6 := Lib.hid (HBC5.out.kept hbel6)
            have HS6 := Lib.hid (HS5.out.keptB hbel6)
            clear hb6 hbel6
            go_wp2_with fail
            refine (same_any HB6.out HBC6.out).mono ?_
            rintro r w7 ⟨rfl, rfl⟩
            rw [beq_self_eq_true]
            go_wp2_with fail
            refine (wbits_nil _ _ _).mono ?_
            rintro r w7 ⟨rfl, rfl⟩
            go_wp2_with fail
            refine (wbytes_nil _).mono ?_
            rintro r w7 ⟨rfl, rfl⟩
            go_wp2_with fail
            go_ret
            exact ⟨rfl, HS6.out.below⟩
  · obtain ⟨m, hm⟩ : ∃ m, m = len0 := ⟨_, rfl⟩
    have hm2 : m ≤ 200 := by omega
    have hml : m ≤ len0 := by omega
    go_enter Try.func4, Try.ntmps4
    go_wp2_with fail
    rw [← hm]
    clear hbig hm
    go_loopw [4, 24] (fun s4 sk wr => ∃ (k : Nat) (v' : Value) (l : List Nat) (ra : Option Addr) (rc : Nat), k ≤ m ∧ sk = .int .i64 k ∧ s4 = .slice ra l.length rc ∧ l.length ≤ 40 * k ∧ Hid (St w wr v' l ra rc)) (fun _ sk _ => m - (intOf sk).toNat)
    case atStart => exact ⟨0, .slice none 0 0, [], some ⟨w.heap.size + 1, 0, none⟩, 0, by omega, rfl, rfl, by simp, HST⟩
    case round =>
      obtain ⟨k, v', l, ra, rc, hk, rfl, rfl, hl, HS⟩ := hrel
      rename World => wr
      by_cases hkm : k < m
      · obtain ⟨b, off, rfl, hlt, hc⟩ := HC.out (by omega)
        obtain ⟨q0, q1, q2, q3, qv, qn⟩ := hc k (by omega)
        obtain ⟨x, hx⟩ : ∃ x, x = ps k := ⟨_, rfl⟩
        rw [← hx] at q0 q1 q2 q3 qv qn
        have r0 := (HS.out.below.cell (p := ⟨b, off + k * 4, none⟩) hlt).trans q0
        have r1 := (HS.out.below.cell (p := ⟨b, off + k * 4 + 1, none⟩) hlt).trans q1
        have r2 := (HS.out.below.cell (p := ⟨b, off + k * 4 + 2, none⟩) hlt).trans q2
        have r3 := (HS.out.below.cell (p := ⟨b, off + k * 4 + 3, none⟩) hlt).trans q3
        obtain ⟨xv, xn, xc, xa⟩ := x
        simp only at r0 r1 r2 r3 qv qn
        have HQ := Lib.hid qv
        obtain ⟨wx, hwx⟩ : ∃ wx, wx = wr.alloc (.cells #[.int .u32 (xv : Int), .int .i64 xn, .bool xc, .bool xa] 43) := ⟨_, rfl⟩
        have HSX := Lib.hid (show St w wx v' l ra rc by rw [hwx]; exact HS.out.alloc _)
        have hbs : w.heap.size ≤ wx.heap.size := HSX.out.below.size
        obtain ⟨X, hX⟩ : ∃ X, X = wr.heap.size := ⟨_, rfl⟩
        have hx0 : wx.cell? ⟨X, 0, none⟩ = some (.int .u32 (xv : Int)) := by rw [hwx, hX]; simp
        have hx1 : wx.cell? ⟨X, 1, none⟩ = some (.int .i64 xn) := by rw [hwx, hX]; simp
        have hx2 : wx.cell? ⟨X, 2, none⟩ = some (.bool xc) := by rw [hwx, hX]; simp
        have HX0 := Lib.hid hx0
        have HX1 := Lib.hid hx1
        have HX2 := Lib.hid hx2
        have HXL := Lib.hid (show X < wx.heap.size by rw [hwx, hX]; simp)
        have HXB := Lib.hid (show X ≠ w.heap.size by have := HS.out.wr.lt; omega)
        have HXV := Lib.hid (show some X ≠ v'.ownBlock from fun e => by have := (HS.out.wr.own.lt X e.symm).2; omega)
        have HWX := Lib.hid hwx
        have HXE := Lib.hid hX
        clear hc q0 q1 q2 q3 hx qv hwx hX hx0 hx1 hx2 HS
        cases xc
        · by_cases hneg : xn < 0
          · cases xa
            · have d1 : decide (xn < 0) = true := by simp; omega
              have hbd : xn < 0 ∨ 32 < xn := Or.inl hneg
              have HBD := Lib.hid hbd
              clear hbd
              go_wp2_with fail
              rw [← HWX.out]
              refine (wbits_bad _ _ _ _ HBD.out).mono ?_
              rintro r w2 ⟨rfl, rfl⟩
              go_wp2_with fail
              go_roundw
              case rel => exact ⟨k + 1, v', l, ra, rc, by omega, by go_num, rfl, by omega, HSX⟩
              case measure => simp [intOf]; omega
            · have d1 : decide (xn < 0) = true := by simp; omega
              have hbd : xn < 0 ∨ 32 < xn := Or.inl hneg
              have HBD := Lib.hid hbd
              clear hbd
              go_wp2_with fail
              rw [← HWX.out]
              refine (walign_any HSX.out.wr (by omega)).mono ?_
              rintro r w2 ⟨rfl, hw2, ht2⟩
              have HW2 := Lib.hid hw2
              have HT2 := Lib.hid ht2
              have HR2 := Lib.hid (HSX.out.row1 ht2)
              clear hw2 ht2
              go_wp2_with fail
              refine (rpad_any HR2.out (by omega)).mono ?_
              rintro r w3 ⟨a3, c3, rfl, hb3, hbel3, hf3⟩
              have HS3 := Lib.hid (HSX.out.next HW2.out HT2.out (by rw [padB_len]; exact hb3) hbel3 hf3)
              clear hb3 hbel3 hf3
              go_wp2_with fail
              go_roundw
              case rel => exact ⟨k + 1, v', padB l, a3, c3, by omega, by go_num, by rw [padB_len], by rw [padB_len]; unfold al; omega, HS3⟩
              case measure => simp [intOf]; omega
          · by_cases hbig : 32 < xn
            · cases xa
              · have hbd : xn < 0 ∨ 32 < xn := Or.inr hbig
                have HBD := Lib.hid hbd
                clear hbd
                go_wp2_with fail
                rw [← HWX.out]
                refine (wbits_bad _ _ _ _ HBD.out).mono ?_
                rintro r w2 ⟨rfl, rfl⟩
                go_wp2_with fail
                go_roundw
                case rel => exact ⟨k + 1, v', l, ra, rc, by omega, by go_num, rfl, by omega, HSX⟩
                case measure => simp [intOf]; omega
              · have hbd : xn < 0 ∨ 32 < xn := Or.inr hbig
                have HBD := Lib.hid hbd
                clear hbd
                go_wp2_with fail
                rw [← HWX.out]
                refine (walign_any HSX.out.wr (by omega)).mono ?_
                rintro r w2 ⟨rfl, hw2, ht2⟩
                have HW2 := Lib.hid hw2
                have HT2 := Lib.hid ht2
                have HR2 := Lib.hid (HSX.out.row1 ht2)
                clear hw2 ht2
                go_wp2_with fail
                refine (rpad_any HR2.out (by omega)).mono ?_
                rintro r w3 ⟨a3, c3, rfl, hb3, hbel3, hf3⟩
                have HS3 := Lib.hid (HSX.out.next HW2.out HT2.out (by rw [padB_len]; exact hb3) hbel3 hf3)
                clear hb3 hbel3 hf3
                go_wp2_with fail
                go_roundw
                case rel => exact ⟨k + 1, v', padB l, a3, c3, by omega, by go_num, by rw [padB_len], by rw [padB_len]; unfold al; omega, HS3⟩
                case measure => simp [intOf]; omega
            · cases xa
              · obtain ⟨n, rfl⟩ := Int.eq_ofNat_of_zero_le (show 0 ≤ xn by omega)
                have hn : n ≤ 32 := by omega
                have d0 : decide ((n : Int) < 0) = false := by simp
                have d2 : decide ((32 : Int) < (n : Int)) = false := by simp; omega
                clear hneg hbig
                go_wp2_with fail
                rw [← HWX.out]
                refine (wbits_any HSX.out.wr hbs xv HQ.out n hn (by omega)).mono ?_
                rintro r w2 ⟨rfl, v2, hw2, ht2, hwt2⟩
                rw [← HXE.out]
                have y0 := (ht2.cell (p := ⟨X, 0, none⟩) HXL.out HXB.out HXV.out).trans HX0.out
                have y1 := (ht2.cell (p := ⟨X, 1, none⟩) HXL.out HXB.out HXV.out).trans HX1.out
                have y2 := (ht2.cell (p := ⟨X, 2, none⟩) HXL.out HXB.out HXV.out).trans HX2.out
                have HW2 := Lib.hid hw2
                have HT2 := Lib.hid ht2
                have HR2 := Lib.hid (HSX.out.row1 ht2)
                clear hw2 ht2 hwt2 HXE HWX
                go_wp2_with fail
                refine (rput_any HR2.out (by omega) xv HQ.out n (by omega) false).mono ?_
                rintro r w3 ⟨a3, c3, rfl, hb3, hbel3, hf3⟩
                have hlen3 : (l ++ bitsOf xv n).length = l.length + n := by rw [List.length_append, bitsOf_length]
                have HS3 := Lib.hid (HSX.out.next HW2.out HT2.out (by rw [hlen3]; exact hb3) hbel3 hf3)
                have HL3 := Lib.hid hlen3
                clear hb3 hbel3 hf3 hlen3
                go_wp2_with fail
                go_roundw
                case rel => exact ⟨k + 1, v2, _, a3, c3, by omega, by go_num, by rw [HL3.out], by rw [HL3.out]; omega, HS3⟩
                case measure => simp [intOf]; omega
              · obtain ⟨n, rfl⟩ := Int.eq_ofNat_of_zero_le (show 0 ≤ xn by omega)
                have hn : n ≤ 32 := by omega
                have d0 : decide ((n : Int) < 0) = false := by simp
                have d2 : decide ((32 : Int) < (n : Int)) = false := by simp; omega
                clear hneg hbig
                go_wp2_with fail
                rw [← HWX.out]
                refine (walign_any HSX.out.wr (by omega)).mono ?_
                rintro r w2 ⟨rfl, hw2, ht2⟩
                have HW2 := Lib.hid hw2
                have HT2 := Lib.hid ht2
                have HR2 := Lib.hid (HSX.out.row1 ht2)
                clear hw2 ht2
                go_wp2_with fail
                refine (rpad_any HR2.out (by omega)).mono ?_
                rintro r w3 ⟨a3, c3, rfl, hb3, hbel3, hf3⟩
                have HS3 := Lib.hid (HSX.out.next HW2.out HT2.out (by rw [padB_len]; exact hb3) hbel3 hf3)
                clear hb3 hbel3 hf3
                go_wp2_with fail
                go_roundw
                case rel => exact ⟨k + 1, v', padB l, a3, c3, by omega, by go_num, by rw [padB_len], by rw [padB_len]; unfold al; omega, HS3⟩
                case measure => simp [intOf]; omega
        · by_cases hneg : xn < 0
          · cases xa
            · have d1 : decide (xn < 0) = true := by simp; omega
              have hbd : xn < 0 ∨ 16 < xn := Or.inl hneg
              have HBD := Lib.hid hbd
              clear hbd
              go_wp2_with fail
              rw [← HWX.out]
              refine (wcode_bad _ _ _ _ HBD.out).mono ?_
              rintro r w2 ⟨rfl, rfl⟩
              go_wp2_with fail
              go_roundw
              case rel => exact ⟨k + 1, v', l, ra, rc, by omega, by go_num, rfl, by omega, HSX⟩
              case measure => simp [intOf]; omega
            · have d1 : decide (xn < 0) = true := by simp; omega
              have hbd : xn < 0 ∨ 16 < xn := Or.inl hneg
              have HBD := Lib.hid hbd
              clear hbd
              go_wp2_with fail
              rw [← HWX.out]
              refine (walign_any HSX.out.wr (by omega)).mono ?_
              rintro r w2 ⟨rfl, hw2, ht2⟩
              have HW2 := Lib.hid hw2
              have HT2 := Lib.hid ht2
              have HR2 := Lib.hid (HSX.out.row1 ht2)
              clear hw2 ht2
              go_wp2_with fail
              refine (rpad_any HR2.out (by omega)).mono ?_
              rintro r w3 ⟨a3, c3, rfl, hb3, hbel3, hf3⟩
              have HS3 := Lib.hid (HSX.out.next HW2.out HT2.out (by rw [padB_len]; exact hb3) hbel3 hf3)
              clear hb3 hbel3 hf3
              go_wp2_with fail
              go_roundw
              case rel => exact ⟨k + 1, v', padB l, a3, c3, by omega, by go_num, by rw [padB_len], by rw [padB_len]; unfold al; omega, HS3⟩
              case measure => simp [intOf]; omega
          · by_cases hbig : 16 < xn
            · cases xa
              · have hbd : xn < 0 ∨ 16 < xn := Or.inr hbig
                have HBD := Lib.hid hbd
                clear hbd
                go_wp2_with fail
                rw [← HWX.out]
                refine (wcode_bad _ _ _ _ HBD.out).mono ?_
                rintro r w2 ⟨rfl, rfl⟩
                go_wp2_with fail
                go_roundw
                case rel => exact ⟨k + 1, v', l, ra, rc, by omega, by go_num, rfl, by omega, HSX⟩
                case measure => simp [intOf]; omega
              · have hbd : xn < 0 ∨ 16 < xn := Or.inr hbig
                have HBD := Lib.hid hbd
                clear hbd
                go_wp2_with fail
                rw [← HWX.out]
                refine (walign_any HSX.out.wr (by omega)).mono ?_
                rintro r w2 ⟨rfl, hw2, ht2⟩
                have HW2 := Lib.hid hw2
                have HT2 := Lib.hid ht2
                have HR2 := Lib.hid (HSX.out.row1 ht2)
                clear hw2 ht2
                go_wp2_with fail
                refine (rpad_any HR2.out (by omega)).mono ?_
                rintro r w3 ⟨a3, c3, rfl, hb3, hbel3, hf3⟩
                have HS3 := Lib.hid (HSX.out.next HW2.out HT2.out (by rw [padB_len]; exact hb3) hbel3 hf3)
                clear hb3 hbel3 hf3
                go_wp2_with fail
                go_roundw
                case rel => exact ⟨k + 1, v', padB l, a3, c3, by omega, by go_num, by rw [padB_len], by rw [padB_len]; unfold al; omega, HS3⟩
                case measure => simp [intOf]; omega
            · cases xa
              · obtain ⟨n, rfl⟩ := Int.eq_ofNat_of_zero_le (show 0 ≤ xn by omega)
                have hn : n ≤ 16 := by omega
                have d0 : decide ((n : Int) < 0) = false := by simp
                have d2 : decide ((16 : Int) < (n : Int)) = false := by simp; omega
                clear hneg hbig
                go_wp2_with fail
                rw [← HWX.out]
                refine (wcode_any HSX.out.wr hbs xv HQ.out n hn (by omega)).mono ?_
                rintro r w2 ⟨rfl, v2, hw2, ht2, hwt2⟩
                rw [← HXE.out]
                have y0 := (ht2.cell (p := ⟨X, 0, none⟩) HXL.out HXB.out HXV.out).trans HX0.out
                have y1 := (ht2.cell (p := ⟨X, 1, none⟩) HXL.out HXB.out HXV.out).trans HX1.out
                have y2 := (ht2.cell (p := ⟨X, 2, none⟩) HXL.out HXB.out HXV.out).trans HX2.out
                have HW2 := Lib.hid hw2
                have HT2 := Lib.hid ht2
                have HR2 := Lib.hid (HSX.out.row1 ht2)
                clear hw2 ht2 hwt2 HXE HWX
                go_wp2_with fail
                refine (rput_any HR2.out (by omega) xv HQ.out n (by omega) true).mono ?_
                rintro r w3 ⟨a3, c3, rfl, hb3, hbel3, hf3⟩
                have hlen3 : (l ++ codeOf xv n n).length = l.length + n := by rw [List.length_append, codeOf_length]
                have HS3 := Lib.hid (HSX.out.next HW2.out HT2.out (by rw [hlen3]; exact hb3) hbel3 hf3)
                have HL3 := Lib.hid hlen3
                clear hb3 hbel3 hf3 hlen3
                go_wp2_with fail
                go_roundw
                case rel => exact ⟨k + 1, v2, _, a3, c3, by omega, by go_num, by rw [HL3.out], by rw [HL3.out]; omega, HS3⟩
                case measure => simp [intOf]; omega
              · obtain ⟨n, rfl⟩ := Int.eq_ofNat_of_zero_le (show 0 ≤ xn by omega)
                have hn : n ≤ 16 := by omega
                have d0 : decide ((n : Int) < 0) = false := by simp
                have d2 : decide ((16 : Int) < (n : Int)) = false := by simp; omega
                clear hneg hbig
                go_wp2_with fail
                rw [← HWX.out]
                refine (walign_any HSX.out.wr (by omega)).mono ?_
                rintro r w2 ⟨rfl, hw2, ht2⟩
                have HW2 := Lib.hid hw2
                have HT2 := Lib.hid ht2
                have HR2 := Lib.hid (HSX.out.row1 ht2)
                clear hw2 ht2
                go_wp2_with fail
                refine (rpad_any HR2.out (by omega)).mono ?_
                rintro r w3 ⟨a3, c3, rfl, hb3, hbel3, hf3⟩
                have HS3 := Lib.hid (HSX.out.next HW2.out HT2.out (by rw [padB_len]; exact hb3) hbel3 hf3)
                clear hb3 hbel3 hf3
                go_wp2_with fail
                go_roundw
                case rel => exact ⟨k + 1, v', padB l, a3, c3, by omega, by go_num, by rw [padB_len], by rw [padB_len]; unfold al; omega, HS3⟩
                case measure => simp [intOf]; omega
      · have hkm2 : k = m := by omega
        have hl8 : l.length ≤ 8000 := by omega
        have hpk := pack_len_le l (by omega)
        have HB1 := Lib.hid (wbytes_own HS.out.wr (by omega))
        clear hl
        go_wp2_with fail
        refine HB1.out.mono ?_
        rintro r w2 ⟨ab, cb, g, rfl, hb2, hbel2, hgs, hx2⟩
        have HS2 := Lib.hid (HS.out.keptB hbel2)
        have HX2 := Lib.hid hx2
        have HBB := Lib.hid hb2
        have HC2 := Lib.hid (wbytes_any HS2.out.wr (by omega))
        have HG2 := Lib.hid hgs
        have HGW := Lib.hid (Nat.le_trans HS.out.below.size hgs)
        have HGB := Lib.hid (show g ≠ w.heap.size from fun e => by have := HS.out.wr.lt; omega)
        have HGV := Lib.hid (show v'.ownBlock ≠ some g from fun e => by have := (HS.out.wr.own.lt g e).2; omega)
        have HGR := Lib.hid (show ∀ b off s, 0 < l.length → ra = some ⟨b, off, s⟩ → b ≠ g from fun b off s hp ha e => by
          obtain ⟨b', off', ha', hlt, _⟩ := HS.out.row.cells hp
          rw [ha] at ha'
          cases ha'
          omega)
        clear hb2 hbel2 hgs hx2
        go_wp2_with fail
        refine HC2.out.mono ?_
        rintro r w3 ⟨ac, cc, rfl, hb3, hbel3, hf3⟩
        have HS3 := Lib.hid (HS2.out.keptB hbel3)
        have HBC := Lib.hid hb3
        have HCG := Lib.hid (show ∀ b off s, 0 < (pack l).length → ac = some ⟨b, off, s⟩ → b ≠ g from fun b off s hp ha e => by
          have h1 := (HX2.out hp).2.1
          have h2 := hf3 b off s ha
          omega)
        have HX3 := Lib.hid (show 0 < (pack l).length → ab = some ⟨g, 0, none⟩ ∧ ∃ cur, w3.heap[g]? = some (.cells cur 5 (0, 0)) ∧ (pack l).length ≤ cur.size ∧ ∀ i, 0 ≤ i → i < (pack l).length → w3.cell? ⟨g, i, none⟩ = some (.int .u8 ((pack l).getD i 0 : Nat)) from fun hp => by
          obtain ⟨h1, h2, cur, h3, h4⟩ := HX2.out hp
          refine ⟨h1, cur, (hbel3.block g h2).trans h3, h4, fun i _ hi => ?_⟩
          obtain ⟨b', off', ha', hlt, hc⟩ := (HBB.out.kept hbel3).cells hp
          rw [h1] at ha'
          cases ha'
          have := hc i hi
          rw [Nat.zero_add] at this
          exact this)
        obtain ⟨P, hP⟩ : ∃ P, P = (pack l).length := ⟨_, rfl⟩
        have HP := Lib.hid hP
        rw [← hP] at HX3 HBC HCG hpk ⊢
        clear hb3 hbel3 hf3 hP HX2 HBB HC2 HS2
        go_wp2_with fail
        go_loopw [12, 88] (fun s12 sk wr => ∃ j : Nat, j ≤ P ∧ sk = .int .i64 j ∧ Hid (St w wr v' l ra rc) ∧ Hid (BytesAt wr ac P cc (pack l)) ∧ Hid (0 < P → ab = some ⟨g, 0, none⟩ ∧ ∃ cur, wr.heap[g]? = some (.cells cur 5 (0, 0)) ∧ P ≤ cur.size ∧ ∀ i, j ≤ i → i < P → wr.cell? ⟨g, i, none⟩ = some (.int .u8 ((pack l).getD i 0 : Nat)))) (fun _ sk _ => P - (intOf sk).toNat)
        case atStart => exact ⟨0, by omega, rfl, HS3, HBC, HX3⟩
        case round =>
          obtain ⟨j, hj, rfl, HS4, HB4, HX4⟩ := hrel
          rename World => wj
          by_cases hjP : j < P
          · obtain ⟨hab, cur, hg, hcs, hcl⟩ := HX4.out (by omega)
            subst hab
            have hcell := hcl j (Nat.le_refl _) hjP
            obtain ⟨y, hy⟩ : ∃ y, y = (pack l).getD j 0 := ⟨_, rfl⟩
            rw [← hy] at hcell
            have hfz : wj.frozen? ⟨g, j, none⟩ = false := frozen_of_row wj g j _ _ hg
            have hstep : ∀ z, St w (wj.setCell ⟨g, j, none⟩ z) v' l ra rc ∧ BytesAt (wj.setCell ⟨g, j, none⟩ z) ac P cc (pack l) ∧ ((some ⟨g, 0, none⟩ : Option Addr) = some ⟨g, 0, none⟩ ∧ ∃ cur, (wj.setCell ⟨g, j, none⟩ z).heap[g]? = some (.cells cur 5 (0, 0)) ∧ P ≤ cur.size ∧ ∀ i, j + 1 ≤ i → i < P → (wj.setCell ⟨g, j, none⟩ z).cell? ⟨g, i, none⟩ = some (.int .u8 ((pack l).getD i 0 : Nat))) := by
              intro z
              have hgrow : wj.grownBy (wj.setCell ⟨g, j, none⟩ z) (some g) := ⟨rfl, rfl, rfl, by simp, fun k _ hk => heap_setCell_other wj ⟨g, j, none⟩ k _ (fun e => hk (by simp [e]))⟩
              have ht : Touch wj (wj.setCell ⟨g, j, none⟩ z) g (.slice none 0 0) := ⟨rfl, rfl, rfl, by simp, fun k _ hk _ => heap_setCell_other wj ⟨g, j, none⟩ k _ hk⟩
              have hset := heap_setCell_same wj g j cur 5 z hg
              refine ⟨⟨HS4.out.wr.other ht (fun e => HGB.out e.symm) (by simp [Value.ownBlock]) (fun k hk => ⟨fun e => HGV.out (by rw [hk, e]), by simp [Value.ownBlock]⟩), HS4.out.row.grownE hgrow HGR.out, HS4.out.ap, HS4.out.below.grown hgrow HS4.out.below.size (fun k hk => by cases hk; exact HGW.out)⟩, ?_, rfl, _, hset, by simpa using hcs, fun i h1 h2 => ?_⟩
              · exact ⟨HB4.out.len, HB4.out.cap, HB4.out.byte, HB4.out.reach, HB4.out.capm, HB4.out.nl, fun hp => by
                  obtain ⟨b, off, ha, hlt, hc⟩ := HB4.out.cells hp
                  exact ⟨b, off, ha, Nat.lt_of_lt_of_le hlt hgrow.size, fun k hk => hgrow.cell (hc k hk) (fun e => HCG.out b off _ hp ha (Option.some.inj e))⟩⟩
              · have h3 := hcl i (by omega) h2
                rw [cell_of_row _ g i _ _ _ hset]
                rw [cell_of_row wj g i _ _ _ hg] at h3
                rw [Array.getElem?_setIfInBounds_ne (by omega)]
                exact h3
            have HSTEP := Lib.hid hstep
            clear hg hcl hy hstep HX4 HS4 HB4
            go_wp2_with fail
            go_roundw
            case rel => exact ⟨j + 1, by omega, by go_num, Lib.hid (HSTEP.out _).1, Lib.hid (HSTEP.out _).2.1, Lib.hid (fun _ => ⟨by simp, (HSTEP.out _).2.2.2⟩)⟩
            case measure => simp [intOf]; omega
          · clear HX4
            go_wp2_with fail
            refine (rbytes_any HS4.out.row HS4.out.wr.bin (by omega)).mono ?_
            rintro r w5 ⟨a5, c5, rfl, hb5, hbel5⟩
            have HB5 := Lib.hid hb5
            have HBC5 := Lib.hid (HB4.out.kept hbel5)
            have HS5 := Lib.hid (HS4.out.keptB hbel5)
            clear hb5 hbel5
            go_wp2_with fail
            refine (same_any HBC5.out HB5.out).mono ?_
            rintro r w6 ⟨rfl, rfl⟩
            rw [beq_self_eq_true]
            go_wp2_with fail
            refine (wbytes_any HS5.out.wr (by omega)).mono ?_
            rintro r w6 ⟨a6, c6, rfl, hb6, hbel6, _⟩
            have HB6 := Lib.hid hb6
            have HBC6 := Lib.hid (HBC5.out.kept hbel6)
            have HS6 := Lib.hid (HS5.out.keptB hbel6)
            clear hb6 hbel6
            go_wp2_with fail
            refine (same_any HB6.out HBC6.out).mono ?_
            rintro r w7 ⟨rfl, rfl⟩
            rw [beq_self_eq_true]
            go_wp2_with fail
            refine (wbits_nil _ _ _).mono ?_
            rintro r w7 ⟨rfl, rfl⟩
            go_wp2_with fail
            refine (wbytes_nil _).mono ?_
            rintro r w7 ⟨rfl, rfl⟩
            go_wp2_with fail
            go_ret
            exact ⟨rfl, HS6.out.below⟩
end Go.Proofs.Yteeppjgblepmpaa
