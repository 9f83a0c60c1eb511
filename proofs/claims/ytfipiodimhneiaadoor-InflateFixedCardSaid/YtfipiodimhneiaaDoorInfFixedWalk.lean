/- The walk of InflateFixed: it returns true for all bytes. -/
import Derived.Test.YtfipiodimhneiaaDoorInfFixPlain
import Derived.Test.YtfipiodimhneiaaDoorBitsWriter2
namespace Go.Proofs.YtfipiodimhneiaaDoor
open Go.RowKit PrefPlain BitsPlain InfPlain StPlain FixPlain
set_option linter.unusedVariables false

theorem WrAt.below {w w' : World} {B base : Nat} {v : Value} {l : List Nat} (h : WrAt w B base v l) (hb : Below w.heap.size w w') : WrAt w' B base v l :=
  ⟨(hb.block B h.lt).trans h.blk, own_below h.own hb, h.bin⟩
/-- what is written behind k letters -/
def fixTo (xs : List Nat) (k : Nat) : List Nat := bitsOf 3 3 ++ cws (xs.take k)
theorem fixTo_next {xs : List Nat} {k : Nat} (h : k < xs.length) : fixTo xs (k + 1) = fixTo xs k ++ cw (xs.getD k 0) := by
  unfold fixTo
  have e : xs.take (k + 1) = xs.take k ++ [xs.getD k 0] := by
    rw [List.take_add_one, List.getElem?_eq_getElem h]; simp [h]
  rw [e, cws_snoc, List.append_assoc]
theorem fixTo_len (xs : List Nat) (k : Nat) : (fixTo xs k).length ≤ 3 + 9 * k := by
  unfold fixTo
  have := cws_len (xs.take k)
  have h2 : (xs.take k).length ≤ k := by rw [List.length_take]; omega
  rw [List.length_append, bitsOf_length]; omega
theorem fixTo_all {xs : List Nat} {k : Nat} (h : xs.length = k) : fixTo xs k ++ codeOf 0 7 7 = fixAll xs := by
  unfold fixTo fixAll; rw [List.take_of_length_le (by omega)]

set_option maxRecDepth 100000 in
set_option maxHeartbeats 4000000 in
theorem inflateFixed_walk (a0 : Option Addr) (len0 cap0 : Nat) (z0 : List Int) (w : World) (hO : Ordr w) (w0 : IsRow .u8 1 w a0 len0 cap0 z0) :
    Calls Tryd.prog 6 #[.slice a0 len0 cap0] w fun e w' => e = .returned (.bool true) ∧ Below w.heap.size w w' := by
  obtain ⟨xs, hx⟩ := w0.bytes
  have HL := Lib.hid (lives6_any hO)
  have HO := Lib.hid hO
  have HX := Lib.hid hx
  have hcap := hx.cap
  have hcapm := hx.capm
  clear w0 hx hO
  by_cases hbig : (2000 : Int) < (len0 : Int)
  · go_enter Tryd.func6, Tryd.ntmps6
    go_wp2_with fail
    refine HL.out.mono ?_
    rintro e w1 ⟨rfl, hb1⟩
    have HB1 := Lib.hid hb1
    have HL1 := Lib.hid (lives6_any (HO.out.below hb1))
    clear hb1
    go_wp2_with fail
    refine HL1.out.mono ?_
    rintro e w2 ⟨rfl, hb2⟩
    have HB2 := Lib.hid (HB1.out.trans (hb2.mono HB1.out.size))
    clear hb2
    go_wp2_with fail
    go_ret
    exact ⟨rfl, HB2.out⟩
  · have hb0 : (len0 : Int) ≤ 2000 := by omega
    clear hbig
    go_enter Tryd.func6, Tryd.ntmps6
    go_wp2_with fail
    refine HL.out.mono ?_
    rintro e w1 ⟨rfl, hbw1⟩
    have HB1 := Lib.hid hbw1
    obtain ⟨WB, hWB⟩ : ∃ WB, WB = w1.heap.size := ⟨_, rfl⟩
    obtain ⟨w2, hw2⟩ : ∃ w2, w2 = w1.alloc (.cells #[.slice none 0 0, .int .i64 0] 35) := ⟨_, rfl⟩
    have hb2 : Below w1.heap.size w1 w2 := by rw [hw2]; exact (Below.refl _ _).alloc (Nat.le_refl _) _
    have hwr : WrAt w2 WB WB (.slice none 0 0) [] := ⟨by rw [hw2, hWB]; exact heap_alloc_new w1 _, World.ownsRow_nil _ _ _ _, by intro x hx; cases hx⟩
    have hbs : WB ≤ w2.heap.size := by have := hb2.size; omega
    have HB3 := Lib.hid (wbits_any hwr hbs 3 (by omega) 3 (by omega) (by simp))
    have HB2 := Lib.hid hb2
    have HW2 := Lib.hid hw2
    have HWB := Lib.hid hWB
    clear hbw1 hw2 hWB hb2 hwr
    go_wp2_with fail
    rw [← HW2.out, ← HWB.out]
    refine HB3.out.mono ?_
    rintro e w3 ⟨rfl, v3, hwr3, ht3, hwt3⟩
    have HB13 := Lib.hid (show Below w1.heap.size w1 w3 from ht3.below HB2.out (Nat.le_of_eq HWB.out.symm) (fun k hk => by cases hk))
    have HWR3 := Lib.hid (show WrAt w3 WB WB v3 (fixTo xs 0) from by simpa [fixTo, cws] using hwr3)
    clear hwr3 ht3 hwt3
    go_wp2_with fail
    go_loopw [23] (fun s23 wr => ∃ (k : Nat) (v' : Value), k ≤ len0 ∧ s23 = .int .i64 (k : Int) ∧ Hid (WrAt wr WB WB v' (fixTo xs k)) ∧ Hid (Below w1.heap.size w1 wr)) (fun s23 _ => len0 - (intOf s23).toNat)
    case atStart => exact ⟨0, v3, by omega, rfl, HWR3, HB13⟩
    case round =>
      clear HWR3 HB13
      obtain ⟨k, v', hk, rfl, HWR, HBR⟩ := hrel
      rename World => wr
      have hb0r := HB1.out.trans (HBR.out.mono HB1.out.size)
      have HB0R := Lib.hid hb0r
      have hws : WB ≤ wr.heap.size := by have := HBR.out.size; have := HWB.out; omega
      have hfl := fixTo_len xs k
      by_cases hkm : k < len0
      · obtain ⟨b, off, rfl, hlt, hcell⟩ := (HX.out.kept hb0r).cells (by omega)
        have hck := hcell k hkm
        have hkl : k < xs.length := by have := HX.out.len; omega
        have HFN := Lib.hid (fixTo_next hkl)
        obtain ⟨x, hxx⟩ : ∃ x, x = xs.getD k 0 := ⟨_, rfl⟩
        have hx256 : x < 256 := by
          have e : xs.getD k 0 = xs[k] := by simp [hkl]
          rw [hxx, e]; exact HX.out.byte _ (List.getElem_mem hkl)
        rw [← hxx] at hck HFN
        clear hcell hxx hb0r
        by_cases hx144 : x < 144
        · have hc := wcode_any HWR.out hws (48 + x) (by omega) 8 (by omega) (by omega)
          rw [Int.natCast_add] at hc
          have HCD := Lib.hid hc
          have hxi : (x : Int) < 144 := by omega
          have HCW := Lib.hid (show cw x = codeOf (48 + x) 8 8 by unfold cw; rw [if_pos hx144])
          clear hc hx144
          go_wp2_with fail
          refine HCD.out.mono ?_
          rintro e w4 ⟨rfl, v4, hwr4, ht4, hwt4⟩
          have HWR4 := Lib.hid (show WrAt w4 WB WB v4 (fixTo xs (k + 1)) by rw [HFN.out, HCW.out]; exact hwr4)
          have HB4 := Lib.hid (ht4.below HBR.out (Nat.le_of_eq HWB.out.symm) (fun j hj => by have := (HWR.out.own.lt j hj).1; have := HWB.out; omega))
          clear hwr4 ht4 hwt4
          go_wp2_with fail
          go_roundw
          case rel => exact ⟨k + 1, v4, by omega, by go_num, HWR4, HB4⟩
          case measure => simp [intOf]; omega
        · have hc := wcode_any HWR.out hws (256 + x) (by omega) 9 (by omega) (by omega)
          rw [Int.natCast_add] at hc
          have HCD := Lib.hid hc
          have hxi : (144 : Int) ≤ (x : Int) := by omega
          have HCW := Lib.hid (show cw x = codeOf (256 + x) 9 9 by unfold cw; rw [if_neg hx144])
          clear hc hx144
          go_wp2_with fail
          refine HCD.out.mono ?_
          rintro e w4 ⟨rfl, v4, hwr4, ht4, hwt4⟩
          have HWR4 := Lib.hid (show WrAt w4 WB WB v4 (fixTo xs (k + 1)) by rw [HFN.out, HCW.out]; exact hwr4)
          have HB4 := Lib.hid (ht4.below HBR.out (Nat.le_of_eq HWB.out.symm) (fun j hj => by have := (HWR.out.own.lt j hj).1; have := HWB.out; omega))
          clear hwr4 ht4 hwt4
          go_wp2_with fail
          go_roundw
          case rel => exact ⟨k + 1, v4, by omega, by go_num, HWR4, HB4⟩
          case measure => simp [intOf]; omega
      · obtain rfl : k = len0 := by omega
        have HCD := Lib.hid (wcode_any HWR.out hws 0 (by omega) 7 (by omega) (by omega))
        have hxl := HX.out.len
        have HXL := Lib.hid hxl
        clear hb0r hkm hxl
        go_wp2_with fail
        refine HCD.out.mono ?_
        rintro e w4 ⟨rfl, v4, hwr4, ht4, hwt4⟩
        rw [fixTo_all HXL.out] at hwr4
        have hfa := fixAll_len xs
        have hcl := cws_len xs
        have hxl := HXL.out
        have HWR4 := Lib.hid hwr4
        have hb4 := ht4.below HBR.out (Nat.le_of_eq HWB.out.symm) (fun j hj => by have := (HWR.out.own.lt j hj).1; have := HWB.out; omega)
        have HB4 := Lib.hid hb4
        have HBY := Lib.hid (wbytes_any hwr4 (by omega))
        have hpk : (pack (fixAll xs)).length ≤ 3000 := by rw [pack_length]; omega
        obtain ⟨pn, hpn⟩ : ∃ pn, pn = (pack (fixAll xs)).length := ⟨_, rfl⟩
        rw [← hpn] at HBY hpk
        have HPN := Lib.hid hpn
        clear hwr4 ht4 hwt4 hb4 hfa hcl hxl hpn
        go_wp2_with fail
        refine HBY.out.mono ?_
        rintro e w5 ⟨ab, cb, rfl, hbb, hb5, _⟩
        have HB5 := Lib.hid (HB4.out.trans (hb5.mono HB4.out.size))
        have HWR5 := Lib.hid (HWR4.out.below hb5)
        have hb05 := HB1.out.trans (HB5.out.mono HB1.out.size)
        have hbl := hbb.len
        have HIN := Lib.hid (inflate_any hbb (HO.out.below hb05) 30000 2000 (by rw [hbl]; omega) (by omega) (by omega))
        have hip := inf_fix xs HX.out.byte 2000 (by have := HXL.out; omega) 30000 (by have := HXL.out; omega)
        rw [← HPN.out] at hip
        have HIP := Lib.hid hip
        have HB05 := Lib.hid hb05
        clear hbb hb5 hb05 hbl hip
        go_wp2_with fail
        refine HIN.out.mono ?_
        intro e w6 hout
        obtain ⟨ax, cx, rfl, hbx, hb6⟩ := hout.at2 HIP.out HXL.out (by omega)
        have HB6 := Lib.hid (HB05.out.trans (hb6.mono HB05.out.size))
        have hwr6 := HWR5.out.below hb6
        have HBY6 := wbytes_any hwr6 (by have := fixAll_len xs; have := cws_len xs; have := HXL.out; omega)
        rw [← HPN.out] at HBY6
        have HBYY := Lib.hid HBY6
        have HBX := Lib.hid hbx
        have hnn : ((pn : Int) == (pn : Int)) = true := by simp
        clear hout hbx hb6 hwr6 HBY6
        go_wp2_with fail
        refine HBYY.out.mono ?_
        rintro e w7 ⟨ac, cc, rfl, hbb7, hb7, _⟩
        have HB7 := Lib.hid (HB6.out.trans (hb7.mono HB6.out.size))
        have HSM := same_any (HBX.out.kept hb7) (HX.out.kept HB7.out)
        rw [beq_self_eq_true] at HSM
        have HSAME := Lib.hid HSM
        clear hbb7 hb7 HSM
        go_wp2_with fail
        refine HSAME.out.mono ?_
        rintro e w8 ⟨rfl, rfl⟩
        go_wp2_with fail
        go_ret
        exact ⟨rfl, HB7.out⟩
end Go.Proofs.YtfipiodimhneiaaDoor
