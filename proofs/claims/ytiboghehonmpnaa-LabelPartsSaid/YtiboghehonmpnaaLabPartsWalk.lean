/- The law LabelParts, walked. Written by genlabparts.py. -/
import Derived.Test.YtiboghehonmpnaaLabFew
import Derived.Test.YtiboghehonmpnaaLabOpen
import Derived.Test.YtiboghehonmpnaaLabRPart
namespace Go.Proofs.Ytiboghehonmpnaa
open Go.RowKit LabPlain
set_option linter.unusedVariables false

set_option maxRecDepth 100000 in
set_option maxHeartbeats 4000000 in
theorem label_parts (a : Option Addr) (n c : Nat) (l : List Lab) (a1 : Option Addr) (n1 c1 : Nat) (ss : List ByteArray) (nm : ByteArray) (w : World) (h : LabsAt w a n c l) (h1 : StrsAt w a1 n1 c1 ss) (hnm : nm.size ≤ 140737488351232) :
    Calls Try.prog 6 #[.slice a n c, .slice a1 n1 c1, .string nm] w fun e w' => e = .returned (.bool true) ∧ Below w.heap.size w w' := by
  have HH := Lib.hid h
  have HL := Lib.hid h.len
  have H1 := Lib.hid h1
  have cp0 := h.cap
  have cm0 := h.capm
  have cp1 := h1.cap
  have cm1 := h1.capm
  have HLV := Lib.hid (lives8_any w)
  clear h h1
  have quit : ∀ w1, Below w.heap.size w w1 → Calls Try.prog 10 #[] w1 fun e w' => e = .returned (.bool true) ∧ Below w.heap.size w w' := fun w1 h1 =>
    (lives8_any w1).mono fun e w' he => ⟨he.1, h1.trans (he.2.mono h1.size)⟩
  have HQ := Lib.hid quit
  clear quit
  cases hf : fewB l with
  | false =>
    have HF := Lib.hid hf
    clear hf
    go_enter Try.func6, Try.ntmps6
    go_wp2_with fail
    refine HLV.out.mono ?_
    rintro e w1 ⟨rfl, hb1⟩
    have HFW := Lib.hid (few_any (HH.out.kept hb1))
    have HB1 := Lib.hid hb1
    clear hb1
    go_wp2_with fail
    refine HFW.out.mono ?_
    rw [HF.out]
    rintro e w2 ⟨rfl, hb2⟩
    have HB2 := Lib.hid (HB1.out.trans (hb2.mono HB1.out.size))
    clear hb2
    go_wp2_with fail
    refine (HQ.out _ HB2.out).mono ?_
    rintro e w3 ⟨rfl, hb3⟩
    have HB3 := Lib.hid hb3
    clear hb3
    go_wp2_with fail
    go_ret
    exact ⟨rfl, HB3.out⟩
  | true =>
    have HF := Lib.hid hf
    have hn30 : n ≤ 30 := by
      unfold fewB at hf
      rw [Bool.and_eq_true, decide_eq_true_eq, HL.out] at hf
      exact hf.1
    have HN := Lib.hid (show n ≤ 1000 by omega)
    clear hf
    by_cases g1 : 30 < n1
    · have g1i : (30 : Int) < (n1 : Int) := by omega
      clear g1
      go_enter Try.func6, Try.ntmps6
      go_wp2_with fail
      refine HLV.out.mono ?_
      rintro e w1 ⟨rfl, hb1⟩
      have HFW := Lib.hid (few_any (HH.out.kept hb1))
      have HB1 := Lib.hid hb1
      clear hb1
      go_wp2_with fail
      refine HFW.out.mono ?_
      rw [HF.out]
      rintro e w2 ⟨rfl, hb2⟩
      have HB2 := Lib.hid (HB1.out.trans (hb2.mono HB1.out.size))
      clear hb2
      go_wp2_with fail
      refine (HQ.out _ HB2.out).mono ?_
      rintro e w3 ⟨rfl, hb3⟩
      have HB3 := Lib.hid hb3
      clear hb3
      go_wp2_with fail
      go_ret
      exact ⟨rfl, HB3.out⟩
    · have g1i : (n1 : Int) ≤ 30 := by omega
      go_enter Try.func6, Try.ntmps6
      go_wp2_with fail
      refine HLV.out.mono ?_
      rintro e w1 ⟨rfl, hb1⟩
      have HFW := Lib.hid (few_any (HH.out.kept hb1))
      have HB1 := Lib.hid hb1
      clear hb1
      go_wp2_with fail
      refine HFW.out.mono ?_
      rw [HF.out]
      rintro e w2 ⟨rfl, hb2⟩
      have HB2 := Lib.hid (HB1.out.trans (hb2.mono HB1.out.size))
      clear hb2
      go_wp2_with fail
      refine (twin_any (HH.out.kept HB2.out) HN.out).mono ?_
      rintro e w3 ⟨oa, oc, rfl, hat3, hb3⟩
      have HW3 := Lib.hid hat3
      have HB3 := Lib.hid (HB2.out.trans (hb3.mono HB2.out.size))
      clear hat3 hb3
      go_wp2_with fail
      refine (part_any HW3.out (H1.out.kept HB3.out) HN.out).mono ?_
      rintro e w4 ⟨pa, pc, rfl, hat4, hb4, ho4⟩
      have HL4 := Lib.hid (partTo_len l ss n)
      obtain ⟨pn, hpn⟩ : ∃ x, x = (partTo l ss n).length := ⟨_, rfl⟩
      rw [← hpn] at hat4 ho4
      rw [← hpn]
      have hpn30 : pn ≤ 30 := by have := HL4.out; omega
      clear hpn
      have HP4 := Lib.hid hat4
      have HO4 := Lib.hid ho4
      have HB4 := Lib.hid hb4
      have HC4 := Lib.hid (HB3.out.trans (hb4.mono HB3.out.size))
      clear hat4 ho4 hb4
      go_wp2_with fail
      refine (get2_any (HW3.out.kept HB4.out) nm).mono ?_
      rintro e w5 ⟨rfl, hb5⟩
      obtain ⟨gv, hgv⟩ : ∃ x, x = (fst1 nm l).1 := ⟨_, rfl⟩
      obtain ⟨gb, hgb⟩ : ∃ x, x = (fst1 nm l).2 := ⟨_, rfl⟩
      rw [← hgv, ← hgb]
      have HGV := Lib.hid hgv
      have HGB := Lib.hid hgb
      clear hgv hgb
      have HP5 := Lib.hid (HP4.out.kept hb5)
      have HO5 := Lib.hid (own_below HO4.out hb5)
      have HB5 := Lib.hid (HB4.out.trans (hb5.mono HB4.out.size))
      have HC5 := Lib.hid (HC4.out.trans (hb5.mono HC4.out.size))
      clear hb5
      go_wp2_with fail
      go_loopw [11, 12, 13] (fun s11 s12 s13 wr => ∃ (k : Nat) (sv : ByteArray) (sb : Bool), k ≤ n ∧ s13 = .int .i64 ((k : Int) - 1) ∧ s11 = .string sv ∧ s12 = .bool sb ∧ Hid (fst1 nm (l.drop k) = (sv, sb)) ∧ Hid (Below w5.heap.size w5 wr)) (fun _ _ s13 _ => (intOf s13 + 1).toNat)
      case atStart => exact ⟨n, ByteArray.empty, false, by omega, rfl, rfl, rfl, Lib.hid (by rw [List.drop_eq_nil_of_le (by rw [HL.out]; exact Nat.le_refl _)]; rfl), Lib.hid (Below.refl _ _)⟩
      case round =>
        obtain ⟨k, sv, sb, hk, rfl, rfl, rfl, HU, HB⟩ := hrel
        rename World => wr
        rcases k with _ | k
        · have HU0 := Lib.hid (show sv = gv ∧ sb = gb by
            have := HU.out
            rw [List.drop_zero] at this
            rw [HGV.out, HGB.out, this]; exact ⟨rfl, rfl⟩)
          obtain ⟨rfl, rfl⟩ := HU0.out
          clear HU HU0
          have HC6 := Lib.hid (HC5.out.trans (HB.out.mono HC5.out.size))
          have HB6 := Lib.hid (HB5.out.trans (HB.out.mono HB5.out.size))
          have HP6 := Lib.hid (HP5.out.kept HB.out)
          have HO6 := Lib.hid (own_below HO5.out HB.out)
          clear HB
          go_wp2_with fail
          refine (rpart_any (HH.out.kept HC6.out) (H1.out.kept HC6.out) HN.out).mono ?_
          rintro e w7 ⟨ra, rc, rfl, hat7, hb7⟩
          have HR7 := Lib.hid hat7
          have HP7 := Lib.hid (HP6.out.kept hb7)
          have HO7 := Lib.hid (own_below HO6.out hb7)
          have HB7 := Lib.hid (HB6.out.trans (hb7.mono HB6.out.size))
          have HC7 := Lib.hid (HC6.out.trans (hb7.mono HC6.out.size))
          clear hat7 hb7
          go_wp2_with fail
          refine (lsame_any HP7.out HR7.out).mono ?_
          rw [decide_eq_true rfl]
          rintro e w8 ⟨rfl, hb8⟩
          have HO8 := Lib.hid (own_below HO7.out hb8)
          have HB8 := Lib.hid (HB7.out.trans (hb8.mono HB7.out.size))
          have HC8 := Lib.hid (HC7.out.trans (hb8.mono HC7.out.size))
          clear hb8
          go_wp2_with fail
          go_loopw [76] (fun s76 wr => ∃ (k : Nat) (zs : List Value), k ≤ pn ∧ s76 = .int .i64 (k : Int) ∧ Hid (wr.ownsRow w3.heap.size 42 2 (.slice pa pn pc) pn zs) ∧ Hid (Below w3.heap.size w3 wr) ∧ Hid (Below w.heap.size w wr)) (fun s76 _ => pn - (intOf s76).toNat)
          case atStart => exact ⟨0, _, by omega, rfl, HO8, HB8, HC8⟩
          case round =>
            clear HO8 HB8 HC8
            obtain ⟨k, zs, hk, rfl, HO, HB, HC⟩ := hrel
            rename World => wr
            by_cases hkn : k < pn
            · obtain ⟨g, c', he⟩ := own_some2 HO.out (by omega)
              simp only [Value.slice.injEq, true_and] at he
              obtain ⟨rfl, rfl⟩ := he
              have hzl := HO.out.1
              obtain ⟨u, hu⟩ : ∃ u, zs[k * 2]? = some u := ⟨zs[k * 2]'(by omega), by simp [show k * 2 < zs.length by omega]⟩
              have hc1 : wr.cell? ⟨g, k * 2, none⟩ = some u := by rw [HO.out.cellAt _ (by omega), hu]
              have hf1 := HO.out.frozenAt (k * 2)
              have HG := Lib.hid (HO.out.lt g rfl).1
              have hst := HO.out.stored (k * 2) (.string { data := #[122] })
              have HST := Lib.hid hst.1
              have HBS := Lib.hid (show Below w3.heap.size w3 (wr.setCell ⟨g, k * 2, none⟩ (.string { data := #[122] })) from HB.out.setCell HG.out _)
              have HCS := Lib.hid (show Below w.heap.size w (wr.setCell ⟨g, k * 2, none⟩ (.string { data := #[122] })) from HC.out.setCell (Nat.le_trans HB3.out.size HG.out) _)
              have hki : (k : Int) < (pn : Int) := by omega
              have hcp : pn ≤ pc := HP4.out.cap
              clear hst hu hzl
              go_wp2_with fail
              go_roundw
              case rel => exact ⟨k + 1, _, by omega, by go_num, HST, HBS, HCS⟩
              case measure => simp [intOf] <;> omega
            · obtain rfl : k = pn := by omega
              clear hkn
              have HW9 := Lib.hid (HW3.out.kept HB.out)
              have HH9 := Lib.hid (HH.out.kept HC.out)
              go_wp2_with fail
              refine (lsame_any HW9.out HH9.out).mono ?_
              rw [decide_eq_true rfl]
              rintro e w9 ⟨rfl, hb9⟩
              have HC9 := Lib.hid (HC.out.trans (hb9.mono HC.out.size))
              clear hb9
              go_wp2_with fail
              go_ret
              exact ⟨rfl, HC9.out⟩
        · obtain ⟨b, off, rfl, hlt, hcell⟩ := (HH.out.kept (HC5.out.trans (HB.out.mono HC5.out.size))).cells (by omega)
          obtain ⟨h1, h2⟩ := hcell k (by omega)
          obtain ⟨x1, hx1⟩ : ∃ x, x = (l.getD k lab0).1 := ⟨_, rfl⟩
          obtain ⟨x2, hx2⟩ : ∃ x, x = (l.getD k lab0).2 := ⟨_, rfl⟩
          have hd := fst1_drop nm (l := l) (k := k) (by have := HL.out; omega)
          rw [← hx1] at h1
          rw [← hx2] at h2
          rw [← hx1, ← hx2] at hd
          have HD := Lib.hid hd
          clear hx1 hx2 hcell hd
          have hks : ((k + 1 : Nat) : Int) - 1 = (k : Int) := by omega
          rw [hks]
          have hkni : (k : Int) < (n : Int) := by omega
          have hk0 : (0 : Int) ≤ (k : Int) := by omega
          by_cases he : x1 = nm
          · have hq : (x1.toList == nm.toList) = true := by rw [eq_toList]; exact decide_eq_true he
            have HU2 := Lib.hid (show fst1 nm (l.drop k) = (x2, true) by rw [HD.out, if_pos he])
            clear he
            go_wp2_with fail
            go_roundw
            case rel => exact ⟨k, _, _, by omega, by go_num, rfl, rfl, HU2, HB⟩
            case measure => simp [intOf] <;> omega
          · have hq : (x1.toList == nm.toList) = false := by rw [eq_toList]; exact decide_eq_false he
            have HU2 := Lib.hid (show fst1 nm (l.drop k) = (sv, sb) by rw [HD.out, if_neg he]; exact HU.out)
            clear he
            go_wp2_with fail
            go_roundw
            case rel => exact ⟨k, _, _, by omega, by go_num, rfl, rfl, HU2, HB⟩
            case measure => simp [intOf] <;> omega
end Go.Proofs.Ytiboghehonmpnaa
