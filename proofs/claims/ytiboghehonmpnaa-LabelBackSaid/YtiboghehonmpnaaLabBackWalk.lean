/- The law LabelBack, walked. Written by genlabback.py. -/
import Derived.Test.YtiboghehonmpnaaLabFew
import Derived.Test.YtiboghehonmpnaaLabOpen
import Derived.Test.YtiboghehonmpnaaLabSame
import Derived.Test.YtiboghehonmpnaaLabParse
namespace Go.Proofs.Ytiboghehonmpnaa
open Go.RowKit LabPlain
set_option linter.unusedVariables false

theorem text_gen {w : World} {a : Option Addr} {n c : Nat} {l : List Lab} (h : LabsAt w a n c l) :
    Calls Try.prog 13 #[.slice a n c] w fun e w' => ∃ (u : ByteArray) (f : Int), e = .returned (.tuple #[.string u, .int .i64 f]) ∧ Below w.heap.size w w' := by
  cases hs : isSet l with
  | false => exact (text_no h hs).mono fun e w' he => ⟨_, _, he.1, he.2⟩
  | true => exact (text_yes h hs).mono fun e w' he => ⟨_, _, he.1, he.2⟩

set_option maxRecDepth 100000 in
set_option maxHeartbeats 4000000 in
theorem label_back (a : Option Addr) (n c : Nat) (l : List Lab) (a1 : Option Addr) (n1 c1 : Nat) (m : List Lab) (t : ByteArray) (w : World) (h : LabsAt w a n c l) (h1 : LabsAt w a1 n1 c1 m) (htz : t.size ≤ 140737488351232) (hmx : ∃ mx, w.cell? ⟨0, 0, none⟩ = some (.int .i64 mx)) :
    Calls Try.prog 5 #[.slice a n c, .slice a1 n1 c1, .string t] w fun e w' => e = .returned (.bool true) ∧ Below w.heap.size w w' := by
  obtain ⟨mx, hmx⟩ := hmx
  have h0w : 0 < w.heap.size := World.block_lt_of_cell? w _ hmx
  have HPA := Lib.hid (fun (x : ByteArray) (hx : x.size ≤ 1000) (w1 : World) (h : Below w.heap.size w w1) => parse_any x hx mx w1 ((h.cell (p := ⟨0, 0, none⟩) h0w).trans hmx))
  have HH := Lib.hid h
  have H1 := Lib.hid h1
  have HLV := Lib.hid (lives8_any w)
  clear h h1 hmx
  have quit : ∀ w1, Below w.heap.size w w1 → Calls Try.prog 10 #[] w1 fun e w' => e = .returned (.bool true) ∧ Below w.heap.size w w' := fun w1 h1 =>
    (lives8_any w1).mono fun e w' he => ⟨he.1, h1.trans (he.2.mono h1.size)⟩
  have HQ := Lib.hid quit
  clear quit
  cases hf : fewB l with
  | false =>
    have HF := Lib.hid hf
    clear hf
    go_enter Try.func5, Try.ntmps5
    go_wp2_with fail
    refine HLV.out.mono ?_
    rintro e w1 ⟨rfl, hb1⟩
    have HFW := Lib.hid (few_any (HH.out.kept hb1))
    have HB1 := Lib.hid hb1
    clear hb1
    go_wp2_with fail
    refine HFW.out.mono ?_
    rw [HF.out]
    rintro e w2 ⟨rfl, hb2⟩
    have HB2 := Lib.hid (HB1.out.trans (hb2.mono HB1.out.size))
    clear hb2
    go_wp2_with fail
    refine (HQ.out _ HB2.out).mono ?_
    rintro e w3 ⟨rfl, hb3⟩
    have HB3 := Lib.hid hb3
    clear hb3
    go_wp2_with fail
    go_ret
    exact ⟨rfl, HB3.out⟩
  | true =>
    have HF := Lib.hid hf
    clear hf
    cases hg : fewB m with
    | false =>
      have HG := Lib.hid hg
      clear hg
      go_enter Try.func5, Try.ntmps5
      go_wp2_with fail
      refine HLV.out.mono ?_
      rintro e w1 ⟨rfl, hb1⟩
      have HFW := Lib.hid (few_any (HH.out.kept hb1))
      have HB1 := Lib.hid hb1
      clear hb1
      go_wp2_with fail
      refine HFW.out.mono ?_
      rw [HF.out]
      rintro e w2 ⟨rfl, hb2⟩
      have HB2 := Lib.hid (HB1.out.trans (hb2.mono HB1.out.size))
      clear hb2
      go_wp2_with fail
      refine (few_any (H1.out.kept HB2.out)).mono ?_
      rw [HG.out]
      rintro e w2b ⟨rfl, hb2⟩
      replace HB2 := Lib.hid (HB2.out.trans (hb2.mono HB2.out.size))
      clear hb2
      go_wp2_with fail
      refine (HQ.out _ HB2.out).mono ?_
      rintro e w3 ⟨rfl, hb3⟩
      have HB3 := Lib.hid hb3
      clear hb3
      go_wp2_with fail
      go_ret
      exact ⟨rfl, HB3.out⟩
    | true =>
      have HG := Lib.hid hg
      clear hg
      by_cases g1 : 600 < t.size
      · have g1i : (600 : Int) < (t.size : Int) := by omega
        clear g1
        go_enter Try.func5, Try.ntmps5
        go_wp2_with fail
        refine HLV.out.mono ?_
        rintro e w1 ⟨rfl, hb1⟩
        have HFW := Lib.hid (few_any (HH.out.kept hb1))
        have HB1 := Lib.hid hb1
        clear hb1
        go_wp2_with fail
        refine HFW.out.mono ?_
        rw [HF.out]
        rintro e w2 ⟨rfl, hb2⟩
        have HB2 := Lib.hid (HB1.out.trans (hb2.mono HB1.out.size))
        clear hb2
        go_wp2_with fail
        refine (few_any (H1.out.kept HB2.out)).mono ?_
        rw [HG.out]
        rintro e w2b ⟨rfl, hb2⟩
        replace HB2 := Lib.hid (HB2.out.trans (hb2.mono HB2.out.size))
        clear hb2
        go_wp2_with fail
        refine (HQ.out _ HB2.out).mono ?_
        rintro e w3 ⟨rfl, hb3⟩
        have HB3 := Lib.hid hb3
        clear hb3
        go_wp2_with fail
        go_ret
        exact ⟨rfl, HB3.out⟩
      · have g1i : (t.size : Int) ≤ 600 := by omega
        have ht6 : t.size ≤ 1000 := by omega
        clear g1
        cases hl : isSet l with
        | false =>
          have HSl := Lib.hid hl
          clear hl
          go_enter Try.func5, Try.ntmps5
          go_wp2_with fail
          refine HLV.out.mono ?_
          rintro e w1 ⟨rfl, hb1⟩
          have HFW := Lib.hid (few_any (HH.out.kept hb1))
          have HB1 := Lib.hid hb1
          clear hb1
          go_wp2_with fail
          refine HFW.out.mono ?_
          rw [HF.out]
          rintro e w2 ⟨rfl, hb2⟩
          have HB2 := Lib.hid (HB1.out.trans (hb2.mono HB1.out.size))
          clear hb2
          go_wp2_with fail
          refine (few_any (H1.out.kept HB2.out)).mono ?_
          rw [HG.out]
          rintro e w2b ⟨rfl, hb2⟩
          replace HB2 := Lib.hid (HB2.out.trans (hb2.mono HB2.out.size))
          clear hb2
          go_wp2_with fail
          refine (text_no (HH.out.kept HB2.out) HSl.out).mono ?_
          rintro e w3 ⟨rfl, hb3⟩
          have HB3 := Lib.hid (HB2.out.trans (hb3.mono HB2.out.size))
          clear hb3
          go_wp2_with fail
          refine (text_gen (H1.out.kept HB3.out)).mono ?_
          rintro e w4 ⟨su, fu, rfl, hb4⟩
          have HB4 := Lib.hid (HB3.out.trans (hb4.mono HB3.out.size))
          clear hb4
          go_wp2_with fail
          cases hst : setIn t with
          | none =>
            have HST := Lib.hid hst
            clear hst
            refine (HPA.out t ht6 _ HB4.out).mono ?_
            rw [HST.out]
            rintro e w8 ⟨pa, pn, pc, rfl, hat, hb8⟩
            have HB8 := Lib.hid (HB4.out.trans (hb8.mono HB4.out.size))
            clear hat hb8
            go_wp2_with fail
            go_ret
            exact ⟨rfl, HB8.out⟩
          | some y =>
            have HST := Lib.hid hst
            have HSY := Lib.hid (setIn_sound hst).1
            have hte := (setIn_sound hst).2
            clear hst
            refine (HPA.out t ht6 _ HB4.out).mono ?_
            rw [HST.out]
            rintro e w8 ⟨pa, pn, pc, rfl, hat, hb8⟩
            have HB8 := Lib.hid (HB4.out.trans (hb8.mono HB4.out.size))
            have HT8 := Lib.hid (text_yes hat HSY.out)
            rw [show textOf ((some y).getD []) = t from hte] at HT8
            clear hat hb8 hte
            go_wp2_with fail
            refine HT8.out.mono ?_
            rintro e w9 ⟨rfl, hb9⟩
            have HB9 := Lib.hid (HB8.out.trans (hb9.mono HB8.out.size))
            clear hb9
            go_wp2_with fail
            go_ret
            exact ⟨rfl, HB9.out⟩
        | true =>
          have HSl := Lib.hid hl
          have HPL := Lib.hid (setIn_whole hl)
          have htl : (textOf l).size ≤ 1000 := by
            have h4 := textTo_size hl l.length (Nat.le_refl _)
            have h5 : l.length ≤ 4 := ((Bool.and_eq_true _ _).mp hl |>.1 |> of_decide_eq_true)
            unfold textOf
            rw [ByteArray.size_append, show ({ data := #[125] } : ByteArray).size = 1 from rfl]; omega
          cases hm : isSet m with
          | false =>
            have HSm := Lib.hid hm
            clear hl hm
            go_enter Try.func5, Try.ntmps5
            go_wp2_with fail
            refine HLV.out.mono ?_
            rintro e w1 ⟨rfl, hb1⟩
            have HFW := Lib.hid (few_any (HH.out.kept hb1))
            have HB1 := Lib.hid hb1
            clear hb1
            go_wp2_with fail
            refine HFW.out.mono ?_
            rw [HF.out]
            rintro e w2 ⟨rfl, hb2⟩
            have HB2 := Lib.hid (HB1.out.trans (hb2.mono HB1.out.size))
            clear hb2
            go_wp2_with fail
            refine (few_any (H1.out.kept HB2.out)).mono ?_
            rw [HG.out]
            rintro e w2b ⟨rfl, hb2⟩
            replace HB2 := Lib.hid (HB2.out.trans (hb2.mono HB2.out.size))
            clear hb2
            go_wp2_with fail
            refine (text_yes (HH.out.kept HB2.out) HSl.out).mono ?_
            rintro e w3 ⟨rfl, hb3⟩
            have HB3 := Lib.hid (HB2.out.trans (hb3.mono HB2.out.size))
            clear hb3
            go_wp2_with fail
            refine (text_no (H1.out.kept HB3.out) HSm.out).mono ?_
            rintro e w4 ⟨rfl, hb4⟩
            have HB4 := Lib.hid (HB3.out.trans (hb4.mono HB3.out.size))
            clear hb4
            go_wp2_with fail
            refine (HPA.out (textOf l) htl _ HB4.out).mono ?_
            rw [HPL.out]
            rintro e w5 ⟨xa, xn, xc, rfl, hat5, hb5⟩
            have HX5 := Lib.hid hat5
            have HB5 := Lib.hid (HB4.out.trans (hb5.mono HB4.out.size))
            clear hat5 hb5
            go_wp2_with fail
            refine (lsame_any HX5.out (HH.out.kept HB5.out)).mono ?_
            rw [show decide ((some l).getD [] = l) = true from decide_eq_true rfl]
            rintro e w6 ⟨rfl, hb6⟩
            have HB6 := Lib.hid (HB5.out.trans (hb6.mono HB5.out.size))
            clear hb6
            go_wp2_with fail
            cases hst : setIn t with
            | none =>
              have HST := Lib.hid hst
              clear hst
              refine (HPA.out t ht6 _ HB6.out).mono ?_
              rw [HST.out]
              rintro e w8 ⟨pa, pn, pc, rfl, hat, hb8⟩
              have HB8 := Lib.hid (HB6.out.trans (hb8.mono HB6.out.size))
              clear hat hb8
              go_wp2_with fail
              go_ret
              exact ⟨rfl, HB8.out⟩
            | some y =>
              have HST := Lib.hid hst
              have HSY := Lib.hid (setIn_sound hst).1
              have hte := (setIn_sound hst).2
              clear hst
              refine (HPA.out t ht6 _ HB6.out).mono ?_
              rw [HST.out]
              rintro e w8 ⟨pa, pn, pc, rfl, hat, hb8⟩
              have HB8 := Lib.hid (HB6.out.trans (hb8.mono HB6.out.size))
              have HT8 := Lib.hid (text_yes hat HSY.out)
              rw [show textOf ((some y).getD []) = t from hte] at HT8
              clear hat hb8 hte
              go_wp2_with fail
              refine HT8.out.mono ?_
              rintro e w9 ⟨rfl, hb9⟩
              have HB9 := Lib.hid (HB8.out.trans (hb9.mono HB8.out.size))
              clear hb9
              go_wp2_with fail
              go_ret
              exact ⟨rfl, HB9.out⟩
          | true =>
            have HSm := Lib.hid hm
            by_cases he : l = m
            · have HLM := Lib.hid (show decide (l = m) = true from decide_eq_true he)
              have hq : ((textOf l).toList == (textOf m).toList) = true := by rw [eq_toList, he]; simp
              clear hl hm he
              go_enter Try.func5, Try.ntmps5
              go_wp2_with fail
              refine HLV.out.mono ?_
              rintro e w1 ⟨rfl, hb1⟩
              have HFW := Lib.hid (few_any (HH.out.kept hb1))
              have HB1 := Lib.hid hb1
              clear hb1
              go_wp2_with fail
              refine HFW.out.mono ?_
              rw [HF.out]
              rintro e w2 ⟨rfl, hb2⟩
              have HB2 := Lib.hid (HB1.out.trans (hb2.mono HB1.out.size))
              clear hb2
              go_wp2_with fail
              refine (few_any (H1.out.kept HB2.out)).mono ?_
              rw [HG.out]
              rintro e w2b ⟨rfl, hb2⟩
              replace HB2 := Lib.hid (HB2.out.trans (hb2.mono HB2.out.size))
              clear hb2
              go_wp2_with fail
              refine (text_yes (HH.out.kept HB2.out) HSl.out).mono ?_
              rintro e w3 ⟨rfl, hb3⟩
              have HB3 := Lib.hid (HB2.out.trans (hb3.mono HB2.out.size))
              clear hb3
              go_wp2_with fail
              refine (text_yes (H1.out.kept HB3.out) HSm.out).mono ?_
              rintro e w4 ⟨rfl, hb4⟩
              have HB4 := Lib.hid (HB3.out.trans (hb4.mono HB3.out.size))
              clear hb4
              go_wp2_with fail
              refine (HPA.out (textOf l) htl _ HB4.out).mono ?_
              rw [HPL.out]
              rintro e w5 ⟨xa, xn, xc, rfl, hat5, hb5⟩
              have HX5 := Lib.hid hat5
              have HB5 := Lib.hid (HB4.out.trans (hb5.mono HB4.out.size))
              clear hat5 hb5
              go_wp2_with fail
              refine (lsame_any HX5.out (HH.out.kept HB5.out)).mono ?_
              rw [show decide ((some l).getD [] = l) = true from decide_eq_true rfl]
              rintro e w6 ⟨rfl, hb6⟩
              have HB6 := Lib.hid (HB5.out.trans (hb6.mono HB5.out.size))
              clear hb6
              go_wp2_with fail
              refine (lsame_any (HH.out.kept HB6.out) (H1.out.kept HB6.out)).mono ?_
              rw [HLM.out]
              rintro e w7 ⟨rfl, hb7⟩
              have HB7 := Lib.hid (HB6.out.trans (hb7.mono HB6.out.size))
              clear hb7
              go_wp2_with fail
              cases hst : setIn t with
              | none =>
                have HST := Lib.hid hst
                clear hst
                refine (HPA.out t ht6 _ HB7.out).mono ?_
                rw [HST.out]
                rintro e w8 ⟨pa, pn, pc, rfl, hat, hb8⟩
                have HB8 := Lib.hid (HB7.out.trans (hb8.mono HB7.out.size))
                clear hat hb8
                go_wp2_with fail
                go_ret
                exact ⟨rfl, HB8.out⟩
              | some y =>
                have HST := Lib.hid hst
                have HSY := Lib.hid (setIn_sound hst).1
                have hte := (setIn_sound hst).2
                clear hst
                refine (HPA.out t ht6 _ HB7.out).mono ?_
                rw [HST.out]
                rintro e w8 ⟨pa, pn, pc, rfl, hat, hb8⟩
                have HB8 := Lib.hid (HB7.out.trans (hb8.mono HB7.out.size))
                have HT8 := Lib.hid (text_yes hat HSY.out)
                rw [show textOf ((some y).getD []) = t from hte] at HT8
                clear hat hb8 hte
                go_wp2_with fail
                refine HT8.out.mono ?_
                rintro e w9 ⟨rfl, hb9⟩
                have HB9 := Lib.hid (HB8.out.trans (hb9.mono HB8.out.size))
                clear hb9
                go_wp2_with fail
                go_ret
                exact ⟨rfl, HB9.out⟩
            · have HLM := Lib.hid (show decide (l = m) = false from decide_eq_false he)
              have hq : ((textOf l).toList == (textOf m).toList) = false := by rw [eq_toList]; exact decide_eq_false fun e => he (textOf_inj hl hm e)
              clear hl hm he
              go_enter Try.func5, Try.ntmps5
              go_wp2_with fail
              refine HLV.out.mono ?_
              rintro e w1 ⟨rfl, hb1⟩
              have HFW := Lib.hid (few_any (HH.out.kept hb1))
              have HB1 := Lib.hid hb1
              clear hb1
              go_wp2_with fail
              refine HFW.out.mono ?_
              rw [HF.out]
              rintro e w2 ⟨rfl, hb2⟩
              have HB2 := Lib.hid (HB1.out.trans (hb2.mono HB1.out.size))
              clear hb2
              go_wp2_with fail
              refine (few_any (H1.out.kept HB2.out)).mono ?_
              rw [HG.out]
              rintro e w2b ⟨rfl, hb2⟩
              replace HB2 := Lib.hid (HB2.out.trans (hb2.mono HB2.out.size))
              clear hb2
              go_wp2_with fail
              refine (text_yes (HH.out.kept HB2.out) HSl.out).mono ?_
              rintro e w3 ⟨rfl, hb3⟩
              have HB3 := Lib.hid (HB2.out.trans (hb3.mono HB2.out.size))
              clear hb3
              go_wp2_with fail
              refine (text_yes (H1.out.kept HB3.out) HSm.out).mono ?_
              rintro e w4 ⟨rfl, hb4⟩
              have HB4 := Lib.hid (HB3.out.trans (hb4.mono HB3.out.size))
              clear hb4
              go_wp2_with fail
              refine (HPA.out (textOf l) htl _ HB4.out).mono ?_
              rw [HPL.out]
              rintro e w5 ⟨xa, xn, xc, rfl, hat5, hb5⟩
              have HX5 := Lib.hid hat5
              have HB5 := Lib.hid (HB4.out.trans (hb5.mono HB4.out.size))
              clear hat5 hb5
              go_wp2_with fail
              refine (lsame_any HX5.out (HH.out.kept HB5.out)).mono ?_
              rw [show decide ((some l).getD [] = l) = true from decide_eq_true rfl]
              rintro e w6 ⟨rfl, hb6⟩
              have HB6 := Lib.hid (HB5.out.trans (hb6.mono HB5.out.size))
              clear hb6
              go_wp2_with fail
              refine (lsame_any (HH.out.kept HB6.out) (H1.out.kept HB6.out)).mono ?_
              rw [HLM.out]
              rintro e w7 ⟨rfl, hb7⟩
              have HB7 := Lib.hid (HB6.out.trans (hb7.mono HB6.out.size))
              clear hb7
              go_wp2_with fail
              cases hst : setIn t with
              | none =>
                have HST := Lib.hid hst
                clear hst
                refine (HPA.out t ht6 _ HB7.out).mono ?_
                rw [HST.out]
                rintro e w8 ⟨pa, pn, pc, rfl, hat, hb8⟩
                have HB8 := Lib.hid (HB7.out.trans (hb8.mono HB7.out.size))
                clear hat hb8
                go_wp2_with fail
                go_ret
                exact ⟨rfl, HB8.out⟩
              | some y =>
                have HST := Lib.hid hst
                have HSY := Lib.hid (setIn_sound hst).1
                have hte := (setIn_sound hst).2
                clear hst
                refine (HPA.out t ht6 _ HB7.out).mono ?_
                rw [HST.out]
                rintro e w8 ⟨pa, pn, pc, rfl, hat, hb8⟩
                have HB8 := Lib.hid (HB7.out.trans (hb8.mono HB7.out.size))
                have HT8 := Lib.hid (text_yes hat HSY.out)
                rw [show textOf ((some y).getD []) = t from hte] at HT8
                clear hat hb8 hte
                go_wp2_with fail
                refine HT8.out.mono ?_
                rintro e w9 ⟨rfl, hb9⟩
                have HB9 := Lib.hid (HB8.out.trans (hb9.mono HB8.out.size))
                clear hb9
                go_wp2_with fail
                go_ret
                exact ⟨rfl, HB9.out⟩
end Go.Proofs.Ytiboghehonmpnaa
