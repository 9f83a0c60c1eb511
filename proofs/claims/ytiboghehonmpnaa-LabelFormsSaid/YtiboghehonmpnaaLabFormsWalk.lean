/- The law LabelForms, walked. -/
import Derived.Test.YtiboghehonmpnaaLabFew
import Derived.Test.YtiboghehonmpnaaLabRef
import Derived.Test.YtiboghehonmpnaaLabTwin
import Derived.Test.YtiboghehonmpnaaLabRText
import Derived.Test.YtiboghehonmpnaaLabOpen
namespace Go.Proofs.Ytiboghehonmpnaa
open Go.RowKit LabPlain
set_option linter.unusedVariables false

set_option maxRecDepth 100000 in
set_option maxHeartbeats 4000000 in
theorem label_forms (a : Option Addr) (n c : Nat) (l : List Lab) (w : World) (h : LabsAt w a n c l) :
    Calls Try.prog 3 #[.slice a n c] w fun e w' => e = .returned (.bool true) ∧ Below w.heap.size w w' := by
  have HH := Lib.hid h
  have HL := Lib.hid h.len
  have HLV := Lib.hid (lives8_any w)
  clear h
  have quit : ∀ w1, Below w.heap.size w w1 → Calls Try.prog 10 #[] w1 fun e w' => e = .returned (.bool true) ∧ Below w.heap.size w w' := fun w1 h1 =>
    (lives8_any w1).mono fun e w' he => ⟨he.1, h1.trans (he.2.mono h1.size)⟩
  have HQ := Lib.hid quit
  clear quit
  cases hf : fewB l with
  | false =>
    have HF := Lib.hid hf
    clear hf
    go_enter Try.func3, Try.ntmps3
    go_wp2_with fail
    refine HLV.out.mono ?_
    rintro e w1 ⟨rfl, hb1⟩
    have HFW := Lib.hid (few_any (HH.out.kept hb1))
    have HB1 := Lib.hid hb1
    clear hb1
    go_wp2_with fail
    refine HFW.out.mono ?_
    rw [HF.out]
    rintro e w2 ⟨rfl, hb2⟩
    have HB2 := Lib.hid (HB1.out.trans (hb2.mono HB1.out.size))
    clear hb2
    go_wp2_with fail
    refine (HQ.out _ HB2.out).mono ?_
    rintro e w3 ⟨rfl, hb3⟩
    have HB3 := Lib.hid hb3
    clear hb3
    go_wp2_with fail
    go_ret
    exact ⟨rfl, HB3.out⟩
  | true =>
    have HF := Lib.hid hf
    have HN := Lib.hid (show n ≤ 1000 by
      unfold fewB at hf
      rw [Bool.and_eq_true, decide_eq_true_eq, HL.out] at hf
      have := hf.1
      omega)
    clear hf
    go_enter Try.func3, Try.ntmps3
    go_wp2_with fail
    refine HLV.out.mono ?_
    rintro e w1 ⟨rfl, hb1⟩
    have HFW := Lib.hid (few_any (HH.out.kept hb1))
    have HB1 := Lib.hid hb1
    clear hb1
    go_wp2_with fail
    refine HFW.out.mono ?_
    rw [HF.out]
    rintro e w2 ⟨rfl, hb2⟩
    have HB2 := Lib.hid (HB1.out.trans (hb2.mono HB1.out.size))
    clear hb2
    go_wp2_with fail
    refine (twin_any (HH.out.kept HB2.out) HN.out).mono ?_
    rintro e w3 ⟨a', c', rfl, hat3, hb3⟩
    have HO3 := Lib.hid hat3
    have HB3 := Lib.hid (HB2.out.trans (hb3.mono HB2.out.size))
    clear hb3 hat3
    cases hs : isSet l with
    | true =>
      have HS := Lib.hid hs
      clear hs
      go_wp2_with fail
      refine (text_yes HO3.out HS.out).mono ?_
      obtain ⟨t, ht⟩ : ∃ t, t = textOf l := ⟨_, rfl⟩
      rw [← ht]
      have HT := Lib.hid ht
      clear ht
      rintro e w4 ⟨rfl, hb4⟩
      have HO4 := Lib.hid (HO3.out.kept hb4)
      have HB4 := Lib.hid (HB3.out.trans (hb4.mono HB3.out.size))
      clear hb4
      go_wp2_with fail
      refine (rright_any (HH.out.kept HB4.out)).mono ?_
      rw [HS.out]
      rintro e w5 ⟨rfl, hb5⟩
      have HO5 := Lib.hid (HO4.out.kept hb5)
      have HB5 := Lib.hid (HB4.out.trans (hb5.mono HB4.out.size))
      clear hb5
      go_wp2_with fail
      refine (right_any HO5.out).mono ?_
      rw [HS.out]
      rintro e w6 ⟨rfl, hb6⟩
      have HO6 := Lib.hid (HO5.out.kept hb6)
      have HB6 := Lib.hid (HB5.out.trans (hb6.mono HB5.out.size))
      clear hb6
      go_wp2_with fail
      refine (lsame_any HO6.out (HH.out.kept HB6.out)).mono ?_
      rw [decide_eq_true (show l = l from rfl)]
      rintro e w7 ⟨rfl, hb7⟩
      have HB7 := Lib.hid (HB6.out.trans (hb7.mono HB6.out.size))
      clear hb7
      go_wp2_with fail
      refine (rtext_any (HH.out.kept HB7.out) HS.out).mono ?_
      rw [← HT.out]
      rintro e w8 ⟨rfl, hb8⟩
      have HB8 := Lib.hid (HB7.out.trans (hb8.mono HB7.out.size))
      clear hb8
      go_wp2_with fail
      go_ret
      exact ⟨rfl, HB8.out⟩
    | false =>
      have HS := Lib.hid hs
      clear hs
      go_wp2_with fail
      refine (text_no HO3.out HS.out).mono ?_
      rintro e w4 ⟨rfl, hb4⟩
      have HO4 := Lib.hid (HO3.out.kept hb4)
      have HB4 := Lib.hid (HB3.out.trans (hb4.mono HB3.out.size))
      clear hb4
      go_wp2_with fail
      refine (rright_any (HH.out.kept HB4.out)).mono ?_
      rw [HS.out]
      rintro e w5 ⟨rfl, hb5⟩
      have HO5 := Lib.hid (HO4.out.kept hb5)
      have HB5 := Lib.hid (HB4.out.trans (hb5.mono HB4.out.size))
      clear hb5
      go_wp2_with fail
      refine (right_any HO5.out).mono ?_
      rw [HS.out]
      rintro e w6 ⟨rfl, hb6⟩
      have HO6 := Lib.hid (HO5.out.kept hb6)
      have HB6 := Lib.hid (HB5.out.trans (hb6.mono HB5.out.size))
      clear hb6
      go_wp2_with fail
      refine (lsame_any HO6.out (HH.out.kept HB6.out)).mono ?_
      rw [decide_eq_true (show l = l from rfl)]
      rintro e w7 ⟨rfl, hb7⟩
      have HB7 := Lib.hid (HB6.out.trans (hb7.mono HB6.out.size))
      clear hb7
      go_wp2_with fail
      go_ret
      exact ⟨rfl, HB7.out⟩
end Go.Proofs.Ytiboghehonmpnaa
