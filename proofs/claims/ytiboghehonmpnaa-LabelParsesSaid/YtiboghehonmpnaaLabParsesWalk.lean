/- The law LabelParses, walked. Written by genlabparses.py. -/
import Derived.Test.YtiboghehonmpnaaLabFew
import Derived.Test.YtiboghehonmpnaaLabSame
import Derived.Test.YtiboghehonmpnaaLabParse
import Derived.Test.YtiboghehonmpnaaLabRParse
namespace Go.Proofs.Ytiboghehonmpnaa
open Go.RowKit LabPlain
set_option linter.unusedVariables false

set_option maxRecDepth 100000 in
set_option maxHeartbeats 4000000 in
theorem label_parses (s : ByteArray) (w : World) (hsz : s.size ≤ 140737488351232) (hmx : ∃ mx, w.cell? ⟨0, 0, none⟩ = some (.int .i64 mx)) :
    Calls Try.prog 4 #[.string s] w fun e w' => e = .returned (.bool true) ∧ Below w.heap.size w w' := by
  obtain ⟨mx, hmx⟩ := hmx
  have h0w : 0 < w.heap.size := World.block_lt_of_cell? w _ hmx
  have HLV := Lib.hid (lives8_any w)
  have quit : ∀ w1, Below w.heap.size w w1 → Calls Try.prog 10 #[] w1 fun e w' => e = .returned (.bool true) ∧ Below w.heap.size w w' := fun w1 h1 =>
    (lives8_any w1).mono fun e w' he => ⟨he.1, h1.trans (he.2.mono h1.size)⟩
  have HQ := Lib.hid quit
  clear quit
  by_cases g1 : 600 < s.size
  · have g1i : (600 : Int) < (s.size : Int) := by omega
    clear g1 hmx
    go_enter Try.func4, Try.ntmps4
    go_wp2_with fail
    refine HLV.out.mono ?_
    rintro e w1 ⟨rfl, hb1⟩
    have HB1 := Lib.hid hb1
    clear hb1
    go_wp2_with fail
    refine (HQ.out _ HB1.out).mono ?_
    rintro e w3 ⟨rfl, hb3⟩
    have HB3 := Lib.hid hb3
    clear hb3
    go_wp2_with fail
    go_ret
    exact ⟨rfl, HB3.out⟩
  · have g1i : (s.size : Int) ≤ 600 := by omega
    have HPA := Lib.hid (fun (w1 : World) (h : Below w.heap.size w w1) => parse_any s (by omega) mx w1 ((h.cell (p := ⟨0, 0, none⟩) h0w).trans hmx))
    have HPR := Lib.hid (fun (w1 : World) => rparse_any s (by omega) w1)
    clear g1 hmx
    cases hr : setIn s with
    | none =>
      have HR := Lib.hid hr
      clear hr
      go_enter Try.func4, Try.ntmps4
      go_wp2_with fail
      refine HLV.out.mono ?_
      rintro e w1 ⟨rfl, hb1⟩
      have HB1 := Lib.hid hb1
      clear hb1
      go_wp2_with fail
      refine (HPA.out w1 HB1.out).mono ?_
      rw [HR.out]
      rintro e w2 ⟨xa, xn, xc, rfl, hat2, hb2⟩
      have HX2 := Lib.hid hat2
      have HB2 := Lib.hid (HB1.out.trans (hb2.mono HB1.out.size))
      clear hat2 hb2
      go_wp2_with fail
      refine (HPR.out w2).mono ?_
      rw [HR.out]
      rintro e w3 ⟨ya, yn, yc, rfl, hat3, hb3⟩
      have HX3 := Lib.hid (HX2.out.kept hb3)
      have HY3 := Lib.hid hat3
      have HB3 := Lib.hid (HB2.out.trans (hb3.mono HB2.out.size))
      clear hat3 hb3
      have hxn : xn = 0 := HX3.out.len.symm
      subst hxn
      go_wp2_with fail
      go_ret
      exact ⟨rfl, HB3.out⟩
    | some l =>
      have HR := Lib.hid hr
      clear hr
      go_enter Try.func4, Try.ntmps4
      go_wp2_with fail
      refine HLV.out.mono ?_
      rintro e w1 ⟨rfl, hb1⟩
      have HB1 := Lib.hid hb1
      clear hb1
      go_wp2_with fail
      refine (HPA.out w1 HB1.out).mono ?_
      rw [HR.out]
      rintro e w2 ⟨xa, xn, xc, rfl, hat2, hb2⟩
      have HX2 := Lib.hid hat2
      have HB2 := Lib.hid (HB1.out.trans (hb2.mono HB1.out.size))
      clear hat2 hb2
      go_wp2_with fail
      refine (HPR.out w2).mono ?_
      rw [HR.out]
      rintro e w3 ⟨ya, yn, yc, rfl, hat3, hb3⟩
      have HX3 := Lib.hid (HX2.out.kept hb3)
      have HY3 := Lib.hid hat3
      have HB3 := Lib.hid (HB2.out.trans (hb3.mono HB2.out.size))
      clear hat3 hb3
      go_wp2_with fail
      refine (lsame_any HX3.out HY3.out).mono ?_
      rw [decide_eq_true rfl]
      rintro e w4 ⟨rfl, hb4⟩
      have HB4 := Lib.hid (HB3.out.trans (hb4.mono HB3.out.size))
      clear hb4
      go_wp2_with fail
      go_ret
      exact ⟨rfl, HB4.out⟩
end Go.Proofs.Ytiboghehonmpnaa
