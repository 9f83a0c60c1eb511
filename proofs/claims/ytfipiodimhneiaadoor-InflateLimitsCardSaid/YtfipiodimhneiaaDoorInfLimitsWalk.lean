/- The walk of InflateLimits: it returns true for all bytes, and all numbers. -/
import Derived.Test.YtfipiodimhneiaaDoorInfLives
namespace Go.Proofs.YtfipiodimhneiaaDoor
open Go.RowKit PrefPlain BitsPlain InfPlain
set_option linter.unusedVariables false

set_option maxRecDepth 100000 in
set_option maxHeartbeats 4000000 in
theorem inflateLimits_walk (a0 : Option Addr) (len0 cap0 : Nat) (z0 : List Int) (a1 : Int) (w : World) (hO : Ordr w) (w0 : IsRow .u8 1 w a0 len0 cap0 z0) (w1 : (Lit.int .i64 a1).wf = true) :
    Calls Tryd.prog 4 #[.slice a0 len0 cap0, .int .i64 a1] w fun e w' => e = .returned (.bool true) ∧ Below w.heap.size w w' := by
  obtain ⟨xs, hx⟩ := w0.bytes
  have HL := Lib.hid (lives6_any hO)
  have HO := Lib.hid hO
  have HX := Lib.hid hx
  obtain ⟨U, hU⟩ : ∃ U : Nat, IntKind.u64.wrap a1 = (U : Int) := ⟨(a1 % 18446744073709551616).toNat, by rw [IntKind.wrap_u64]; omega⟩
  obtain ⟨M, hM⟩ : ∃ M : Nat, (U : Int) % 3000 = (M : Int) := ⟨U % 3000, by omega⟩
  have hM2 : (U : Int).tmod 3000 = (M : Int) := by rw [Int.tmod_eq_emod_of_nonneg (by omega)]; exact hM
  have hM3 : M < 3000 := by omega
  have HU := Lib.hid hU
  have HMM := Lib.hid (And.intro hM hM2)
  clear w0 w1 hx hO hU hM hM2
  by_cases hbig : (1500 : Int) < (len0 : Int)
  · go_enter Tryd.func4, Tryd.ntmps4
    go_wp2_with fail
    refine HL.out.mono ?_
    rintro e w1 ⟨rfl, hb1⟩
    have HB1 := Lib.hid hb1
    have HL1 := Lib.hid (lives6_any (HO.out.below hb1))
    clear hb1
    go_wp2_with fail
    refine HL1.out.mono ?_
    rintro e w2 ⟨rfl, hb2⟩
    have HB2 := Lib.hid (HB1.out.trans (hb2.mono HB1.out.size))
    clear hb2
    go_wp2_with fail
    go_ret
    exact ⟨rfl, HB2.out⟩
  · have hb0 : (len0 : Int) ≤ 1500 := by omega
    clear hbig
    go_enter Tryd.func4, Tryd.ntmps4
    go_wp2_with fail
    refine HL.out.mono ?_
    rintro e w1 ⟨rfl, hbw1⟩
    have hlen := HX.out.len
    have HIN := Lib.hid (inflate_any (HX.out.kept hbw1) (HO.out.below hbw1) 24100 3000 (by omega) (by omega) (by omega))
    have HB1 := Lib.hid hbw1
    have HLEN := Lib.hid hlen
    clear hbw1 hlen
    go_wp2_with fail
    refine HIN.out.mono ?_
    intro e w2 hout
    obtain ⟨X, N, E, lx, heq, hl, hl3, hno, hbe⟩ := inf_all 24100 xs 3000
    obtain ⟨ax, cx, rfl, hbx, hb2⟩ := hout.at2 heq hl (by omega)
    have HB2 := Lib.hid (HB1.out.trans (hb2.mono HB1.out.size))
    have HO2 := Lib.hid ((HO.out.below HB1.out).below hb2)
    have HBX := Lib.hid hbx
    have HBE := Lib.hid hbe
    have HLX := Lib.hid hl
    clear hout hb2 hno hbe hbx heq hl
    by_cases hE : E = 0
    · subst hE
      obtain ⟨hN1, hN2, _, _, hT, hS⟩ := HBE.out rfl
      have HT := Lib.hid (hT (lx + M) (by omega))
      have HS := Lib.hid hS
      have hlen := HLEN.out
      have hc := inflate_any (HX.out.kept HB2.out) HO2.out 24100 (lx + M) (by omega) (by omega) (by omega)
      rw [Int.natCast_add] at hc
      have HIN2 := Lib.hid hc
      have hU := HU.out
      have hM := HMM.out.1
      have hM2 := HMM.out.2
      have hM3i : (M : Int) < 3000 := by omega
      have hN1i : (1 : Int) ≤ (N : Int) := by omega
      clear hT hS hc hlen
      go_wp2_with fail
      refine HIN2.out.mono ?_
      clear hU hM hM2
      intro e w3 hout
      obtain ⟨ay, cy, rfl, hby, hb3⟩ := hout.at2 HT.out HLX.out (by omega)
      have HB3 := Lib.hid (HB2.out.trans (hb3.mono HB2.out.size))
      have HBX3 := Lib.hid (HBX.out.kept hb3)
      have HBY3 := Lib.hid hby
      have HO3 := Lib.hid (HO2.out.below hb3)
      have hlen := HLEN.out
      have hnn : ((N : Int) == (N : Int)) = true := by simp
      clear hout hby hb3
      by_cases hl0 : lx = 0
      · subst hl0
        have HNG := Lib.hid (inflate_neg a0 len0 cap0 (-1) (by omega) w3)
        have HSM := same_any HBX3.out HBY3.out
        rw [beq_self_eq_true] at HSM
        have HSAME := Lib.hid HSM
        clear HSM hlen
        go_wp2_with fail
        refine HNG.out.mono ?_
        rintro e w4 ⟨rfl, rfl⟩
        go_wp2_with fail
        refine HSAME.out.mono ?_
        rintro e w5 ⟨rfl, rfl⟩
        go_wp2_with fail
        go_ret
        exact ⟨rfl, HB3.out⟩
      · have hc := inflate_any (HX.out.kept HB3.out) HO3.out 24100 (lx - 1) (by omega) (by omega) (by omega)
        rw [show ((lx - 1 : Nat) : Int) = (lx : Int) - 1 from by omega] at hc
        have HIN3 := Lib.hid hc
        have hl1 : (1 : Int) ≤ (lx : Int) := by omega
        have hl1n : 0 < lx := by omega
        have hlz : ((lx : Int) == 0) = false := by rw [beq_eq_false_iff_ne]; omega
        clear hc hlen
        go_wp2_with fail
        refine HIN3.out.mono ?_
        intro e w4 hout
        obtain ⟨az, cz, rfl, hbz, hb4⟩ := hout.at2 (HS.out (lx - 1) (by omega)) (show ([] : List Nat).length = 0 from rfl) (by omega)
        have HB4 := Lib.hid (HB3.out.trans (hb4.mono HB3.out.size))
        have HSM := same_any (HBX3.out.kept hb4) (HBY3.out.kept hb4)
        rw [beq_self_eq_true] at HSM
        have HSAME := Lib.hid HSM
        clear hout hbz hb4 HSM hl0
        go_wp2_with fail
        refine HSAME.out.mono ?_
        rintro e w5 ⟨rfl, rfl⟩
        go_wp2_with fail
        go_ret
        exact ⟨rfl, HB4.out⟩
    · have hEb : ((E : Int) != 0) = true := by rw [bne_iff_ne]; omega
      clear hE
      go_wp2_with fail
      go_ret
      exact ⟨rfl, HB2.out⟩
end Go.Proofs.YtfipiodimhneiaaDoor
