/- The walk of InflateBehind: it returns true for all bytes, and all bytes behind. -/
import Derived.Test.YtfipiodimhneiaaDoorInfLives
namespace Go.Proofs.YtfipiodimhneiaaDoor
open Go.RowKit PrefPlain BitsPlain InfPlain
set_option linter.unusedVariables false

set_option maxRecDepth 100000 in
set_option maxHeartbeats 4000000 in
theorem inflateBehind_walk (a0 : Option Addr) (len0 cap0 : Nat) (z0 : List Int) (a1 : Option Addr) (len1 cap1 : Nat) (z1 : List Int) (w : World) (hO : Ordr w) (w0 : IsRow .u8 1 w a0 len0 cap0 z0) (w1 : IsRow .u8 1 w a1 len1 cap1 z1) :
    Calls Tryd.prog 3 #[.slice a0 len0 cap0, .slice a1 len1 cap1] w fun e w' => e = .returned (.bool true) ∧ Below w.heap.size w w' := by
  obtain ⟨xs, hx⟩ := w0.bytes
  obtain ⟨ms, hms⟩ := w1.bytes
  have HL := Lib.hid (lives6_any hO)
  have HO := Lib.hid hO
  have HX := Lib.hid hx
  have HM := Lib.hid hms
  have hcap := hx.cap
  have hcapm := hx.capm
  clear w0 w1 hx hms hO
  by_cases hbig : (1500 : Int) < (len0 : Int) ∨ (1500 : Int) < (len1 : Int)
  · have hb1 : (1500 : Int) < (len0 : Int) ∨ ((len0 : Int) ≤ 1500 ∧ (1500 : Int) < (len1 : Int)) := by omega
    clear hbig
    rcases hb1 with h1 | ⟨h1, h2⟩
    all_goals
      go_enter Tryd.func3, Tryd.ntmps3
      go_wp2_with fail
      refine HL.out.mono ?_
      rintro e w1 ⟨rfl, hb1⟩
      have HB1 := Lib.hid hb1
      have HL1 := Lib.hid (lives6_any (HO.out.below hb1))
      clear hb1
      go_wp2_with fail
      refine HL1.out.mono ?_
      rintro e w2 ⟨rfl, hb2⟩
      have HB2 := Lib.hid (HB1.out.trans (hb2.mono HB1.out.size))
      clear hb2
      go_wp2_with fail
      go_ret
      exact ⟨rfl, HB2.out⟩
  · have hb0 : (len0 : Int) ≤ 1500 := by omega
    have hb1 : (len1 : Int) ≤ 1500 := by omega
    clear hbig
    go_enter Tryd.func3, Tryd.ntmps3
    go_wp2_with fail
    refine HL.out.mono ?_
    rintro e w1 ⟨rfl, hbw1⟩
    have hlen := HX.out.len
    have HIN := Lib.hid (inflate_any (HX.out.kept hbw1) (HO.out.below hbw1) 24100 3000 (by omega) (by omega) (by omega))
    have HB1 := Lib.hid hbw1
    have HLEN := Lib.hid hlen
    clear hbw1 hlen
    go_wp2_with fail
    refine HIN.out.mono ?_
    intro e w2 hout
    obtain ⟨X, N, E, lx, heq, hl, hl3, hno, hbe⟩ := inf_all 24100 xs 3000
    obtain ⟨ax, cx, rfl, hbx, hb2⟩ := hout.at2 heq hl (by omega)
    have HB2 := Lib.hid (HB1.out.trans (hb2.mono HB1.out.size))
    have HO2 := Lib.hid ((HO.out.below HB1.out).below hb2)
    have HBX := Lib.hid hbx
    have HNO := Lib.hid hno
    have HBE := Lib.hid hbe
    have HLX := Lib.hid hl
    clear hout hb2 hno hbe hbx heq hl
    by_cases hE : E = 0
    · subst hE
      obtain ⟨hN1, hN2, hT, hS, _, _⟩ := HBE.out rfl
      have HT := Lib.hid (hT ms)
      have HS := Lib.hid hS
      have hlen := HLEN.out
      have hN1i : (1 : Int) ≤ (N : Int) := by omega
      have hN2i : (N : Int) ≤ (len0 : Int) := by omega
      have hNc : (N : Int) ≤ (cap0 : Int) := by omega
      have hb2 := HX.out.kept HB2.out
      obtain ⟨b, off, rfl, _, _⟩ := hb2.cells (by omega)
      have HU := Lib.hid (hb2.upto N (by omega))
      have HTW := Lib.hid (twin_any HU.out)
      clear hT hS hb2 hlen
      go_wp2_with fail
      refine HTW.out.mono ?_
      rintro e w3 ⟨v3, rfl, ho3, hn3, hb3⟩
      have HB3 := Lib.hid (HB2.out.trans (hb3.mono HB2.out.size))
      have HO3 := Lib.hid ho3
      have HM3 := Lib.hid (HM.out.kept HB3.out)
      have hs3 : w2.heap.size ≤ w3.heap.size := hb3.size
      have HB23 := Lib.hid hb3
      clear ho3 hn3 hb3
      go_wp2_with (at_builtin; refine wpList_append_bytes rfl (.tmp 54) (.tmp 55) rfl w2.heap.size _ _ (xs.take N) rfl HO3.out _ _ _ _ rfl HM3.out (by omega) hs3 ?_)
      intro v4 w4 ho4 hg4
      have hb24 := below_own HB23.out HO3.out hg4 (Nat.le_refl _) hs3
      have hby4 : ∀ x ∈ xs.take N ++ ms, x < 256 := by
        intro x hx
        rcases List.mem_append.1 hx with h | h
        · exact HX.out.byte x (List.mem_of_mem_take h)
        · exact HM.out.byte x h
      obtain ⟨a4, c4, rfl, hba4, _⟩ := BytesAt.ofOwn ho4 hby4 (by omega)
      have HB4 := Lib.hid (HB2.out.trans (hb24.mono HB2.out.size))
      have HOR4 := Lib.hid (HO2.out.below hb24)
      have hl4 := hba4.len
      have HIN4 := Lib.hid (inflate_any hba4 HOR4.out 24100 3000 (by rw [hl4]; omega) (by omega) (by omega))
      have HBX4 := Lib.hid (HBX.out.kept hb24)
      clear hb24 hby4 hba4 hl4 ho4 hg4
      go_wp2_with fail
      refine HIN4.out.mono ?_
      intro e w5 hout
      obtain ⟨ay, cy, rfl, hby, hb5⟩ := hout.at2 HT.out HLX.out (by omega)
      have HB5 := Lib.hid (HB4.out.trans (hb5.mono HB4.out.size))
      have HBX5 := Lib.hid (HBX4.out.kept hb5)
      have HBY5 := Lib.hid hby
      have HU5 := Lib.hid ((HX.out.kept HB5.out).upto (N - 1) (by omega))
      have hl5 := HU5.out.len
      have HIN5 := Lib.hid (inflate_any HU5.out (HOR4.out.below hb5) 24100 3000 (by rw [hl5]; omega) (by omega) (by omega))
      have hidx : (N : Int) - 1 = ((N - 1 : Nat) : Int) := by omega
      have hic : ((N - 1 : Nat) : Int) ≤ (cap0 : Int) := by omega
      clear hout hby hb5 hl5
      go_wp2_with fail
      refine HIN5.out.mono ?_
      intro e w6 hout
      obtain ⟨az, cz, rfl, hbz, hb6⟩ := hout.at2 HS.out (show ([] : List Nat).length = 0 from rfl) (by omega)
      have HB6 := Lib.hid (HB5.out.trans (hb6.mono HB5.out.size))
      have HSM := same_any (HBX5.out.kept hb6) (HBY5.out.kept hb6)
      rw [beq_self_eq_true] at HSM
      have HSAME := Lib.hid HSM
      have hnn : ((N : Int) == (N : Int)) = true := by simp
      clear hout hbz hb6 HSM hidx
      go_wp2_with fail
      refine HSAME.out.mono ?_
      rintro e w7 ⟨rfl, rfl⟩
      go_wp2_with fail
      go_ret
      exact ⟨rfl, HB6.out⟩
    · have hEb : ((E : Int) != 0) = true := by rw [bne_iff_ne]; omega
      obtain ⟨rfl, rfl⟩ := HNO.out hE
      have hl0 : lx = 0 := HLX.out.symm
      subst hl0
      clear hE
      go_wp2_with fail
      go_ret
      exact ⟨rfl, HB2.out⟩
end Go.Proofs.YtfipiodimhneiaaDoor
