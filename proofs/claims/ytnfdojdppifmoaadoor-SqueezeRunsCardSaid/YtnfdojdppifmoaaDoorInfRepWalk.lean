/- Package inflate: repetition, walked. -/
import Derived.Test.YtnfdojdppifmoaaDoorInfRep
namespace Go.Proofs.YtnfdojdppifmoaaDoor
open Go.RowKit PrefPlain BitsPlain InfPlain
set_option linter.unusedVariables false

set_option maxRecDepth 100000 in
set_option maxHeartbeats 8000000 in
theorem irep_any {w : World} {B R base : Nat} {ra : Option Addr} {n c : Nat} {xs : List Nat} {p : Nat} {v : Value} {o : List Nat} {most : Nat} {fl fd : Option Addr} (h : InAt w B R base ra n c xs p v o most fl fd) (s : Nat) (hs : s < 29) {TB : Nat} {D : List Int} (hT : ∀ w', Fr w w' B R v → TabAt w' TB D) (hTR : TB ≠ R) :
    Calls Tryd.prog 38 #[.pointer (some ⟨B, 0, none⟩), .int .i64 (s : Int), .pointer (some ⟨TB, 0, none⟩)] w fun e w' => Says w B R base ra n c xs v most fl fd (run xs most (repR s D) p o) e w' := by
  obtain ⟨i0, hi, hz0, hz1, hz2⟩ := info_parts info_u8
  obtain ⟨av, cv, rfl, _, _⟩ := BytesAt.ofOwn h.own h.byte (by have := h.lim; have := h.most; omega)
  have c0 := h.ib.c0
  have hm := h.most
  have hlb := lenOf_le s hs
  have HLN := Lib.hid (length_any s hs w)
  have E1 := @rep_1 xs most p o s D
  have E2 := @rep_2 xs most p o s D
  have E3 := @rep_3 xs most p o s D
  obtain ⟨X, hX⟩ : ∃ X, X = (lenOf s).2 := ⟨_, rfl⟩
  obtain ⟨LB, hLB⟩ : ∃ LB, LB = (lenOf s).1 := ⟨_, rfl⟩
  rw [← hX] at hlb HLN E1 E2 E3
  rw [← hLB] at hlb HLN E3
  obtain ⟨hX5, hLB2⟩ := hlb
  have HE1 := Lib.hid E1
  have HE2 := Lib.hid E2
  have HE3 := Lib.hid E3
  have HI := Lib.hid h
  have HT := Lib.hid hT
  have hpl : p ≤ 8 * xs.length := by have := h.rd.le; have := h.rd.src.len; omega
  have HPL := Lib.hid hpl
  clear h hT E1 E2 E3 hX hLB hpl
  go_enter Tryd.func38, Tryd.ntmps38
  go_wp2_with fail
  refine HLN.out.mono ?_
  rintro e w1 ⟨rfl, rfl⟩
  by_cases s1 : 8 * xs.length < p + X
  · have HB := Lib.hid (ibits_no HI.out.rd X (by omega) s1)
    have HE := Lib.hid (HE1.out HPL.out s1)
    clear s1
    go_wp2_with fail
    refine HB.out.mono ?_
    rintro e w2 ⟨rfl, hr2, hg2⟩
    have HF2 := Lib.hid (Fr.rd B (.slice av o.length cv) hg2)
    clear hr2 hg2
    go_wp2_with fail
    go_ret
    rw [HE.out]
    exact ⟨rfl, HF2.out⟩
  · have hp1 : p + X ≤ 8 * xs.length := by omega
    have HB := Lib.hid (ibits_yes HI.out.rd X (by omega) hp1)
    have E2 := HE2.out hp1
    have E3 := HE3.out hp1
    have hN := num_lt xs p X
    have hp16 : 2 ^ X ≤ 2 ^ 5 := Nat.pow_le_pow_right (by omega) hX5
    have h32 : (2 : Nat) ^ 5 = 32 := by decide
    obtain ⟨N1, hN1⟩ : ∃ N1, N1 = num xs p X := ⟨_, rfl⟩
    rw [← hN1] at HB hN E3
    have hN32 : N1 < 32 := by omega
    have hrn := rn_nonneg D xs (p + X)
    have HP1 := Lib.hid hp1
    have HEE2 := Lib.hid E2
    have HEE3 := Lib.hid E3
    have HRN := Lib.hid hrn
    clear hN hp16 h32 hN1 s1 E2 E3 hp1 hrn
    go_wp2_with fail
    refine HB.out.mono ?_
    rintro e w2 ⟨rfl, hr2, hg2⟩
    have hf2 := Fr.rd B (.slice av o.length cv) hg2
    have hi2 := HI.out.read hr2 hg2
    have hc2 := hi2.ib.c0
    have HF2 := Lib.hid hf2
    have HI2 := Lib.hid hi2
    have hnx := next_any (HT.out w2 hf2) hi2.rd hTR (fun w' hg => HT.out w' (hf2.trans (Went.refl _ _) (Fr.rd B _ hg)))
    obtain ⟨d, hd⟩ : ∃ d, d = (rn D xs (p + X)).1 := ⟨_, rfl⟩
    obtain ⟨er, her⟩ : ∃ er, er = (rn D xs (p + X)).2.1 := ⟨_, rfl⟩
    obtain ⟨ct, hct⟩ : ∃ ct, ct = (rn D xs (p + X)).2.2 := ⟨_, rfl⟩
    rw [← hd, ← her, ← hct] at hnx
    have HNX := Lib.hid hnx
    have hd0 : 0 ≤ d := by rw [hd]; exact HRN.out
    have EE2 := HEE2.out
    have EE3 := HEE3.out
    rw [← her] at EE2 EE3
    rw [← hd, ← hct] at EE3
    have HQ2 := Lib.hid EE2
    have HQ3 := Lib.hid EE3
    clear hr2 hg2 hf2 hi2 hnx hd her hct c0 HEE2 HEE3 HRN EE2 EE3
    go_wp2_with fail
    refine HNX.out.mono ?_
    rintro e w3 ⟨rfl, hr3, hg3⟩
    have hi3 := HI2.out.read hr3 hg3
    have hc3 := hi3.ib.c0
    have hc31 := hi3.ib.c1
    have HF3 := Lib.hid (HF2.out.trans (Went.refl _ _) (Fr.rd B _ hg3))
    have HI3 := Lib.hid hi3
    clear hr3 hg3 hi3 hc2
    by_cases her0 : er = 0
    · subst her0
      have hz : ((0 : Int) != 0) = false := by decide
      have HQ := Lib.hid (HQ3.out rfl)
      by_cases hd30 : 30 ≤ d
      · have HE := Lib.hid (show run xs most (repR s D) p o = .error 4 by rw [HQ.out, if_pos hd30])
        go_wp2_with fail
        go_ret
        rw [HE.out]
        exact ⟨rfl, HF3.out⟩
      · obtain ⟨dn, rfl⟩ := Int.eq_ofNat_of_zero_le hd0
        have hdn : dn < 30 := by omega
        have hdi : (dn : Int) < 30 := by omega
        have hq : p + X + ct ≤ 8 * xs.length := by have := HI3.out.rd.le; have := HI3.out.rd.src.len; omega
        have HE := HQ.out
        rw [if_neg hd30, Int.toNat_natCast, rep_4 hq] at HE
        have hdl := disOf_le dn hdn
        have HDS := Lib.hid (distance_any dn hdn w3)
        obtain ⟨DX, hDX⟩ : ∃ DX, DX = (disOf dn).2 := ⟨_, rfl⟩
        obtain ⟨DB, hDB⟩ : ∃ DB, DB = (disOf dn).1 := ⟨_, rfl⟩
        rw [← hDX, ← hDB] at hdl HDS HE
        obtain ⟨hDX2, hDB2, hDB1⟩ := hdl
        have HEE := Lib.hid HE
        have HQQ := Lib.hid hq
        clear hd30 HE hq hDX hDB hdn HQ
        go_wp2_with fail
        refine HDS.out.mono ?_
        rintro e w4 ⟨rfl, rfl⟩
        by_cases s2 : 8 * xs.length < p + X + ct + DX
        · have HB4 := Lib.hid (ibits_no HI3.out.rd DX (by omega) s2)
          have HE := Lib.hid (show run xs most (repR s D) p o = .error 3 by rw [HEE.out, if_pos s2])
          clear s2
          go_wp2_with fail
          refine HB4.out.mono ?_
          rintro e w5 ⟨rfl, hr5, hg5⟩
          have HF5 := Lib.hid (HF3.out.trans (Went.refl _ _) (Fr.rd B _ hg5))
          clear hr5 hg5
          go_wp2_with fail
          go_ret
          rw [HE.out]
          exact ⟨rfl, HF5.out⟩
        · have HB4 := Lib.hid (ibits_yes HI3.out.rd DX (by omega) (by omega))
          have hE := HEE.out
          rw [if_neg s2] at hE
          have hN := num_lt xs (p + X + ct) DX
          have hp13 : 2 ^ DX ≤ 2 ^ 13 := Nat.pow_le_pow_right (by omega) hDX2
          have h8192 : (2 : Nat) ^ 13 = 8192 := by decide
          obtain ⟨N2, hN2⟩ : ∃ N2, N2 = num xs (p + X + ct) DX := ⟨_, rfl⟩
          rw [← hN2] at HB4 hN hE
          have hN82 : N2 < 8192 := by omega
          have HE := Lib.hid hE
          clear hE hN hp13 h8192 hN2 s2
          go_wp2_with fail
          refine HB4.out.mono ?_
          rintro e w5 ⟨rfl, hr5, hg5⟩
          have hi5 := HI3.out.read hr5 hg5
          have hc5 := hi5.ib.c1
          have HF5 := Lib.hid (HF3.out.trans (Went.refl _ _) (Fr.rd B _ hg5))
          have HR5 := Lib.hid (room_any hi5.ib hi5.lim hi5.most (LB + N1) (by omega))
          have HI5 := Lib.hid hi5
          clear hr5 hg5 hi5 hc3 hc31
          obtain ⟨A, hA⟩ : ∃ A, A = DB + N2 := ⟨_, rfl⟩
          obtain ⟨NN, hNN⟩ : ∃ NN, NN = LB + N1 := ⟨_, rfl⟩
          obtain ⟨l, hl⟩ : ∃ l, l = o.length := ⟨_, rfl⟩
          have hAi : (DB : Int) + (N2 : Int) = (A : Int) := by omega
          have hNi : (LB : Int) + (N1 : Int) = (NN : Int) := by omega
          have hAb : A ≤ 40000 := by omega
          have hA1 : 1 ≤ A := by omega
          have hNb : NN ≤ 1000 := by omega
          have hE := HE.out
          rw [← hA, ← hNN, ← hl] at hE
          rw [← hNN, ← hl] at HR5
          have hlm : l ≤ most := by rw [hl]; exact HI5.out.lim
          have HEL := Lib.hid hE
          have HLO := Lib.hid hl
          clear hE hNN hA
          rw [← hl] at hc5
          clear hl
          by_cases ha : l < A
          · have hE := HEL.out
            rw [if_pos ha] at hE
            have HE4 := Lib.hid hE
            have hai : (l : Int) < (A : Int) := by omega
            clear hE
            go_wp2_with fail
            go_ret
            rw [HE4.out]
            exact ⟨rfl, HF5.out⟩
          · have hE := HEL.out
            rw [if_neg ha] at hE
            have hai : (A : Int) ≤ (l : Int) := by omega
            by_cases hroom : l + NN ≤ most
            · have hd : decide (l + NN ≤ most) = true := decide_eq_true hroom
              rw [hd] at HR5
              rw [if_neg (by omega)] at hE
              have HE5 := Lib.hid hE
              clear hE hd
              go_wp2_with fail
              refine HR5.out.mono ?_
              rintro e w6 ⟨rfl, d6, rfl⟩
              have HF6 := Lib.hid (HF5.out.trans (Went.refl _ _) (Fr.touch R (touch_drewN w5 d6 B _)))
              have HI6 := Lib.hid (HI5.out.drewN d6)
              clear hc5
              go_wp2_with fail
              go_loopw [82] (fun s82 wr => ∃ (k : Nat) (v' : Value), k ≤ NN ∧ s82 = .int .i64 (k : Int) ∧ Hid (InAt wr B R base ra n c xs (p + X + ct + DX) v' (repn o A k) most fl fd) ∧ Hid (Fr w wr B R (.slice av o.length cv)) ∧ Hid (Went w (.slice av o.length cv) v')) (fun s82 _ => NN - (intOf s82).toNat)
              case atStart => exact ⟨0, _, by omega, rfl, HI6, HF6, Lib.hid (Went.refl _ _)⟩
              case round =>
                obtain ⟨k, v', hk, rfl, HJ, HF, HW⟩ := hrel
                rename World => wr
                by_cases hkN : k < NN
                · have hO := repn_len A k o
                  have hnext := repn_next o A k
                  have hlo := HLO.out
                  obtain ⟨O, hOe⟩ : ∃ O, O = repn o A k := ⟨_, rfl⟩
                  rw [← hOe] at HJ hO hnext
                  have hl1 : O.length + 1 ≤ most := by omega
                  obtain ⟨m, hme⟩ : ∃ m, m = O.length := ⟨_, rfl⟩
                  have hmA : A ≤ m := by omega
                  have hown := HJ.out.own
                  rw [← hme] at hown hl1 hnext
                  obtain ⟨g', c', rfl⟩ := own_some hown (by omega)
                  obtain ⟨j, hj⟩ : ∃ j, j = m - A := ⟨_, rfl⟩
                  rw [← hj] at hnext
                  obtain ⟨x, hx⟩ : ∃ x, x = O.getD j 0 := ⟨_, rfl⟩
                  rw [← hx] at hnext
                  have hjm : j < m := by omega
                  have hjO : j < O.length := by omega
                  have hxO : O.getD j 0 = O[j] := by simp [hjO]
                  have hx256 : x < 256 := by rw [hx, hxO]; exact HJ.out.byte _ (List.getElem_mem hjO)
                  have hcx : wr.cell? ⟨g', j, none⟩ = some (.int .u8 (x : Int)) := by
                    rw [hown.cellAt j (by omega), hx, hxO]
                    simp [bv, hjO]
                  have ej : (m : Int) - (A : Int) = (j : Int) := by omega
                  have ej2 : IntKind.i64.wrap (j : Int) = (j : Int) := IntWalk.i64_in _ (by omega)
                  have hji : (j : Int) < (m : Int) := by omega
                  have c1 := HJ.out.ib.c1
                  have hlow := HJ.out.low
                  have hBl := HJ.out.ib.lt
                  have hgl : g' < wr.heap.size := (hown.lt g' rfl).2
                  have HNX := Lib.hid hnext
                  have HOW := Lib.hid hown
                  have HOA := Lib.hid ((hown.alloc (.cells #[.int .u8 (x : Int)] 5)).drew)
                  have HOE := Lib.hid hOe
                  have HME := Lib.hid hme
                  clear hO hnext hlo hOe hme hown hj hx hjO hxO
                  go_wp2_with fail
                  go_region_law (first | (refine step_append_own_at rfl (.tmp 88) (.tmp 102) 22 rfl base 5 i0 (.int .u8 0) 1 1 Tryd.underlying22 hi hz0 hz1 hz2 rfl (by decide) _ _ _ rfl HOA.out ⟨wr.heap.size, 0, none⟩ 1 1 [.int .u8 (x : Int)] rfl rfl (one_src _ _ _) (one_oneCell rfl) (by unfold maxLen; omega) (by omega) (by simp; omega) ?_; intro v2 w7 hown7 hg7 hat7; obtain ⟨g2, cc2, rfl⟩ := own_some hown7 (by omega); have hst := out_step (.cells #[.int .u8 (x : Int)] 5) HJ.out.ib HOW.out hown7 ⟨hg7.os, hg7.tape, hg7.output, hg7.size, hg7.block⟩; have HST := Lib.hid hst; have c7 := hst.1.c1; have f7 := hst.1.f 1; clear hst))
                  all_goals
                    have hwent : Went wr (.slice (some ⟨g', 0, none⟩) m c') (.slice (some ⟨g2, 0, none⟩) (m + 1) cc2) := by
                      rcases hat7 with e | e
                      · exact .inl e
                      · exact .inr ⟨_, e, by simp⟩
                    have HWT := Lib.hid hwent
                    clear hwent hat7 hown7 hg7
                    go_wp2_with fail
                    go_roundw
                    case rel => exact ⟨k + 1, _, by omega, by go_num, Lib.hid (by rw [HNX.out]; exact HJ.out.wrote hx256 (by rw [← HME.out]; exact hl1) HST.out.2.2.2 HST.out.2.1 (by rw [bv_append, ← HME.out]; exact HST.out.2.2.1)), Lib.hid (HF.out.trans HW.out (Fr.touch R HST.out.2.2.2)), Lib.hid (HW.out.trans HF.out.size HWT.out)⟩
                    case measure => simp [intOf]; omega
                · obtain rfl : k = NN := by omega
                  go_wp2_with fail
                  go_ret
                  rw [HE5.out]
                  exact ⟨rfl, HF.out, _, HJ.out, HW.out⟩
            · have hd : decide (l + NN ≤ most) = false := decide_eq_false hroom
              rw [hd] at HR5
              rw [if_pos (by omega)] at hE
              have HE5 := Lib.hid hE
              clear hE hd
              go_wp2_with fail
              refine HR5.out.mono ?_
              rintro e w6 ⟨rfl, d6, rfl⟩
              have HF6 := Lib.hid (HF5.out.trans (Went.refl _ _) (Fr.touch R (touch_drewN w5 d6 B _)))
              go_wp2_with fail
              go_ret
              rw [HE5.out]
              exact ⟨rfl, HF6.out⟩
    · have hz : ((er : Int) != 0) = true := by rw [bne_iff_ne]; omega
      have HE := Lib.hid (HQ2.out her0)
      clear her0
      go_wp2_with fail
      go_ret
      rw [HE.out]
      exact ⟨rfl, HF3.out⟩
end Go.Proofs.YtnfdojdppifmoaaDoor
