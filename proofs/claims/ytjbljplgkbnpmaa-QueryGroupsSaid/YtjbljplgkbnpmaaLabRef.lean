/- The document's answer for labels, walked: letter, Name, Right. -/
import Derived.Test.YtjbljplgkbnpmaaLabRight
namespace Go.Proofs.Ytjbljplgkbnpmaa
open Go.RowKit LabPlain
set_option linter.unusedVariables false

set_option maxHeartbeats 400000 in
theorem letter_any (c : Nat) (hc : c < 256) (w : World) :
    Calls Try.prog 69 #[.int .u8 (c : Int)] w fun e w' => e = .returned (.bool (okC c)) ∧ w = w' := by
  have hcs : ((97 : Int) ≤ (c : Int) ∧ decide ((c : Int) ≤ 122) = true ∧ okC c = true) ∨ ((97 : Int) ≤ (c : Int) ∧ decide ((c : Int) ≤ 122) = false ∧ ((c : Int) == 95) = false ∧ (48 : Int) ≤ (c : Int) ∧ decide ((c : Int) ≤ 57) = false ∧ okC c = false) ∨
      ((c : Int) < 97 ∧ (48 : Int) ≤ (c : Int) ∧ decide ((c : Int) ≤ 57) = true ∧ okC c = true) ∨ ((c : Int) < 97 ∧ (48 : Int) ≤ (c : Int) ∧ decide ((c : Int) ≤ 57) = false ∧ ((c : Int) == 95) = true ∧ okC c = true) ∨
      ((c : Int) < 97 ∧ (48 : Int) ≤ (c : Int) ∧ decide ((c : Int) ≤ 57) = false ∧ ((c : Int) == 95) = false ∧ okC c = false) ∨ ((c : Int) < 48 ∧ (c : Int) < 97 ∧ ((c : Int) == 95) = false ∧ okC c = false) := by
    simp only [okC, isL, decide_eq_true_eq, decide_eq_false_iff_not, beq_iff_eq, beq_eq_false_iff_ne, Bool.or_eq_true, Bool.and_eq_true, Bool.or_eq_false_iff, Bool.and_eq_false_imp]
    omega
  rcases hcs with ⟨h1, h2, hr⟩ | ⟨h1, h2, h3, h4, h5, hr⟩ | ⟨h1, h2, h3, hr⟩ | ⟨h1, h2, h3, h4, hr⟩ | ⟨h1, h2, h3, h4, hr⟩ | ⟨h1, h2, h3, hr⟩
  all_goals
    have HR := Lib.hid hr
    clear hr
    go_enter Try.func69, Try.ntmps69
    go_wp2_with fail
    go_ret
    rw [HR.out]; exact ⟨rfl, rfl⟩

set_option maxRecDepth 100000 in
set_option maxHeartbeats 1000000 in
theorem name_any (s : ByteArray) (hs : s.size ≤ 9223372036854775807) (w : World) :
    Calls Try.prog 65 #[.string s] w fun e w' => e = .returned (.bool (isNm s)) ∧ w = w' := by
  by_cases h1 : s.size < 1
  · have hR := Lib.hid (show isNm s = false by unfold isNm; simp [show ¬ 1 ≤ s.size by omega])
    have h1i : (s.size : Int) < 1 := by omega
    clear h1
    go_enter Try.func65, Try.ntmps65
    go_wp2_with fail
    go_ret
    rw [hR.out]; exact ⟨rfl, rfl⟩
  · by_cases h8 : 8 < s.size
    · have hR := Lib.hid (show isNm s = false by unfold isNm; simp [show ¬ s.size ≤ 8 by omega])
      have h1i : (1 : Int) ≤ (s.size : Int) := by omega
      have h8i : (8 : Int) < (s.size : Int) := by omega
      clear h1 h8
      go_enter Try.func65, Try.ntmps65
      go_wp2_with fail
      go_ret
      rw [hR.out]; exact ⟨rfl, rfl⟩
    · have h1i : (1 : Int) ≤ (s.size : Int) := by omega
      have h8i : (s.size : Int) ≤ 8 := by omega
      have h0 : 0 < s.size := by omega
      obtain ⟨c0, hc0⟩ : ∃ c0, c0 = at_ s 0 := ⟨_, rfl⟩
      have hs0 : (s[0]'h0).toNat = c0 := by rw [hc0, at_get s 0 h0]
      have HC0 := Lib.hid hc0
      have H18 := Lib.hid (show decide (1 ≤ s.size) = true ∧ decide (s.size ≤ 8) = true from ⟨decide_eq_true (by omega), decide_eq_true (by omega)⟩)
      clear h1 h8 hc0
      by_cases h97 : c0 < 97
      · have hR := Lib.hid (show isNm s = false by unfold isNm isL; rw [← HC0.out, decide_eq_false (show ¬ 97 ≤ c0 by omega)]; simp)
        have i1 : (c0 : Int) < 97 := by omega
        clear h97
        go_enter Try.func65, Try.ntmps65
        go_wp2_with fail
        go_ret
        rw [hR.out]; exact ⟨rfl, rfl⟩
      · by_cases h122 : 122 < c0
        · have hR := Lib.hid (show isNm s = false by unfold isNm isL; rw [← HC0.out, decide_eq_false (show ¬ c0 ≤ 122 by omega)]; simp)
          have i1 : (97 : Int) ≤ (c0 : Int) := by omega
          have i2 : (122 : Int) < (c0 : Int) := by omega
          clear h97 h122
          go_enter Try.func65, Try.ntmps65
          go_wp2_with fail
          go_ret
          rw [hR.out]; exact ⟨rfl, rfl⟩
        · have hR := Lib.hid (show isNm s = allC s s.size by unfold isNm isL; rw [← HC0.out, decide_eq_true (show 97 ≤ c0 by omega), decide_eq_true (show c0 ≤ 122 by omega), H18.out.1, H18.out.2]; simp)
          have i1 : (97 : Int) ≤ (c0 : Int) := by omega
          have i2 : (c0 : Int) ≤ 122 := by omega
          clear h97 h122
          go_enter Try.func65, Try.ntmps65
          go_wp2_with fail
          clear hs0 i1 i2
          go_loop [3] (fun s3 => ∃ k : Nat, k ≤ s.size ∧ s3 = .int .i64 (k : Int) ∧ Hid (allC s k = true)) (fun s3 => s.size - (intOf s3).toNat)
          case atStart => exact ⟨0, by omega, rfl, Lib.hid rfl⟩
          case round =>
            obtain ⟨k, hk, rfl, HA⟩ := hrel
            by_cases hks : k < s.size
            · obtain ⟨c, hc⟩ : ∃ c, c = at_ s k := ⟨_, rfl⟩
              have hsk : (s[k]'hks).toNat = c := by rw [hc, at_get s k hks]
              have hcl : c < 256 := by rw [hc]; exact at_lt s k
              have HCK := Lib.hid hc
              clear hc
              have hlt := letter_any c hcl w
              cases hok : okC c with
              | true =>
                have HA2 := Lib.hid (show allC s (k + 1) = true by rw [allC, HA.out, ← HCK.out, hok]; rfl)
                rw [hok] at hlt
                have HL := Lib.hid hlt
                clear hlt hok
                go_wp2_with fail
                refine HL.out.mono ?_
                rintro e w1 ⟨rfl, rfl⟩
                go_wp2_with fail
                go_round
                case rel => exact ⟨k + 1, by omega, by go_num, HA2⟩
                case measure => simp [intOf]; omega
              | false =>
                have HF := Lib.hid (show isNm s = false by
                  rw [hR.out]
                  have := allC_no (s := s) (k := k) (by rw [← HCK.out]; exact hok) (s.size - (k + 1))
                  rw [show k + 1 + (s.size - (k + 1)) = s.size from by omega] at this
                  exact this)
                rw [hok] at hlt
                have HL := Lib.hid hlt
                clear hlt hok
                go_wp2_with fail
                refine HL.out.mono ?_
                rintro e w1 ⟨rfl, rfl⟩
                go_wp2_with fail
                go_ret
                rw [HF.out]; exact ⟨rfl, rfl⟩
            · obtain rfl : k = s.size := by omega
              have HT := Lib.hid (show isNm s = true by rw [hR.out]; exact HA.out)
              clear hks
              go_wp2_with fail
              go_ret
              rw [HT.out]; exact ⟨rfl, rfl⟩

set_option maxRecDepth 100000 in
set_option maxHeartbeats 2000000 in
theorem rright_any {w : World} {a : Option Addr} {n c : Nat} {l : List Lab} (h : LabsAt w a n c l) :
    Calls Try.prog 19 #[.slice a n c] w fun e w' => e = .returned (.bool (isSet l)) ∧ Below w.heap.size w w' := by
  have hlen := h.len
  have hcap := h.cap
  have hcm := h.capm
  have HH := Lib.hid h
  have HL := Lib.hid hlen
  clear h hlen
  by_cases h4 : 4 < n
  · have HR := Lib.hid (show isSet l = false by unfold isSet; rw [decide_eq_false (by rw [HL.out]; omega)]; rfl)
    have h4i : (4 : Int) < (n : Int) := by omega
    clear h4
    go_enter Try.func19, Try.ntmps19
    go_wp2_with fail
    go_ret
    rw [HR.out]; exact ⟨rfl, Below.refl _ _⟩
  · have h4i : (n : Int) ≤ 4 := by omega
    have HR := Lib.hid (show isSet l = upTo l n by unfold isSet; rw [decide_eq_true (by rw [HL.out]; omega), HL.out]; rfl)
    clear h4
    go_enter Try.func19, Try.ntmps19
    go_wp2_with fail
    go_loopw [10] (fun s10 wr => ∃ k : Nat, k ≤ n ∧ s10 = .int .i64 (k : Int) ∧ Hid (upTo l k = true) ∧ Hid (Below w.heap.size w wr)) (fun s10 _ => n - (intOf s10).toNat)
    case atStart => exact ⟨0, by omega, rfl, Lib.hid rfl, Lib.hid (Below.refl _ _)⟩
    case round =>
      obtain ⟨k, hk, rfl, HU, HB⟩ := hrel
      rename World => wr
      by_cases hkn : k < n
      · obtain ⟨b, off, rfl, hlt, hcell⟩ := (HH.out.kept HB.out).cells (by omega)
        obtain ⟨h1, h2⟩ := hcell k hkn
        have hsz := HH.out.size _ (lab_mem (l := l) (i := k) (by have := HL.out; omega))
        obtain ⟨x1, hx1⟩ : ∃ x, x = (l.getD k lab0).1 := ⟨_, rfl⟩
        obtain ⟨x2, hx2⟩ : ∃ x, x = (l.getD k lab0).2 := ⟨_, rfl⟩
        rw [← hx1] at h1 hsz
        rw [← hx2] at h2 hsz
        have HX := Lib.hid (And.intro hx1 hx2)
        have HC := Lib.hid hcell
        have hno := fun (h : (isNm x1 && decide (x2.size ≤ 16) && (decide (k = 0) || ltB (l.getD (k - 1) lab0).1 x1)) = false) => (show isSet l = false by
          rw [HR.out]
          rw [HX.out.1, HX.out.2] at h
          have := upTo_no (l := l) (k := k) h (n - (k + 1))
          rw [show k + 1 + (n - (k + 1)) = n from by omega] at this
          exact this)
        have HNO := Lib.hid hno
        have hnm := name_any x1 (by omega) wr
        clear hx1 hx2 hcell hno
        cases hn : isNm x1 with
        | false =>
          rw [hn] at hnm
          have HN := Lib.hid hnm
          have HF := Lib.hid (HNO.out (by rw [hn]; rfl))
          clear hnm hn
          go_wp2_with fail
          refine HN.out.mono ?_
          rintro e w2 ⟨rfl, rfl⟩
          go_wp2_with fail
          go_ret
          rw [HF.out]; exact ⟨rfl, HB.out⟩
        | true =>
          rw [hn] at hnm
          have HN := Lib.hid hnm
          have HNM := Lib.hid hn
          clear hnm hn
          by_cases h16 : 16 < x2.size
          · have HF := Lib.hid (HNO.out (by rw [decide_eq_false (show ¬ x2.size ≤ 16 by omega), Bool.and_false]; rfl))
            have h16i : (16 : Int) < (x2.size : Int) := by omega
            clear h16
            go_wp2_with fail
            refine HN.out.mono ?_
            rintro e w2 ⟨rfl, rfl⟩
            go_wp2_with fail
            go_ret
            rw [HF.out]; exact ⟨rfl, HB.out⟩
          · have h16i : (x2.size : Int) ≤ 16 := by omega
            have HD := Lib.hid (show decide (x2.size ≤ 16) = true from decide_eq_true (by omega))
            clear h16
            go_wp2_with fail
            refine HN.out.mono ?_
            rintro e w2 ⟨rfl, rfl⟩
            go_wp2_with fail
            go_loopw [4] (fun s4 wq => ∃ j : Nat, j ≤ k ∧ s4 = .int .i64 (j : Int) ∧ Hid (∀ i, i < j → ltB (l.getD i lab0).1 x1 = true) ∧ Hid (Below w.heap.size w wq)) (fun s4 _ => k - (intOf s4).toNat)
            case atStart => exact ⟨0, by omega, rfl, Lib.hid (fun i hi => absurd hi (Nat.not_lt_zero _)), HB⟩
            case round =>
              clear h1 h2 HC HB hlt
              obtain ⟨j, hj, rfl, HJ, HB⟩ := hrel
              rename World => wq
              obtain ⟨b', off', he, hlt, hcell⟩ := (HH.out.kept HB.out).cells (by omega)
              cases he
              have h1 := (hcell k (by omega)).1
              rw [← HX.out.1] at h1
              have HC := Lib.hid hcell
              clear hcell
              by_cases hjk : j < k
              · obtain ⟨y, hy⟩ : ∃ y, y = (l.getD j lab0).1 := ⟨_, rfl⟩
                have hcy := (HC.out j (by omega)).1
                rw [← hy] at hcy
                have HY := Lib.hid hy
                have hjn : (j : Int) < (n : Int) := by omega
                have hkni : (k : Int) < (n : Int) := by omega
                clear hy
                cases hlt2 : ltB y x1 with
                | true =>
                  have hge : Op.bytesLess y.toList x1.toList = true := hlt2
                  have HJ2 := Lib.hid (show ∀ i, i < j + 1 → ltB (l.getD i lab0).1 x1 = true from fun i hi => by
                    rcases Nat.lt_or_ge i j with g | g
                    · exact HJ.out i g
                    · obtain rfl : i = j := by omega
                      rw [← HY.out]; exact hlt2)
                  clear hlt2
                  go_wp2_with fail
                  go_quiet (fail)
                  rename Nat => nq
                  go_wp2_with fail
                  go_roundw
                  case rel => exact ⟨j + 1, by omega, by go_num, HJ2, Lib.hid (below_drewN HB.out nq)⟩
                  case measure => simp [intOf]; omega
                | false =>
                  have hge : Op.bytesLess y.toList x1.toList = false := hlt2
                  have HF := Lib.hid (show isSet l = false by
                    cases hs : isSet l with
                    | false => rfl
                    | true =>
                      rw [HR.out] at hs
                      have := upTo_lt hs (k - (j + 1)) j (by omega)
                      rw [show j + 1 + (k - (j + 1)) = k from by omega, ← HX.out.1, ← HY.out, hlt2] at this
                      cases this)
                  clear hlt2
                  go_wp2_with fail
                  go_quiet (fail)
                  rename Nat => nq
                  go_wp2_with fail
                  go_ret
                  rw [HF.out]; exact ⟨rfl, below_drewN HB.out nq⟩
              · obtain rfl : j = k := by omega
                have HU2 := Lib.hid (show upTo l (j + 1) = true by
                  rw [upTo, HU.out, ← HX.out.1, ← HX.out.2, HNM.out, HD.out]
                  rcases Nat.eq_zero_or_pos j with g | g
                  · subst g; rfl
                  · rw [HJ.out (j - 1) (by omega)]; simp)
                clear hjk
                go_wp2_with fail
                go_roundw
                case rel => exact ⟨j + 1, by omega, by go_num, HU2, HB⟩
                case measure => simp [intOf]; omega
      · obtain rfl : k = n := by omega
        have HT := Lib.hid (show isSet l = true by rw [HR.out]; exact HU.out)
        clear hkn
        go_wp2_with fail
        go_ret
        rw [HT.out]; exact ⟨rfl, HB.out⟩
end Go.Proofs.Ytjbljplgkbnpmaa
