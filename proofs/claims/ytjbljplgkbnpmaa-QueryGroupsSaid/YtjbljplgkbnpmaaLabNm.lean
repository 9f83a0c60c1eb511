/- Package label's isLetter and isName, walked. -/
import Derived.Test.YtjbljplgkbnpmaaOwn
import Derived.Test.YtjbljplgkbnpmaaLabPlain
namespace Go.Proofs.Ytjbljplgkbnpmaa
open Go.RowKit LabPlain
set_option linter.unusedVariables false

set_option maxHeartbeats 400000 in
theorem isletter_any (c : Nat) (hc : c < 256) (w : World) :
    Calls Try.prog 91 #[.int .u8 (c : Int)] w fun e w' => e = .returned (.bool (isL c)) ∧ w = w' := by
  by_cases h1 : 97 ≤ c
  · have h1i : (97 : Int) ≤ (c : Int) := by omega
    cases h2 : decide (c ≤ 122) with
    | true =>
      have hR := Lib.hid (show isL c = true by unfold isL; rw [h2, decide_eq_true h1]; rfl)
      have h2i : decide ((c : Int) ≤ 122) = true := by rw [decide_eq_true_eq] at h2 ⊢; omega
      clear h1 h2
      go_enter Try.func91, Try.ntmps91
      go_wp2_with fail
      go_ret
      rw [hR.out]; exact ⟨rfl, rfl⟩
    | false =>
      have hR := Lib.hid (show isL c = false by unfold isL; rw [h2, Bool.and_false])
      have h2i : decide ((c : Int) ≤ 122) = false := by rw [decide_eq_false_iff_not] at h2 ⊢; omega
      clear h1 h2
      go_enter Try.func91, Try.ntmps91
      go_wp2_with fail
      go_ret
      rw [hR.out]; exact ⟨rfl, rfl⟩
  · have hR := Lib.hid (show isL c = false by simp [isL, h1])
    have h1i : (c : Int) < 97 := by omega
    clear h1
    go_enter Try.func91, Try.ntmps91
    go_wp2_with fail
    go_ret
    rw [hR.out]; exact ⟨rfl, rfl⟩

set_option maxRecDepth 100000 in
set_option maxHeartbeats 1000000 in
theorem isname_any (s : ByteArray) (hs : s.size ≤ 9223372036854775807) (w : World) :
    Calls Try.prog 66 #[.string s] w fun e w' => e = .returned (.bool (isNm s)) ∧ w = w' := by
  by_cases h1 : s.size < 1
  · have hR := Lib.hid (show isNm s = false by unfold isNm; simp [show ¬ 1 ≤ s.size by omega])
    have h1i : (s.size : Int) < 1 := by omega
    clear h1
    go_enter Try.func66, Try.ntmps66
    go_wp2_with fail
    go_ret
    rw [hR.out]; exact ⟨rfl, rfl⟩
  · by_cases h8 : 8 < s.size
    · have hR := Lib.hid (show isNm s = false by unfold isNm; simp [show ¬ s.size ≤ 8 by omega])
      have h1i : (1 : Int) ≤ (s.size : Int) := by omega
      have h8i : (8 : Int) < (s.size : Int) := by omega
      clear h1 h8
      go_enter Try.func66, Try.ntmps66
      go_wp2_with fail
      go_ret
      rw [hR.out]; exact ⟨rfl, rfl⟩
    · have h1i : (1 : Int) ≤ (s.size : Int) := by omega
      have h8i : (s.size : Int) ≤ 8 := by omega
      have h0 : 0 < s.size := by omega
      obtain ⟨c0, hc0⟩ : ∃ c0, c0 = at_ s 0 := ⟨_, rfl⟩
      have hs0 : (s[0]'h0).toNat = c0 := by rw [hc0, at_get s 0 h0]
      have hc256 : c0 < 256 := by rw [hc0]; exact at_lt s 0
      have HC0 := Lib.hid hc0
      have h18 : decide (1 ≤ s.size) = true ∧ decide (s.size ≤ 8) = true := ⟨decide_eq_true (by omega), decide_eq_true (by omega)⟩
      have H18 := Lib.hid h18
      clear h1 h8 hc0 h18
      cases hl : isL c0 with
      | false =>
        have hR := Lib.hid (show isNm s = false by unfold isNm; rw [← HC0.out, hl]; simp)
        have hlt := isletter_any c0 hc256 w
        rw [hl] at hlt
        have HL := Lib.hid hlt
        clear hlt hl
        go_enter Try.func66, Try.ntmps66
        go_wp2_with fail
        refine HL.out.mono ?_
        rintro e w1 ⟨rfl, rfl⟩
        go_wp2_with fail
        go_ret
        rw [hR.out]; exact ⟨rfl, rfl⟩
      | true =>
        have hR := Lib.hid (show isNm s = allC s s.size by unfold isNm; rw [← HC0.out, hl, H18.out.1, H18.out.2]; simp)
        have hlt := isletter_any c0 hc256 w
        rw [hl] at hlt
        have HL := Lib.hid hlt
        clear hlt hl
        go_enter Try.func66, Try.ntmps66
        go_wp2_with fail
        refine HL.out.mono ?_
        rintro e w1 ⟨rfl, rfl⟩
        go_wp2_with fail
        clear hs0
        go_loop [21] (fun s21 => ∃ k : Nat, k ≤ s.size ∧ s21 = .int .i64 (k : Int) ∧ Hid (allC s k = true)) (fun s21 => s.size - (intOf s21).toNat)
        case atStart => exact ⟨0, by omega, rfl, Lib.hid rfl⟩
        case round =>
          obtain ⟨k, hk, rfl, HA⟩ := hrel
          by_cases hks : k < s.size
          · obtain ⟨c, hc⟩ : ∃ c, c = at_ s k := ⟨_, rfl⟩
            have hsk : (s[k]'hks).toNat = c := by rw [hc, at_get s k hks]
            have hcl : c < 256 := by rw [hc]; exact at_lt s k
            have HCK := Lib.hid hc
            clear hc
            have hlt := isletter_any c hcl w
            cases hok : okC c with
            | true =>
              have HA2 := Lib.hid (show allC s (k + 1) = true by rw [allC, HA.out, ← HCK.out, hok]; rfl)
              cases hl : isL c with
              | true =>
                rw [hl] at hlt
                have HL := Lib.hid hlt
                clear hlt hl hok
                go_wp2_with fail
                refine HL.out.mono ?_
                rintro e w1 ⟨rfl, rfl⟩
                go_wp2_with fail
                go_round
                case rel => exact ⟨k + 1, by omega, by go_num, HA2⟩
                case measure => simp [intOf]; omega
              | false =>
                rw [hl] at hlt
                have HL := Lib.hid hlt
                have hcc : c = 95 ∨ (48 ≤ c ∧ c ≤ 57) := by
                  unfold okC at hok
                  rw [hl] at hok
                  simpa using hok
                clear hlt hl hok
                by_cases h95 : c = 95
                · have h95i : ((c : Int) != 95) = false := by rw [bne_eq_false_iff_eq]; omega
                  clear hcc h95
                  go_wp2_with fail
                  refine HL.out.mono ?_
                  rintro e w1 ⟨rfl, rfl⟩
                  go_wp2_with fail
                  go_round
                  case rel => exact ⟨k + 1, by omega, by go_num, HA2⟩
                  case measure => simp [intOf]; omega
                · have h95i : ((c : Int) != 95) = true := by rw [bne_iff_ne]; omega
                  have h48 : (48 : Int) ≤ (c : Int) := by omega
                  have h57 : (c : Int) ≤ 57 := by omega
                  clear hcc h95
                  go_wp2_with fail
                  refine HL.out.mono ?_
                  rintro e w1 ⟨rfl, rfl⟩
                  go_wp2_with fail
                  go_round
                  case rel => exact ⟨k + 1, by omega, by go_num, HA2⟩
                  case measure => simp [intOf]; omega
            | false =>
              have hl : isL c = false := by
                unfold okC at hok
                cases hl : isL c with
                | false => rfl
                | true => rw [hl] at hok; simp at hok
              rw [hl] at hlt
              have HL := Lib.hid hlt
              have hcc : c ≠ 95 ∧ (c < 48 ∨ 57 < c) := by
                unfold okC at hok
                rw [hl] at hok
                simp at hok
                omega
              have HF := Lib.hid (show isNm s = false by
                rw [hR.out]
                have := allC_no (s := s) (k := k) (by rw [← HCK.out]; exact hok) (s.size - (k + 1))
                rw [show k + 1 + (s.size - (k + 1)) = s.size from by omega] at this
                exact this)
              have h95i : ((c : Int) != 95) = true := by rw [bne_iff_ne]; omega
              clear hlt hl hok
              rcases hcc with ⟨h95, h48 | h57⟩
              · have h48i : (c : Int) < 48 := by omega
                clear h95 h48
                go_wp2_with fail
                refine HL.out.mono ?_
                rintro e w1 ⟨rfl, rfl⟩
                go_wp2_with fail
                go_ret
                rw [HF.out]; exact ⟨rfl, rfl⟩
              · have h57i : (57 : Int) < (c : Int) := by omega
                have h48i : (48 : Int) ≤ (c : Int) := by omega
                clear h95 h57
                go_wp2_with fail
                refine HL.out.mono ?_
                rintro e w1 ⟨rfl, rfl⟩
                go_wp2_with fail
                go_ret
                rw [HF.out]; exact ⟨rfl, rfl⟩
          · obtain rfl : k = s.size := by omega
            have HT := Lib.hid (show isNm s = true by rw [hR.out]; exact HA.out)
            clear hks
            go_wp2_with fail
            go_ret
            rw [HT.out]; exact ⟨rfl, rfl⟩
end Go.Proofs.Ytjbljplgkbnpmaa
