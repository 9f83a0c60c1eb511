/- The document's Check, Turn, Encode of rows, walked; two rows compared. -/
import Derived.Test.YtcnkhliplcbfkaaDeltaEnc
import Derived.Deep.QuietTactic
import Derived.BigQuiet
namespace Go.Proofs.Ytcnkhliplcbfkaa
open Go.RowKit NumsPlain DeltaPlain
set_option linter.unusedVariables false

set_option maxHeartbeats 400000 in
theorem in_any (x : Int) (w : World) :
    Calls Try.prog 27 #[.int .i64 x] w fun e w' => e = .returned (.bool (inB x)) ∧ w = w' := by
  by_cases h0 : -1152921504606846976 ≤ x
  · by_cases h2 : x ≤ 1152921504606846976
    · have H := Lib.hid ((inB_iff x).2 ⟨h0, h2⟩)
      go_enter Try.func27, Try.ntmps27
      go_wp2_with fail
      go_ret
      rw [H.out]
      exact ⟨rfl, rfl⟩
    · have h2' : (1152921504606846976 : Int) < x := by omega
      have H := Lib.hid ((inB_no x).2 (.inr h2'))
      have d2 : decide (x ≤ 1152921504606846976) = false := by simp; omega
      clear h2
      go_enter Try.func27, Try.ntmps27
      go_wp2_with fail
      go_ret
      rw [H.out]
      exact ⟨rfl, rfl⟩
  · have h0' : x < -1152921504606846976 := by omega
    have H := Lib.hid ((inB_no x).2 (.inl h0'))
    have d0 : decide (-1152921504606846976 ≤ x) = false := by simp; omega
    clear h0
    go_enter Try.func27, Try.ntmps27
    go_wp2_with fail
    go_ret
    rw [H.out]
    exact ⟨rfl, rfl⟩

set_option maxRecDepth 100000 in
set_option maxHeartbeats 1000000 in
theorem rcheck_known {w : World} {a : Option Addr} {n c : Nat} {zs : List Int} (h : IntsAt .i64 w a n c zs) (way : Int) (hk : known way = true) :
    Calls Try.prog 12 #[.slice a n c, .int .i64 way] w fun e w' => e = .returned (.int .i64 ((chk zs way : Nat) : Int)) ∧ w = w' := by
  have hlen := h.len
  have hcap := h.cap
  have hcm := h.capm
  have HH := Lib.hid h
  have HL := Lib.hid hlen
  obtain ⟨q, hq⟩ : ∃ q, q = chk zs way := ⟨_, rfl⟩
  rw [← hq]
  have hkk := (known_iff way).1 hk
  have hw : way = 0 ∨ way = 1 ∨ way = 2 := by omega
  by_cases hbig : (2048 : Int) < (n : Int)
  · have hq5 : q = 5 := by rw [hq]; unfold chk; rw [if_neg (by rw [hk]; simp), if_pos (by rw [HL.out]; omega)]
    have HC := Lib.hid hq5
    clear hk hq h hlen hkk hq5
    rcases hw with rfl | rfl | rfl
    all_goals
      go_enter Try.func12, Try.ntmps12
      go_wp2_with fail
      go_ret
      rw [HC.out]
      exact ⟨rfl, rfl⟩
  · have hc : q = if zs.all inB then 0 else 2 := by
      rw [hq]; unfold chk; rw [if_neg (by rw [hk]; simp), if_neg (by rw [HL.out]; omega)]
    have HC := Lib.hid hc
    have hbig2 : (n : Int) ≤ 2048 := by omega
    clear hk hc hbig hq h hlen hkk
    rcases hw with rfl | rfl | rfl
    all_goals
      go_enter Try.func12, Try.ntmps12
      go_wp2_with fail
      go_loop [22] (fun s22 => ∃ k : Nat, k ≤ n ∧ s22 = .int .i64 k ∧ Hid ((zs.take k).all inB = true)) (fun s22 => n - (intOf s22).toNat)
      case atStart => exact ⟨0, by omega, rfl, Lib.hid (by simp)⟩
      case round =>
        obtain ⟨k, hk, rfl, HA⟩ := hrel
        by_cases hkn : k < n
        · obtain ⟨b, off, rfl, hlt, hcell⟩ := HH.out.cells (by omega)
          have hck := hcell k hkn
          obtain ⟨x, hx⟩ : ∃ x, x = zs.getD k 0 := ⟨_, rfl⟩
          rw [← hx] at hck
          have hkl2 := Lib.hid (show k < zs.length by rw [HL.out]; exact hkn)
          have HX := Lib.hid hx
          clear hcell hx
          cases hin : inB x with
          | false =>
            have HIN := Lib.hid hin
            have HN := Lib.hid (all_no hkl2.out (by rw [← HX.out]; exact hin))
            clear hin
            go_wp2_with fail
            refine (in_any x w).mono ?_
            rintro e w1 ⟨rfl, rfl⟩
            rw [HIN.out]
            go_wp2_with fail
            go_ret
            rw [HC.out, HN.out]
            exact ⟨rfl, rfl⟩
          | true =>
            have HIN := Lib.hid hin
            have HN := Lib.hid (show (zs.take (k + 1)).all inB = true by
              rw [all_take hkl2.out HA.out, ← HX.out]; exact hin)
            clear hin
            go_wp2_with fail
            refine (in_any x w).mono ?_
            rintro e w1 ⟨rfl, rfl⟩
            rw [HIN.out]
            go_wp2_with fail
            go_round
            case rel => exact ⟨k + 1, by omega, by go_num, HN⟩
            case measure => simp [intOf]; omega
        · have hkn2 : k = n := by omega
          have HN := Lib.hid (show zs.all inB = true by
            have := HA.out
            rw [List.take_of_length_le (by rw [HL.out]; omega)] at this
            exact this)
          clear hkn2
          go_wp2_with fail
          go_ret
          rw [HC.out, HN.out]
          exact ⟨rfl, rfl⟩

set_option maxHeartbeats 1000000 in
theorem rcheck_any {w : World} {a : Option Addr} {n c : Nat} {zs : List Int} (h : IntsAt .i64 w a n c zs) (way : Int) :
    Calls Try.prog 12 #[.slice a n c, .int .i64 way] w fun e w' => e = .returned (.int .i64 ((chk zs way : Nat) : Int)) ∧ w = w' := by
  cases hk : known way with
  | true => exact rcheck_known h way hk
  | false =>
    have HC := Lib.hid (show chk zs way = 1 by unfold chk; rw [if_pos hk])
    have hw := (known_no way).1 hk
    have e0 : (way != 0) = true := by rw [bne_iff_ne]; omega
    have e1 : (way != 1) = true := by rw [bne_iff_ne]; omega
    have e2 : (way != 2) = true := by rw [bne_iff_ne]; omega
    clear h hw hk
    go_enter Try.func12, Try.ntmps12
    go_wp2_with fail
    go_ret
    rw [HC.out]
    exact ⟨rfl, rfl⟩

set_option maxRecDepth 100000 in
set_option maxHeartbeats 1000000 in
theorem same64_any {w : World} {a a' : Option Addr} {n n' c c' : Nat} {zs ys : List Int} (h : IntsAt .i64 w a n c zs) (h' : IntsAt .i64 w a' n' c' ys) :
    Calls Try.prog 13 #[.slice a n c, .slice a' n' c'] w fun e w' => e = .returned (.bool (zs == ys)) ∧ ∃ m, w' = w.drewN m := by
  have hlen := h.len
  have hlen' := h'.len
  by_cases hnn : n = n'
  · subst hnn
    have HH := Lib.hid h
    have HH' := Lib.hid h'
    have HL := Lib.hid hlen
    have HL' := Lib.hid hlen'
    have hcap := h.cap
    have hcm := h.capm
    have hne : ((n : Int) != (n : Int)) = false := by simp
    clear h h' hlen hlen'
    go_enter Try.func13, Try.ntmps13
    go_wp2_with fail
    go_loopw [13] (fun s13 wr => ∃ k m : Nat, k ≤ n ∧ s13 = .int .i64 k ∧ Hid (zs.take k = ys.take k) ∧ Hid (wr = w.drewN m)) (fun s13 _ => n - (intOf s13).toNat)
    case atStart => exact ⟨0, 0, by omega, rfl, Lib.hid (by simp), Lib.hid rfl⟩
    case round =>
      obtain ⟨k, m, hk, rfl, HE, HW⟩ := hrel
      rename World => wr
      by_cases hkn : k < n
      · have hb : Below w.heap.size w wr := by rw [HW.out]; exact ⟨rfl, rfl, rfl, Nat.le_refl _, fun _ _ => rfl⟩
        obtain ⟨b, off, ha, hlt, hcell⟩ := (HH.out.kept hb).cells (by omega)
        obtain ⟨b', off', ha', hlt', hcell'⟩ := (HH'.out.kept hb).cells (by omega)
        have hck := hcell k hkn
        have hck' := hcell' k hkn
        obtain ⟨x, hx⟩ : ∃ x, x = zs.getD k 0 := ⟨_, rfl⟩
        obtain ⟨y, hy⟩ : ∃ y, y = ys.getD k 0 := ⟨_, rfl⟩
        rw [← hx] at hck
        rw [← hy] at hck'
        have hkz : k < zs.length := by rw [HL.out]; exact hkn
        have hky : k < ys.length := by rw [HL'.out]; exact hkn
        subst ha
        subst ha'
        by_cases hxy : x = y
        · have HE2 := Lib.hid (show zs.take (k + 1) = ys.take (k + 1) by rw [← take_next hkz, ← take_next hky, HE.out, ← hx, ← hy, hxy])
          subst hxy
          have hq : (x != x) = false := by simp
          clear hcell hcell' hx hy hkz hky hb
          go_wp2_with fail
          go_quiet (fail)
          go_wp2_with fail
          go_roundw
          case rel => exact ⟨k + 1, _, by omega, by go_num, HE2, Lib.hid (by rw [HW.out, World.drewN_drewN])⟩
          case measure => simp [intOf]; omega
        · have hq : (x != y) = true := by rw [bne_iff_ne]; exact hxy
          have HN := Lib.hid (show (zs == ys) = false by
            rw [beq_eq_false_iff_ne]; intro e; rw [e] at hx; exact hxy (hx.trans hy.symm))
          clear hcell hcell' hx hy hkz hky hb hxy
          go_wp2_with fail
          go_quiet (fail)
          go_wp2_with fail
          go_ret
          rw [HN.out]
          exact ⟨rfl, _, by rw [HW.out, World.drewN_drewN]⟩
      · have HE2 := Lib.hid (show (zs == ys) = true by
          rw [beq_iff_eq]
          have := HE.out
          rw [List.take_of_length_le (by rw [HL.out]; omega), List.take_of_length_le (by rw [HL'.out]; omega)] at this
          exact this)
        go_wp2_with fail
        go_ret
        rw [HE2.out]
        exact ⟨rfl, m, HW.out⟩
  · have hne : ((n : Int) != (n' : Int)) = true := by rw [bne_iff_ne]; omega
    have HN := Lib.hid (show (zs == ys) = false by
      rw [beq_eq_false_iff_ne]; intro e; rw [e, hlen'] at hlen; exact hnn hlen.symm)
    clear h h' hlen hlen' hnn
    go_enter Try.func13, Try.ntmps13
    go_wp2_with fail
    go_ret
    rw [HN.out]
    exact ⟨rfl, 0, rfl⟩
end Go.Proofs.Ytcnkhliplcbfkaa
