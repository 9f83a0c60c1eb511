/- The walk of DeltaEven: it returns true for all first ones, steps and lengths. -/
import Derived.Test.YtcnkhliplcbfkaaDeltaRef3
namespace Go.Proofs.Ytcnkhliplcbfkaa
open Go.RowKit NumsPlain DeltaPlain
set_option linter.unusedVariables false

/-- an even row -/
def ar (f s : Int) (n : Nat) : List Int := (List.range n).map fun (i : Nat) => f + (i : Int) * s
theorem ar_len (f s : Int) (n : Nat) : (ar f s n).length = n := by simp [ar]
theorem ar_get (f s : Int) (n i : Nat) (h : i < n) : (ar f s n).getD i 0 = f + (i : Int) * s := by simp [ar, h]
theorem ar_succ (f s : Int) (n : Nat) : ar f s (n + 1) = ar f s n ++ [f + (n : Int) * s] := by simp [ar, List.range_succ]
theorem mul_bd {s : Int} (h1 : -1099511627776 ≤ s) (h2 : s ≤ 1099511627776) {i : Nat} (hi : i ≤ 300) : -329853488332800 ≤ (i : Int) * s ∧ (i : Int) * s ≤ 329853488332800 := by
  have a1 : (i : Int) * s ≤ (i : Int) * 1099511627776 := Int.mul_le_mul_of_nonneg_left h2 (by omega)
  have a2 : (i : Int) * (-1099511627776) ≤ (i : Int) * s := Int.mul_le_mul_of_nonneg_left h1 (by omega)
  omega
theorem ar_bd {f s : Int} (f1 : -1099511627776 ≤ f) (f2 : f ≤ 1099511627776) (h1 : -1099511627776 ≤ s) (h2 : s ≤ 1099511627776) {n : Nat} (hn : n ≤ 300) : ∀ x ∈ ar f s n, -1152921504606846976 ≤ x ∧ x ≤ 1152921504606846976 := by
  intro x hx
  simp only [ar, List.mem_map, List.mem_range] at hx
  obtain ⟨i, hi, rfl⟩ := hx
  have := mul_bd h1 h2 (i := i) (by omega)
  omega
theorem ar_chk {f s : Int} (f1 : -1099511627776 ≤ f) (f2 : f ≤ 1099511627776) (h1 : -1099511627776 ≤ s) (h2 : s ≤ 1099511627776) {n : Nat} (hn : n ≤ 300) : chk (ar f s n) 2 = 0 := by
  unfold chk
  rw [if_neg (by decide), if_neg (by rw [ar_len]; omega), if_pos]
  rw [List.all_eq_true]
  intro x hx
  exact (inB_iff x).2 (ar_bd f1 f2 h1 h2 hn x hx)
theorem ar_even (f s : Int) (n i : Nat) (h2 : 2 ≤ i) (hi : i < n) : tn (ar f s n) 2 i = 0 := by
  obtain ⟨j, rfl⟩ : ∃ j, i = j + 2 := ⟨i - 2, by omega⟩
  unfold tn
  rw [if_neg (by omega), if_neg (by omega), ar_get f s n _ hi, ar_get f s n _ (by omega), ar_get f s n _ (by omega)]
  rw [show ((j + 2 : Nat) : Int) * s = (j : Int) * s + 2 * s from by rw [show ((j + 2 : Nat) : Int) = (j : Int) + 2 from by omega, Int.add_mul], show ((j + 2 - 1 : Nat) : Int) * s = (j : Int) * s + s from by
    rw [show j + 2 - 1 = j + 1 from by omega]; push_cast; rw [Int.add_mul, Int.one_mul], show j + 2 - 2 = j from by omega]
  omega
theorem ar_first (f s : Int) (n : Nat) (hn : 0 < n) : tn (ar f s n) 2 0 = f := by
  unfold tn
  rw [if_pos (.inr rfl), ar_get f s n _ hn]
  simp

set_option maxRecDepth 100000 in
set_option maxHeartbeats 4000000 in
theorem deltaEven_walk (a0 a1 a2 : Int) (w : World) (w0 : (Lit.int .i64 a0).wf = true) (w1 : (Lit.int .i64 a1).wf = true) (w2 : (Lit.int .i64 a2).wf = true) :
    Calls Try.prog 7 #[.int .i64 a0, .int .i64 a1, .int .i64 a2] w fun e w' => e = .returned (.bool true) ∧ Below w.heap.size w w' := by
  obtain ⟨i0, hi, hz0, hz1, hz2⟩ := info_parts info_i64
  have HL := Lib.hid (lives4_any w)
  have hb := i64_of_wf w2
  clear w0 w1 w2
  by_cases hgood : -1099511627776 ≤ a0 ∧ a0 ≤ 1099511627776 ∧ -1099511627776 ≤ a1 ∧ a1 ≤ 1099511627776
  · obtain ⟨f1, f2, s1, s2⟩ := hgood
    obtain ⟨m, hm, hmn⟩ : ∃ m : Nat, wrap64 ((IntKind.u64.wrap a2).tmod 300) = (m : Int) ∧ m < 300 := by
      have h0 : 0 ≤ IntKind.u64.wrap a2 := by rw [IntKind.wrap_u64]; omega
      have h2 : (IntKind.u64.wrap a2).tmod 300 = (IntKind.u64.wrap a2) % 300 := Int.tmod_eq_emod_of_nonneg h0
      refine ⟨(IntKind.u64.wrap a2 % 300).toNat, ?_, by omega⟩
      rw [h2, IntWalk.wrap64_in _ (by omega)]
      omega
    have HM := Lib.hid hm
    clear hm
    go_enter Try.func7, Try.ntmps7
    go_wp2_with fail
    refine HL.out.mono ?_
    rintro e w1 ⟨rfl, hb1⟩
    have HB1 := Lib.hid hb1
    clear hb1
    go_wp2_with fail
    rw [HM.out]
    go_loopw [7, 35] (fun s7 s35 wr => ∃ k : Nat, k ≤ m ∧ s35 = .int .i64 k ∧ Hid (wr.ownsRow w.heap.size 2 1 s7 k (iv .i64 (ar a0 a1 k))) ∧ Hid (Below w.heap.size w wr)) (fun _ s35 _ => m - (intOf s35).toNat)
    case atStart => exact ⟨0, by omega, rfl, Lib.hid (World.ownsRow_nil _ _ _ _), HB1⟩
    case round =>
      obtain ⟨k, hk, rfl, HO, HB⟩ := hrel
      rename World => wr
      by_cases hkm : k < m
      · have hp := mul_bd s1 s2 (i := k) (by omega)
        obtain ⟨p, hp0⟩ : ∃ p, p = (k : Int) * a1 := ⟨_, rfl⟩
        have e1 : IntKind.i64.wrap ((k : Int) * a1) = p := by rw [IntWalk.i64_in _ (by omega), hp0]
        have e2 : wrap64 ((k : Int) * a1) = p := by rw [IntWalk.wrap64_in _ (by omega), hp0]
        rw [← hp0] at hp
        obtain ⟨hp1, hp2⟩ := hp
        have HAR := Lib.hid (show ar a0 a1 (k + 1) = ar a0 a1 k ++ [a0 + p] by rw [ar_succ, hp0])
        have hgo := HO.out
        have hbs := HB.out.size
        clear hp0
        go_wp2_with (at_builtin; refine wpList_append_own _ rfl (.tmp 38) (.tmp 44) 22 rfl w.heap.size 2 i0 (.int .i64 0) 1 8 Try.underlying22 hi hz0 hz1 hz2 rfl (by decide) _ _ _ rfl (hgo.alloc _) ⟨wr.heap.size, 0, none⟩ 1 1 [.int .i64 (a0 + p)] rfl rfl (one_src _ _ _) (one_oneCell rfl) (by unfold maxLen; omega) (by omega) (by simp; omega) ?_)
        intro v4 w4 hown4 hg4 _
        have HO4 := Lib.hid (show w4.ownsRow w.heap.size 2 1 v4 (k + 1) (iv .i64 (ar a0 a1 (k + 1))) by rw [HAR.out, iv_append]; exact hown4)
        have HB4 := Lib.hid ((HB.out.alloc hbs _).grown hg4 (by simp; omega) (fun j hj => (hgo.lt j hj).1))
        clear hown4 hg4 hgo e1 e2
        go_wp2_with fail
        go_roundw
        case rel => exact ⟨k + 1, by omega, by go_num, HO4, HB4⟩
        case measure => simp [intOf]; omega
      · obtain rfl : k = m := by omega
        obtain ⟨a3, c3, rfl, hi3, _⟩ := IntsAt.ofOwn HO.out (fun z hz => wf_i64 (by have := ar_bd f1 f2 s1 s2 (by omega) z hz; omega))
        have hck := ar_chk (n := k) f1 f2 s1 s2 (by omega)
        have hT := turn_any hi3 2
        rw [hck, tu_ok hck] at hT
        have HT := Lib.hid hT
        have hz : ((0 : Int) != 0) = false := by decide
        have hkk : ((k : Int) != (k : Int)) = false := by simp
        clear hi3 hck hT
        go_wp2_with fail
        refine HT.out.mono ?_
        rintro e w4 ⟨a4, n4, c4, rfl, hi4, hb4⟩
        obtain rfl : n4 = k := by rw [← hi4.len, tl_length, ar_len]
        have HI4 := Lib.hid hi4
        have HB4 := Lib.hid (HB.out.trans (hb4.mono HB.out.size))
        have hcap := hi4.cap
        have hcm := hi4.capm
        clear hi4 hb4
        go_wp2_with fail
        go_loop [11] (fun s11 => ∃ i : Nat, 2 ≤ i ∧ i ≤ 300 ∧ s11 = .int .i64 i) (fun s11 => 300 - (intOf s11).toNat)
        case atStart => exact ⟨2, by omega, by omega, rfl⟩
        case round =>
          obtain ⟨i, hi2, hi3, rfl⟩ := hrel
          by_cases hin : i < n4
          · obtain ⟨b, off, rfl, hlt, hcell⟩ := HI4.out.cells (by omega)
            have hci := hcell i hin
            rw [tl_get _ _ _ (by rw [ar_len]; exact hin), ar_even a0 a1 n4 i hi2 hin] at hci
            clear hcell
            go_wp2_with fail
            go_round
            case rel => exact ⟨i + 1, by omega, by omega, by go_num⟩
            case measure => simp [intOf]; omega
          · by_cases hn0 : n4 = 0
            · subst hn0
              go_wp2_with fail
              go_ret
              exact ⟨rfl, HB4.out⟩
            · obtain ⟨b, off, rfl, hlt, hcell⟩ := HI4.out.cells (by omega)
              have hci := hcell 0 (by omega)
              rw [tl_get _ _ _ (by rw [ar_len]; omega), ar_first a0 a1 n4 (by omega), Nat.add_zero] at hci
              have hnz : ((n4 : Int) == 0) = false := by rw [beq_eq_false_iff_ne]; omega
              have hn4 : (0 : Int) < (n4 : Int) := by omega
              clear hcell
              go_wp2_with fail
              go_ret
              exact ⟨by simp, HB4.out⟩
  · have hbad : a0 < -1099511627776 ∨ (-1099511627776 ≤ a0 ∧ 1099511627776 < a0) ∨ (-1099511627776 ≤ a0 ∧ a0 ≤ 1099511627776 ∧ a1 < -1099511627776) ∨ (-1099511627776 ≤ a0 ∧ a0 ≤ 1099511627776 ∧ -1099511627776 ≤ a1 ∧ 1099511627776 < a1) := by omega
    clear hgood
    rcases hbad with h1 | ⟨h1, h2⟩ | ⟨h1, h2, h3⟩ | ⟨h1, h2, h3, h4⟩
    all_goals
      go_enter Try.func7, Try.ntmps7
      go_wp2_with fail
      refine HL.out.mono ?_
      rintro e w1 ⟨rfl, hb1⟩
      have HB1 := Lib.hid hb1
      have HL1 := Lib.hid (lives4_any w1)
      clear hb1
      go_wp2_with fail
      refine HL1.out.mono ?_
      rintro e w2 ⟨rfl, hb2⟩
      have HB2 := Lib.hid (HB1.out.trans (hb2.mono HB1.out.size))
      clear hb2
      go_wp2_with fail
      go_ret
      exact ⟨rfl, HB2.out⟩
end Go.Proofs.Ytcnkhliplcbfkaa
