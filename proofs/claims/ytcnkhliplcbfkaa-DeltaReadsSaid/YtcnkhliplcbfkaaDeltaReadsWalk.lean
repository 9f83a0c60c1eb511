/- The walk of DeltaReads: it returns true for all bytes and ways. -/
import Derived.Test.YtcnkhliplcbfkaaDeltaRDec
namespace Go.Proofs.Ytcnkhliplcbfkaa
open Go.RowKit NumsPlain DeltaPlain
set_option linter.unusedVariables false

set_option maxRecDepth 100000 in
set_option maxHeartbeats 4000000 in
theorem deltaReads_walk (a0 : Option Addr) (len0 cap0 : Nat) (z0 : List Int) (a1 : Int) (w : World) (w0 : IsRow .u8 1 w a0 len0 cap0 z0) (w1 : (Lit.int .i64 a1).wf = true) :
    Calls Try.prog 4 #[.slice a0 len0 cap0, .int .i64 a1] w fun e w' => e = .returned (.bool true) ∧ Below w.heap.size w w' := by
  obtain ⟨xs, hb⟩ := w0.bytes
  have HL := Lib.hid (lives4_any w)
  have HH := Lib.hid hb
  clear w0 hb w1
  by_cases hbig : (9000 : Int) < (len0 : Int)
  · go_enter Try.func4, Try.ntmps4
    go_wp2_with fail
    refine HL.out.mono ?_
    rintro e w1 ⟨rfl, hb1⟩
    have HB1 := Lib.hid hb1
    have HL1 := Lib.hid (lives4_any w1)
    clear hb1
    go_wp2_with fail
    refine HL1.out.mono ?_
    rintro e w2 ⟨rfl, hb2⟩
    have HB2 := Lib.hid (HB1.out.trans (hb2.mono HB1.out.size))
    clear hb2
    go_wp2_with fail
    go_ret
    exact ⟨rfl, HB2.out⟩
  · have hbig2 : (len0 : Int) ≤ 9000 := by omega
    have hbig3 : len0 ≤ 100000 := by omega
    clear hbig
    go_enter Try.func4, Try.ntmps4
    go_wp2_with fail
    refine HL.out.mono ?_
    rintro e w1 ⟨rfl, hb1⟩
    have HB1 := Lib.hid hb1
    have HT := Lib.hid (twin (HH.out.kept hb1))
    clear hb1
    go_wp2_with fail
    refine HT.out.mono ?_
    rintro e w2 ⟨g2, k2, rfl, _, _, _, hy2, hb2⟩
    have HB2 := Lib.hid (HB1.out.trans (hb2.mono HB1.out.size))
    have HY2 := Lib.hid hy2
    have HD := Lib.hid (decode_any hy2 hbig3 a1)
    clear hy2 hb2
    go_wp2_with fail
    refine HD.out.mono ?_
    rintro e w3 ⟨a3, n3, c3, rfl, hi3, hb3⟩
    have HI3 := Lib.hid hi3
    have HY3 := Lib.hid (HY2.out.kept hb3)
    have HB3 := Lib.hid (HB2.out.trans (hb3.mono HB2.out.size))
    have HR := Lib.hid (rdecode_any (HH.out.kept HB3.out) hbig3 a1)
    clear hi3 hb3
    go_wp2_with fail
    refine HR.out.mono ?_
    rintro e w4 ⟨a4, n4, c4, rfl, hi4, hb4⟩
    have HS := Lib.hid (same64_any (HI3.out.kept hb4) hi4)
    rw [beq_self_eq_true] at HS
    have HY4 := Lib.hid (HY3.out.kept hb4)
    have HB4 := Lib.hid (HB3.out.trans (hb4.mono HB3.out.size))
    obtain ⟨q, hq⟩ : ∃ q : Int, q = (((dec xs a1).2 : Nat) : Int) := ⟨_, rfl⟩
    have heq : (q == q) = true := by simp
    rw [← hq]
    clear hi4 hb4 hq
    go_wp2_with fail
    refine HS.out.mono ?_
    rintro e w5 ⟨rfl, m, rfl⟩
    have HB5 := Lib.hid (show Below w.heap.size w (w4.drewN m) from HB4.out.trans ⟨rfl, rfl, rfl, Nat.le_refl _, fun _ _ => rfl⟩)
    have HS5 := Lib.hid (same_any (HY4.out.drewN m) (HH.out.kept HB5.out))
    rw [beq_self_eq_true] at HS5
    go_wp2_with fail
    refine HS5.out.mono ?_
    rintro e w6 ⟨rfl, rfl⟩
    go_wp2_with fail
    go_ret
    exact ⟨rfl, HB5.out⟩
end Go.Proofs.Ytcnkhliplcbfkaa
