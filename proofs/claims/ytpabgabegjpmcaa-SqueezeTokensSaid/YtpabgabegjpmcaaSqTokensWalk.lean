/- The walk of SqueezeTokens: it returns true for all bytes. -/
import Derived.Test.YtpabgabegjpmcaaSqLives
import Derived.Test.YtpabgabegjpmcaaSqRTok
import Derived.Laws.StructEq
namespace Go.Proofs.Ytpabgabegjpmcaa
open Go.RowKit
set_option linter.unusedVariables false

@[go_sem] theorem eq_tok (x1 x2 x3 y1 y2 y3 : Int) (w : World) : (Op.equalIn 10000 33 (.agg #[.int .i64 x1, .int .i64 x2, .int .u8 x3]) (.agg #[.int .i64 y1, .int .i64 y2, .int .u8 y3])).run Try.prog w = .ok (x1 == y1 && (x2 == y2 && x3 == y3)) w := by
  have us := Try.underlying3
  have ag := Try.isAgg3
  have zs := Try.sizeOf3
  have us8 := Try.underlying5
  have ag8 := Try.isAgg5
  have zs8 := Try.sizeOf5
  have hS : Try.prog.underlying 33 = some (.struct (Try.prog.fieldsOf 33)) := by kernel_rfl
  have hp : Try.prog.stoodInHeld 33 = false := by kernel_rfl
  rw [show (10000 : Nat) = 9999 + 1 from rfl, run_equalIn_agg w 9999 33 _ _ hS hp]
  simp only [Program.fieldsOf, Try.underlying33]
  go_simp
  cases h1 : (x1 == y1) <;> cases h2 : (x2 == y2) <;> cases h3 : (x3 == y3) <;> simp_all
@[go_sem] theorem guard_tok (x y : Operand) (xs ys : Array Value) (w : World) : (eqGuard .neq 33 x y (.agg xs) (.agg ys)).run Try.prog w = .ok () w := run_eqGuard_agg w .neq 33 x y xs ys (by kernel_rfl)
@[go_sem] theorem neq_tok (x1 x2 x3 y1 y2 y3 : Int) (w : World) : (binOp .neq 33 (.agg #[.int .i64 x1, .int .i64 x2, .int .u8 x3]) (.agg #[.int .i64 y1, .int .i64 y2, .int .u8 y3])).run Try.prog w = .ok (.bool (!(x1 == y1 && (x2 == y2 && x3 == y3)))) w := by
  rw [run_neq_struct, eq_tok]; rfl

set_option maxRecDepth 100000 in
set_option maxHeartbeats 4000000 in
theorem squeezeTokens_walk (a0 : Option Addr) (len0 cap0 : Nat) (z0 : List Int) (w : World) (w0 : IsRow .u8 1 w a0 len0 cap0 z0) :
    Calls Try.prog 3 #[.slice a0 len0 cap0] w fun e w' => e = .returned (.bool true) ∧ Below w.heap.size w w' := by
  obtain ⟨xs, hb⟩ := w0.bytes
  have hll := hb.len
  have HL := Lib.hid (lives7_any (w := w))
  have HH := Lib.hid hb
  clear w0 hb
  by_cases hbig : (600 : Int) < (len0 : Int)
  · go_enter Try.func3, Try.ntmps3
    go_wp2_with fail
    refine HL.out.mono ?_
    rintro e w1 ⟨rfl, hb1⟩
    have HB1 := Lib.hid hb1
    have HL1 := Lib.hid (lives7_any (w := w1))
    clear hb1
    go_wp2_with fail
    refine HL1.out.mono ?_
    rintro e w2 ⟨rfl, hb2⟩
    have HB2 := Lib.hid (HB1.out.trans (hb2.mono HB1.out.size))
    clear hb2
    go_wp2_with fail
    go_ret
    exact ⟨rfl, HB2.out⟩
  · have hbig3 : len0 ≤ 600 := by omega
    go_enter Try.func3, Try.ntmps3
    go_wp2_with fail
    refine HL.out.mono ?_
    rintro e w1 ⟨rfl, hb1⟩
    have HB1 := Lib.hid hb1
    have HH1 := Lib.hid (HH.out.kept hb1)
    clear hb1
    go_wp2_with fail
    refine (twin HH1.out).mono ?_
    rintro e w2 ⟨g2, k2, rfl, _, _, _, hy2, hb2⟩
    have HB2 := Lib.hid (HB1.out.trans (hb2.mono HB1.out.size))
    have HY2 := Lib.hid hy2
    have HH2 := Lib.hid (HH1.out.kept hb2)
    clear hy2 hb2
    have HTK := Lib.hid (tokens_any HY2.out (by omega))
    go_wp2_with fail
    refine HTK.out.mono ?_
    rintro e w3 ⟨v3, rfl, ho3, hb3⟩
    obtain ⟨a3, c3, rfl, ht3⟩ := TksAt.ofOwn ho3 rfl
    have HB3 := Lib.hid (HB2.out.trans (hb3.mono HB2.out.size))
    have HY3 := Lib.hid (HY2.out.kept hb3)
    have HH3 := Lib.hid (HH2.out.kept hb3)
    have HT3 := Lib.hid ht3
    clear ho3 hb3 ht3
    have HRK := Lib.hid (rtokens_any HH3.out (by omega))
    go_wp2_with fail
    refine HRK.out.mono ?_
    rintro e w4 ⟨v4, rfl, ho4, hb4⟩
    obtain ⟨a4, c4, rfl, ht4⟩ := TksAt.ofOwn ho4 rfl
    have HB4 := Lib.hid (HB3.out.trans (hb4.mono HB3.out.size))
    have HT4 := Lib.hid (HT3.out.kept hb4)
    have HR4 := Lib.hid ht4
    have hs1 := same_any (HY3.out.kept hb4) (HH3.out.kept hb4)
    rw [beq_self_eq_true] at hs1
    have HS1 := Lib.hid hs1
    clear ho4 hb4 ht4 hs1
    obtain ⟨m, hm⟩ : ∃ m, m = (toks xs).length := ⟨_, rfl⟩
    have hm6 : m ≤ 600 := by have := toks_le xs; omega
    rw [← hm] at HT4 HR4
    rw [← hm]
    have HM := Lib.hid hm
    clear hm
    have hcap3 := HT4.out.cap
    have hcm3 := HT4.out.capm
    have hcap4 := HR4.out.cap
    have hcm4 := HR4.out.capm
    go_wp2_with fail
    refine HS1.out.mono ?_
    rintro e w5 ⟨rfl, rfl⟩
    go_wp2_with fail
    go_loopw [42] (fun s42 wr => ∃ k : Nat, k ≤ m ∧ s42 = .int .i64 (k : Int) ∧ Hid (Below w4.heap.size w4 wr)) (fun s42 _ => m - (intOf s42).toNat)
    case atStart => exact ⟨0, by omega, rfl, Lib.hid (Below.refl _ _)⟩
    case round =>
      obtain ⟨k, hk, rfl, HB⟩ := hrel
      rename World => wr
      by_cases hkm : k < m
      · obtain ⟨b1, off, rfl, hlt, hcell⟩ := (HT4.out.kept HB.out).cells (by omega)
        obtain ⟨h1, h2, h3⟩ := hcell k hkm
        obtain ⟨b2, off2, rfl, hlt2, hcell2⟩ := (HR4.out.kept HB.out).cells (by omega)
        obtain ⟨g1, g2, g3⟩ := hcell2 k hkm
        obtain ⟨x1, hx1⟩ : ∃ x, x = ((toks xs).getD k t0).1 := ⟨_, rfl⟩
        obtain ⟨x2, hx2⟩ : ∃ x, x = ((toks xs).getD k t0).2.1 := ⟨_, rfl⟩
        obtain ⟨x3, hx3⟩ : ∃ x, x = ((toks xs).getD k t0).2.2 := ⟨_, rfl⟩
        rw [← hx1] at h1 g1
        rw [← hx2] at h2 g2
        rw [← hx3] at h3 g3
        clear hx1 hx2 hx3 hcell hcell2
        have hkmi : (k : Int) < (m : Int) := by omega
        have hk0 : (0 : Int) ≤ (k : Int) := by omega
        go_wp2_with fail
        go_region
        go_wp2_with fail
        go_roundw
        case rel => exact ⟨k + 1, by omega, by go_num, Lib.hid HB.out.drew⟩
        case measure => simp [intOf]; omega
      · obtain rfl : k = m := by omega
        clear hkm
        go_wp2_with fail
        go_ret
        exact ⟨rfl, HB4.out.trans (HB.out.mono HB4.out.size)⟩
end Go.Proofs.Ytpabgabegjpmcaa
