/- The walk of NumsPuts: it returns true for all numbers of 64 bits. -/
import Derived.Test.YtbpimhklekcaiaaNumsTwin
import Derived.Test.YtbpimhklekcaiaaNumsGrowsWalk
namespace Go.Proofs.Ytbpimhklekcaiaa
open Go.RowKit NumsPlain
set_option linter.unusedVariables false

theorem i64_of_wf {n : Int} (h : (Lit.int .i64 n).wf = true) : -9223372036854775808 ≤ n ∧ n ≤ 9223372036854775807 := by
  simpa [Lit.wf, IntKind.min, IntKind.max, IntKind.signed, IntKind.bits] using h

set_option maxHeartbeats 1000000 in
theorem numsPuts_walk (a0 a1 : Int) (w : World) (w0 : (Lit.int .u64 a0).wf = true) (w1 : (Lit.int .i64 a1).wf = true) :
    Calls Try.prog 3 #[.int .u64 a0, .int .i64 a1] w fun e w' => e = .returned (.bool true) ∧ Below w.heap.size w w' := by
  obtain ⟨n, rfl, hn⟩ := u64_of_wf w0
  obtain ⟨hlo, hhi⟩ := i64_of_wf w1
  clear w0 w1
  have H0 := Lib.hid hn
  have H1 := Lib.hid hlo
  have H2 := Lib.hid hhi
  clear hn hlo hhi
  go_enter Try.func3, Try.ntmps3
  go_wp2_with fail
  refine (putu _ H0.out _).mono ?_
  rintro e w1 ⟨g1, c1, rfl, _, hp1, hb1⟩
  go_wp2_with fail
  refine (rputu _ H0.out _).mono ?_
  rintro e w2 ⟨g2, c2, rfl, _, hp2, hb2⟩
  have hs := same_any (hp1.kept hb2) hp2
  rw [beq_self_eq_true] at hs
  have hb := hb1.trans (hb2.mono hb1.size)
  have HS := Lib.hid hs
  clear hs hp1 hp2 hb1 hb2
  go_wp2_with fail
  refine HS.out.mono ?_
  rintro e w' ⟨rfl, rfl⟩
  go_wp2_with fail
  refine (zig_any _ H1.out H2.out _).mono ?_
  rintro e w' ⟨rfl, rfl⟩
  go_wp2_with fail
  refine (rzig_any _ H1.out H2.out _).mono ?_
  rintro e w' ⟨rfl, rfl⟩
  go_wp2_with fail
  refine (zag_any _ H0.out _).mono ?_
  rintro e w' ⟨rfl, rfl⟩
  go_wp2_with fail
  refine (rzag_any _ H0.out _).mono ?_
  rintro e w' ⟨rfl, rfl⟩
  go_wp2_with fail
  refine (puti _ H1.out H2.out _).mono ?_
  rintro e w3 ⟨g3, c3, rfl, _, hp3, hb3⟩
  go_wp2_with fail
  refine (rzig_any _ H1.out H2.out _).mono ?_
  rintro e w' ⟨rfl, rfl⟩
  go_wp2_with fail
  refine (rputu _ (zig_lt H1.out H2.out) _).mono ?_
  rintro e w4 ⟨g4, c4, rfl, _, hp4, hb4⟩
  have hs := same_any (hp3.kept hb4) hp4
  rw [beq_self_eq_true] at hs
  have hbb := hb.trans ((hb3.trans (hb4.mono hb3.size)).mono hb.size)
  have HS := Lib.hid hs
  clear hs hp3 hp4 hb3 hb4
  go_wp2_with fail
  refine HS.out.mono ?_
  rintro e w' ⟨rfl, rfl⟩
  go_wp2_with fail
  go_ret
  exact ⟨rfl, hbb⟩
end Go.Proofs.Ytbpimhklekcaiaa
