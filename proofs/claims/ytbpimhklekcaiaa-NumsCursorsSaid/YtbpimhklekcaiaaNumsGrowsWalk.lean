/- The walks of NumsGrows and NumsApart: each returns true for all numbers of 64 bits. -/
import Derived.Test.YtbpimhklekcaiaaNumsPut
namespace Go.Proofs.Ytbpimhklekcaiaa
open Go.RowKit NumsPlain
set_option linter.unusedVariables false

theorem u64_of_wf {n : Int} (h : (Lit.int .u64 n).wf = true) : ∃ m : Nat, n = (m : Int) ∧ m < 18446744073709551616 := by
  have : 0 ≤ n ∧ n ≤ 18446744073709551615 := by simpa [Lit.wf, IntKind.min, IntKind.max, IntKind.signed, IntKind.bits] using h
  exact ⟨n.toNat, by omega, by omega⟩

set_option maxHeartbeats 1000000 in
theorem numsGrows_walk (a0 a1 : Int) (w : World) (w0 : (Lit.int .u64 a0).wf = true) (w1 : (Lit.int .u64 a1).wf = true) :
    Calls Try.prog 9 #[.int .u64 a0, .int .u64 a1] w fun e w' => e = .returned (.bool true) ∧ Below w.heap.size w w' := by
  obtain ⟨n, rfl, hn⟩ := u64_of_wf w0
  obtain ⟨m, rfl, hm⟩ := u64_of_wf w1
  clear w0 w1
  have H0 := Lib.hid hn
  have H1 := Lib.hid hm
  clear hn hm
  go_enter Try.func9, Try.ntmps9
  go_wp2_with fail
  rw [show (min (n : Int) (m : Int)) = ((min n m : Nat) : Int) from by omega]
  have H2 := Lib.hid (show min n m < 18446744073709551616 from by have := H0.out; omega)
  have H3 := Lib.hid (show max n m < 18446744073709551616 from by have := H0.out; have := H1.out; omega)
  refine (putu _ H2.out _).mono ?_
  rintro e w1 ⟨g1, c1, rfl, _, _, hb1⟩
  go_wp2_with fail
  rw [show (max (n : Int) (m : Int)) = ((max n m : Nat) : Int) from by omega]
  refine (putu _ H3.out _).mono ?_
  rintro e w2 ⟨g2, c2, rfl, _, _, hb2⟩
  have k1 := pu_pos (min n m)
  have k2 := pu_ten H3.out
  have k3 := pu_grows (m := min n m) H3.out (by omega)
  generalize (pu (min n m)).length = l1 at *
  generalize (pu (max n m)).length = l2 at *
  go_wp2
  go_ret
  exact ⟨by simp; omega, hb1.trans (hb2.mono hb1.size)⟩

set_option maxHeartbeats 1000000 in
theorem numsApart_walk (a0 a1 : Int) (w : World) (w0 : (Lit.int .u64 a0).wf = true) (w1 : (Lit.int .u64 a1).wf = true) :
    Calls Try.prog 6 #[.int .u64 a0, .int .u64 a1] w fun e w' => e = .returned (.bool true) ∧ Below w.heap.size w w' := by
  obtain ⟨n, rfl, hn⟩ := u64_of_wf w0
  obtain ⟨m, rfl, hm⟩ := u64_of_wf w1
  clear w0 w1
  have H0 := Lib.hid hn
  have H1 := Lib.hid hm
  clear hn hm
  have k1 := pu_pos n
  have k2 := pu_pos m
  have k3 := pu_ten H0.out
  have k4 := pu_ten H1.out
  go_enter Try.func6, Try.ntmps6
  go_wp2_with fail
  refine (putu _ H0.out _).mono ?_
  rintro e w1 ⟨g1, c1, rfl, _, hp1, hb1⟩
  go_wp2_with fail
  refine (putu _ H1.out _).mono ?_
  rintro e w2 ⟨g2, c2, rfl, _, hp2, hb2⟩
  have hp1' := hp1.kept hb2
  have hbb := hb1.trans (hb2.mono hb1.size)
  have z1 : (((pu n).length : Int) == 0) = false := by rw [beq_eq_false_iff_ne]; omega
  have z2 : (((pu m).length : Int) == 0) = false := by rw [beq_eq_false_iff_ne]; omega
  by_cases hnm : n = m
  · subst hnm
    clear hp1 hp2 hp1' hb1 hb2
    go_wp2_with fail
    go_ret
    exact ⟨rfl, hbb⟩
  · have e1 : ((n : Int) == (m : Int)) = false := by simp; omega
    by_cases hl : (pu m).length < (pu n).length
    · clear hp1 hp2 hp1' hb1 hb2
      go_wp2_with fail
      go_ret
      exact ⟨rfl, hbb⟩
    · have hcap := hp2.cap
      have hs := same_any hp1' (hp2.upto _ (show (pu n).length ≤ (pu m).length by omega))
      have hne : (pu n == (pu m).take (pu n).length) = false := by
        rw [beq_eq_false_iff_ne]
        intro h
        exact hnm (pu_inj H0.out H1.out ⟨(pu m).drop (pu n).length, by rw [← congrArg (· ++ (pu m).drop (pu n).length) h.symm]; simp⟩)
      rw [hne] at hs
      have HS := Lib.hid hs
      clear hs hne hp1 hp2 hp1' hb1 hb2
      go_wp2_with fail
      refine HS.out.mono ?_
      rintro e w' ⟨rfl, rfl⟩
      go_wp2_with fail
      go_ret
      exact ⟨rfl, hbb⟩
end Go.Proofs.Ytbpimhklekcaiaa
