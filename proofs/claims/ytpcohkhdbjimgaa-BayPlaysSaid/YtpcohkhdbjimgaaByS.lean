/- sameKeyed of the same things; the calls on no bay at all. -/
import Derived.Test.YtpcohkhdbjimgaaByR4
namespace Go.Proofs.Ytpcohkhdbjimgaa
open Go.RowKit Go.Conc
set_option linter.unusedVariables false

set_option maxRecDepth 100000 in
set_option maxHeartbeats 4000000 in
theorem samekeyed_any {w : World} {a b : Option Addr} {n c c' : Nat} {l : List (ByteArray × Int)} (h : VecAt KdS w a n c l) (h' : VecAt KdS w b n c' l) (hn : n ≤ 10000) :
    Calls Try.prog 23 #[.slice a n c, .slice b n c'] w fun e w' => e = .returned (.bool true) ∧ Below w.heap.size w w' := by
  have HV := Lib.hid h
  have HV' := Lib.hid h'
  have hcp := h.cap
  have hcm := h.capm
  have hcp' := h'.cap
  have hcm' := h'.capm
  have HB0 := Lib.hid (Below.refl w.heap.size w)
  clear h h'
  go_enter Try.func23, Try.ntmps23
  go_wp2_with fail
  go_loopw [13] (fun s13 wr => ∃ (i : Nat), i ≤ n ∧ s13 = .int .i64 i ∧ Hid (Below w.heap.size w wr)) (fun s13 _ => n - (intOf s13).toNat)
  case atStart => exact ⟨0, by omega, rfl, HB0⟩
  case round =>
    clear HB0
    obtain ⟨i, hi, rfl, HB⟩ := hrel
    rename World => wr
    by_cases hin : i < n
    · obtain ⟨b1, o1, ha1, _, _, hc⟩ := (HV.out.kept HB.out).get hin
      obtain ⟨b2, o2, ha2, _, _, hc'⟩ := (HV'.out.kept HB.out).get hin
      obtain ⟨x, hx⟩ : ∃ x, x = l.getD i KdS.z := ⟨_, rfl⟩
      rw [← hx] at hc hc'
      obtain ⟨q, u⟩ := x
      have k0 : wr.cell? ⟨b1, o1 + i * 2, none⟩ = some (.string q) := hc 0 _ rfl
      have k1 : wr.cell? ⟨b1, o1 + i * 2 + 1, none⟩ = some (.int .i64 u) := hc 1 _ rfl
      have j0 : wr.cell? ⟨b2, o2 + i * 2, none⟩ = some (.string q) := hc' 0 _ rfl
      have j1 : wr.cell? ⟨b2, o2 + i * 2 + 1, none⟩ = some (.int .i64 u) := hc' 1 _ rfl
      have zi : (i : Int) < (n : Int) := by omega
      have zi0 : (0 : Int) ≤ (i : Int) := by omega
      have wi : IntKind.i64.wrap ((i : Int) + 1) = (i : Int) + 1 := IntWalk.i64_in _ (by omega)
      clear hc hc' hx
      subst ha1 ha2
      go_wp2_with fail
      go_quiet (fail)
      rename Nat => nq
      have HB2 := Lib.hid (below_drewN HB.out nq)
      clear k0 k1 j0 j1
      go_wp2_with fail
      go_roundw
      case rel => exact ⟨i + 1, by omega, by push_cast; rfl, HB2⟩
      case measure => simp only [intOf]; omega
    · have e : i = n := by omega
      go_wp2_with fail
      first | go_ret2 | go_ret
      exact ⟨rfl, HB.out⟩
set_option maxRecDepth 100000 in
theorem nput_none (w : World) : Calls Try.prog 19 #[.pointer none, .slice none 0 0] w fun e w' => e = .returned (.bool true) ∧ Below w.heap.size w w' := by
  have hf : Calls Try.prog 29 #[.pointer none, .slice none 0 0] w fun e w' => e = .returned (.bool true) ∧ w' = w := by
    go_enter Try.func29, Try.ntmps29
    go_wp2_with fail
    first | go_ret2 | go_ret
    exact ⟨rfl, rfl⟩
  have HF := Lib.hid hf
  clear hf
  go_enter Try.func19, Try.ntmps19
  go_wp2_with fail
  refine HF.out.mono ?_
  rintro e w1 ⟨rfl, rfl⟩
  have HB0 := Lib.hid (Below.refl w1.heap.size w1)
  go_wp2_with fail
  go_loopw [13] (fun s13 wr => s13 = .int .i64 0 ∧ Hid (Below w1.heap.size w1 wr)) (fun _ _ => 0)
  case atStart => exact ⟨rfl, HB0⟩
  case round =>
    clear HB0
    obtain ⟨rfl, HB⟩ := hrel
    go_wp2_with fail
    first | go_ret2 | go_ret
    exact ⟨rfl, HB.out⟩
set_option maxRecDepth 100000 in
theorem nput_one (w : World) (a : Option Addr) (c : Nat) : Calls Try.prog 19 #[.pointer none, .slice a 1 c] w fun e w' => e = .returned (.bool false) ∧ Below w.heap.size w w' := by
  have hf : Calls Try.prog 29 #[.pointer none, .slice a 1 c] w fun e w' => e = .returned (.bool false) ∧ w' = w := by
    go_enter Try.func29, Try.ntmps29
    go_wp2_with fail
    first | go_ret2 | go_ret
    exact ⟨rfl, rfl⟩
  have HF := Lib.hid hf
  clear hf
  go_enter Try.func19, Try.ntmps19
  go_wp2_with fail
  refine HF.out.mono ?_
  rintro e w1 ⟨rfl, rfl⟩
  go_wp2_with fail
  first | go_ret2 | go_ret
  exact ⟨rfl, Below.refl _ _⟩
theorem nlen_any (w : World) : Calls Try.prog 20 #[.pointer none] w fun e w' => e = .returned (.int .i64 0) ∧ Below w.heap.size w w' := by
  go_enter Try.func20, Try.ntmps20
  go_wp2_with fail
  first | go_ret2 | go_ret
  exact ⟨rfl, Below.refl _ _⟩
theorem nmost_any (w : World) : Calls Try.prog 21 #[.pointer none] w fun e w' => e = .returned (.int .i64 0) ∧ Below w.heap.size w w' := by
  go_enter Try.func21, Try.ntmps21
  go_wp2_with fail
  first | go_ret2 | go_ret
  exact ⟨rfl, Below.refl _ _⟩
theorem ndrain_any (w : World) : Calls Try.prog 22 #[.pointer none] w fun e w' => e = .returned (.slice none 0 0) ∧ Below w.heap.size w w' := by
  go_enter Try.func22, Try.ntmps22
  go_wp2_with fail
  first | go_ret2 | go_ret
  exact ⟨rfl, Below.refl _ _⟩
end Go.Proofs.Ytpcohkhdbjimgaa
