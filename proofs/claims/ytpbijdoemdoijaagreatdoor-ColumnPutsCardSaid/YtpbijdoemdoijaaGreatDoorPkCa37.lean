/- Texts put together by packtpl2.py: ColSm. -/
import Derived.Test.YtpbijdoemdoijaaGreatDoorPkCa10
import Derived.Test.YtpbijdoemdoijaaGreatDoorPkCa12
import Derived.Laws.Cover1
section PkCa37_0
/- Texts and flags held against the same. (Written by gencolerr.py.) -/
namespace Go.Proofs.YtpbijdoemdoijaaGreatDoor
open Go.RowKit BitsPlain NumsPlain
set_option linter.unusedVariables false

set_option maxRecDepth 100000 in
set_option maxHeartbeats 2000000 in
theorem csametexts_any {w : World} {a b : Option Addr} {n c d : Nat} {l : List ByteArray} (h1 : VecAt StrS w a n c l) (h2 : VecAt StrS w b n d l) :
    Calls Tryz.prog 16 #[.slice a n c, .slice b n d] w fun e w' => e = .returned (.bool true) ∧ Below w.heap.size w w' := by
  have hn := h1.cap
  have hn2 := h1.capm
  have H1 := Lib.hid h1
  have H2 := Lib.hid h2
  clear h1 h2
  go_enter Tryz.func16, Tryz.ntmps16
  go_wp2_with fail
  go_loopw [5, 13] (fun s5 s13 wr => ∃ k : Nat, k ≤ n ∧ s13 = .int .i64 (k : Int) ∧ Hid (Below w.heap.size w wr)) (fun _ s13 _ => n - (intOf s13).toNat)
  case atStart => exact ⟨0, by omega, rfl, Lib.hid (Below.refl _ _)⟩
  case round =>
    obtain ⟨k, hkn, rfl, HB⟩ := hrel
    rename World => wr
    by_cases hlt : k < n
    · have hlti : (k : Int) < (n : Int) := by omega
      obtain ⟨x, hx⟩ : ∃ x, x = l.getD k ByteArray.empty := ⟨_, rfl⟩
      obtain ⟨ba, oa, rfl, hba, _, hca⟩ := (H1.out.kept HB.out).get hlt
      have ca : wr.cell? ⟨ba, oa + k, none⟩ = some (.string x) := by
        have h1 := hca 0 (.string x) (by rw [hx]; rfl)
        have e : oa + k * StrS.K + 0 = oa + k := by show oa + k * 1 + 0 = _; omega
        rw [e] at h1; exact h1
      clear hca hba
      obtain ⟨bb, ob, rfl, hbb, _, hcb⟩ := (H2.out.kept HB.out).get hlt
      have cb : wr.cell? ⟨bb, ob + k, none⟩ = some (.string x) := by
        have h1 := hcb 0 (.string x) (by rw [hx]; rfl)
        have e : ob + k * StrS.K + 0 = ob + k := by show ob + k * 1 + 0 = _; omega
        rw [e] at h1; exact h1
      clear hcb hbb
      have z : (x.toList == x.toList) = true := by simp
      have HB5 := Lib.hid HB.out.drew
      clear hx
      go_wp2_with fail
      go_region
      go_wp2_with fail
      go_roundw
      case rel => exact ⟨k + 1, by omega, by go_num, HB5⟩
      case measure => simp [intOf]; omega
    · obtain rfl : k = n := by omega
      go_wp2_with fail
      go_ret
      exact ⟨rfl, HB.out⟩

set_option maxRecDepth 100000 in
set_option maxHeartbeats 2000000 in
theorem csameflags_any {w : World} {a b : Option Addr} {n c d : Nat} {l : List Bool} (h1 : FlAt w a n c l) (h2 : FlAt w b n d l) :
    Calls Tryz.prog 32 #[.slice a n c, .slice b n d] w fun e w' => e = .returned (.bool true) ∧ Below w.heap.size w w' := by
  have hn := h1.cap
  have hn2 := h1.capm
  have H1 := Lib.hid h1
  have H2 := Lib.hid h2
  clear h1 h2
  go_enter Tryz.func32, Tryz.ntmps32
  go_wp2_with fail
  go_loopw [5, 13] (fun s5 s13 wr => ∃ k : Nat, k ≤ n ∧ s13 = .int .i64 (k : Int) ∧ Hid (Below w.heap.size w wr)) (fun _ s13 _ => n - (intOf s13).toNat)
  case atStart => exact ⟨0, by omega, rfl, Lib.hid (Below.refl _ _)⟩
  case round =>
    obtain ⟨k, hkn, rfl, HB⟩ := hrel
    rename World => wr
    by_cases hlt : k < n
    · have hlti : (k : Int) < (n : Int) := by omega
      obtain ⟨x, hx⟩ : ∃ x, x = l.getD k false := ⟨_, rfl⟩
      obtain ⟨ba, oa, rfl, hba, hca⟩ := (H1.out.kept HB.out).cells (by omega)
      have ca : wr.cell? ⟨ba, oa + k, none⟩ = some (.bool x) := by rw [hca k hlt, hx]
      clear hca hba
      obtain ⟨bb, ob, rfl, hbb, hcb⟩ := (H2.out.kept HB.out).cells (by omega)
      have cb : wr.cell? ⟨bb, ob + k, none⟩ = some (.bool x) := by rw [hcb k hlt, hx]
      clear hcb hbb
      have z : (x == x) = true := by simp
      have HB5 := Lib.hid HB.out.drew
      clear hx
      go_wp2_with fail
      go_region
      go_wp2_with fail
      go_roundw
      case rel => exact ⟨k + 1, by omega, by go_num, HB5⟩
      case measure => simp [intOf]; omega
    · obtain rfl : k = n := by omega
      go_wp2_with fail
      go_ret
      exact ⟨rfl, HB.out⟩

end Go.Proofs.YtpbijdoemdoijaaGreatDoor
end PkCa37_0
