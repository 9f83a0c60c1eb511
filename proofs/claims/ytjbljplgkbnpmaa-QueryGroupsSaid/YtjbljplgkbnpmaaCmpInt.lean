/- cmp.Compare and cmp.Or of integers. -/
import Derived.Test.YtjbljplgkbnpmaaRowCmp
namespace Go.Proofs.Ytjbljplgkbnpmaa
open Go.ChangeShapes Go.WideShapes Go.Deep Go.RowKit
set_option linter.unusedVariables false

def cmp3 (x y : Int) : Int := if x < y then -1 else if y < x then 1 else 0

theorem nan_any (x : Int) (w : World) : Calls Try.prog 102 #[.int .i64 x] w fun e w' => e = .returned (.bool false) ∧ Below w.heap.size w w' := by
  have z : (x != x) = false := by simp
  go_enter Try.func102, Try.ntmps102
  go_wp2_with fail
  go_ret
  exact ⟨rfl, Below.refl _ _⟩
theorem cmp_any (x y : Int) (w : World) : Calls Try.prog 81 #[.int .i64 x, .int .i64 y] w fun e w' => e = .returned (.int .i64 (cmp3 x y)) ∧ Below w.heap.size w w' := by
  by_cases h : x < y
  · go_enter Try.func81, Try.ntmps81
    go_wp2_with fail
    refine (nan_any x w).mono ?_
    rintro e w2 ⟨rfl, hb2⟩
    go_wp2_with fail
    refine (nan_any y w2).mono ?_
    rintro e w3 ⟨rfl, hb3⟩
    have HB := Lib.hid (hb2.trans (hb3.mono hb2.size))
    clear hb2 hb3
    go_wp2_with fail
    go_ret
    exact ⟨by simp [cmp3, h], HB.out⟩
  · by_cases h2 : y < x
    · have H1 := Lib.hid h
      have H2 := Lib.hid h2
      go_enter Try.func81, Try.ntmps81
      go_wp2_with fail
      refine (nan_any x w).mono ?_
      rintro e w2 ⟨rfl, hb2⟩
      go_wp2_with fail
      refine (nan_any y w2).mono ?_
      rintro e w3 ⟨rfl, hb3⟩
      have HB := Lib.hid (hb2.trans (hb3.mono hb2.size))
      clear hb2 hb3
      go_wp2_with fail
      go_ret
      exact ⟨by simp [cmp3, h, h2], HB.out⟩
    · have H1 := Lib.hid h
      have H2 := Lib.hid h2
      go_enter Try.func81, Try.ntmps81
      go_wp2_with fail
      refine (nan_any x w).mono ?_
      rintro e w2 ⟨rfl, hb2⟩
      go_wp2_with fail
      refine (nan_any y w2).mono ?_
      rintro e w3 ⟨rfl, hb3⟩
      have HB := Lib.hid (hb2.trans (hb3.mono hb2.size))
      clear hb2 hb3
      go_wp2_with fail
      go_ret
      exact ⟨by unfold cmp3; rw [if_neg (by have := H1.out; omega), if_neg (by have := H2.out; omega)]; rfl, HB.out⟩
/-- the first that is not nought, of four -/
def or4 (v : Nat → Int) : Int := if v 0 ≠ 0 then v 0 else if v 1 ≠ 0 then v 1 else if v 2 ≠ 0 then v 2 else v 3
theorem or_any {w : World} {b : Nat} {v : Nat → Int} (h : ∀ k, k < 4 → w.cell? ⟨b, k, none⟩ = some (.int .i64 (v k))) :
    Calls Try.prog 80 #[.slice (some ⟨b, 0, none⟩) 4 4] w fun e w' => e = .returned (.int .i64 (or4 v)) ∧ Below w.heap.size w w' := by
  have HV := Lib.hid h
  clear h
  go_enter Try.func80, Try.ntmps80
  go_wp2_with fail
  go_loopw [2, 5, 8] (fun s2 s5 s8 wr => ∃ k : Nat, k ≤ 4 ∧ s2 = .int .i64 0 ∧ s8 = .int .i64 (k : Int) ∧ Hid (∀ i, i < k → v i = 0) ∧ Hid (Below w.heap.size w wr) ∧ Hid (∀ k, k < 4 → wr.cell? ⟨b, k, none⟩ = some (.int .i64 (v k)))) (fun _ _ s8 _ => 4 - (intOf s8).toNat)
  case atStart => exact ⟨0, by omega, rfl, rfl, Lib.hid (fun i h => by omega), Lib.hid (Below.refl _ _), HV⟩
  case round =>
    obtain ⟨k, hk, rfl, rfl, HZ, HB, HC⟩ := hrel
    rename World => wr
    by_cases hk4 : k < 4
    · have hk4i : (k : Int) < 4 := by omega
      have ck := HC.out k hk4
      obtain ⟨u, hu⟩ : ∃ u, u = v k := ⟨_, rfl⟩
      rw [← hu] at ck
      by_cases hz : u = 0
      · subst hz
        have HU := Lib.hid hu
        clear hu
        go_wp2_with fail
        go_roundw
        case rel => exact ⟨k + 1, by omega, rfl, by go_num, Lib.hid (fun i h => by
          by_cases e : i = k
          · rw [e]; exact HU.out.symm
          · exact HZ.out i (by omega)), HB, HC⟩
        case measure => simp [intOf]; omega
      · have hz2 : (u != 0) = true := by rw [bne_iff_ne]; exact hz
        have HU := Lib.hid hu
        have hz3 := Lib.hid hz
        clear hu hz
        go_wp2_with fail
        go_ret
        refine ⟨?_, HB.out⟩
        have h := HZ.out
        have hu := HU.out
        have hz := hz3.out
        have : or4 v = u := by
          unfold or4
          rcases (by omega : k = 0 ∨ k = 1 ∨ k = 2 ∨ k = 3) with rfl | rfl | rfl | rfl
          · rw [if_pos (by rw [← hu]; exact hz), hu]
          · rw [if_neg (by simp [h 0 (by omega)]), if_pos (by rw [← hu]; exact hz), hu]
          · rw [if_neg (by simp [h 0 (by omega)]), if_neg (by simp [h 1 (by omega)]), if_pos (by rw [← hu]; exact hz), hu]
          · rw [if_neg (by simp [h 0 (by omega)]), if_neg (by simp [h 1 (by omega)]), if_neg (by simp [h 2 (by omega)]), hu]
        rw [this]; rfl
    · obtain rfl : k = 4 := by omega
      go_wp2_with fail
      go_ret
      refine ⟨?_, HB.out⟩
      have h := HZ.out
      simp [or4, h 0 (by omega), h 1 (by omega), h 2 (by omega), h 3 (by omega)]
theorem or4_cmp (x y : RowV) : or4 (fun k => cmp3 (x.key.getD k 0) (y.key.getD k 0)) = cmpRow x y := by
  unfold or4 cmpRow RowV.key
  simp only [cmpL, cmp3, List.getD_cons_zero, List.getD_cons_succ]
  repeat' split
  all_goals first | rfl | omega
end Go.Proofs.Ytjbljplgkbnpmaa
