/- Is an edit little enough: walked. -/
import Derived.Test.YtmpcbfjcmnjlnaaGreatDoorCoAt
import Derived.Test.YtmpcbfjcmnjlnaaGreatDoorCo
namespace Go.Proofs.YtmpcbfjcmnjlnaaGreatDoor
open Go.RowKit
set_option linter.unusedVariables false

/-- an entry's nine cells -/
def EntP (x : List Value) : Prop := ∃ (k p : ByteArray) (a1 a3 a4 a5 a6 a7 a8 : Int), x = [.string k, .int .i64 a1, .string p, .int .i64 a3, .int .i64 a4, .int .i64 a5, .int .i64 a6, .int .u32 a7, .int .i64 a8]

set_option maxRecDepth 100000 in
set_option maxHeartbeats 2000000 in
theorem few18_any {w : World} {a0 a1 a2 : Option Addr} {n0 c0 n1 c1 n2 c2 : Nat} {l0 : List (List Value)} {ct fe ag li cn : Int} (h0 : CellsAt w a0 n0 c0 9 l0) (hp : ∀ x ∈ l0, EntP x) (hc1 : n1 ≤ 9223372036854775807) (hc2 : n2 ≤ 9223372036854775807) :
    Calls Tryz.prog 5 #[.agg #[.slice a0 n0 c0, .slice a1 n1 c1, .slice a2 n2 c2, .int .i64 ct, .int .i64 fe, .int .i64 ag, .int .i64 li, .int .i64 cn]] w fun e w' => (∃ b : Bool, e = .returned (.bool b) ∧ (b = true → n0 ≤ 30 ∧ n1 ≤ 30 ∧ n2 ≤ 70)) ∧ Below w.heap.size w w' := by
  obtain ⟨w1, hw1⟩ : ∃ w1, w1 = w.alloc (.cells #[.slice a0 n0 c0, .slice a1 n1 c1, .slice a2 n2 c2, .int .i64 ct, .int .i64 fe, .int .i64 ag, .int .i64 li, .int .i64 cn] 28) := ⟨_, rfl⟩
  have hb1 : Below w.heap.size w w1 := by rw [hw1]; exact (Below.refl _ _).alloc (Nat.le_refl _) _
  have HB1 := Lib.hid hb1
  have HH := Lib.hid h0
  have HP := Lib.hid hp
  have hcap := h0.cap
  have hcm := h0.capm
  have HL := Lib.hid h0.len
  rw [hw1] at HB1
  clear h0 hp hb1
  subst hw1
  by_cases g0 : 30 < n0
  · have g0i : (30 : Int) < (n0 : Int) := by omega
    clear g0
    go_enter Tryz.func5, Tryz.ntmps5
    go_wp2_with fail
    go_ret
    exact ⟨⟨false, rfl, fun h => by cases h⟩, HB1.out⟩
  · have g0i : (n0 : Int) ≤ 30 := by omega
    by_cases g1 : 30 < n1
    · have g1i : (30 : Int) < (n1 : Int) := by omega
      clear g0 g1
      go_enter Tryz.func5, Tryz.ntmps5
      go_wp2_with fail
      go_ret
      exact ⟨⟨false, rfl, fun h => by cases h⟩, HB1.out⟩
    · have g1i : (n1 : Int) ≤ 30 := by omega
      by_cases g2 : 70 < n2
      · have g2i : (70 : Int) < (n2 : Int) := by omega
        clear g0 g1 g2
        go_enter Tryz.func5, Tryz.ntmps5
        go_wp2_with fail
        go_ret
        exact ⟨⟨false, rfl, fun h => by cases h⟩, HB1.out⟩
      · have g2i : (n2 : Int) ≤ 70 := by omega
        have HN := Lib.hid (show n0 ≤ 30 ∧ n1 ≤ 30 ∧ n2 ≤ 70 by omega)
        clear g0 g1 g2
        go_enter Tryz.func5, Tryz.ntmps5
        go_wp2_with fail
        go_loopw [24] (fun s24 wr => ∃ k : Nat, k ≤ n0 ∧ s24 = .int .i64 (k : Int) ∧ Hid (Below w.heap.size w wr)) (fun s24 _ => n0 - (intOf s24).toNat)
        case atStart => exact ⟨0, by omega, rfl, HB1⟩
        case round =>
          obtain ⟨k, hk, rfl, HB⟩ := hrel
          rename World => wr
          by_cases hkn : k < n0
          · obtain ⟨b, off, rfl, hlt, hcell⟩ := (HH.out.kept HB.out).cells (by omega)
            obtain ⟨ky, pt, z1, z3, z4, z5, z6, z7, z8, hx⟩ := HP.out _ (getD_mem (l := l0) (i := k) (by have := HL.out; omega))
            have hc := hcell k hkn
            rw [hx] at hc
            have d0 := hc 0 _ rfl
            have d1 := hc 1 _ rfl
            have d2 := hc 2 _ rfl
            have d3 := hc 3 _ rfl
            have d4 := hc 4 _ rfl
            have d5 := hc 5 _ rfl
            have d6 := hc 6 _ rfl
            have d7 := hc 7 _ rfl
            have d8 := hc 8 _ rfl
            rw [Nat.add_zero] at d0
            have HB2 := Lib.hid (HB.out.alloc HB.out.size (.cells #[.string ky, .int .i64 z1, .string pt, .int .i64 z3, .int .i64 z4, .int .i64 z5, .int .i64 z6, .int .u32 z7, .int .i64 z8] 48))
            clear hc hcell hx
            by_cases k1 : (100 : Int) < (ky.size : Int)
            · go_wp2_with fail
              go_ret
              exact ⟨⟨false, rfl, fun h => by cases h⟩, HB2.out⟩
            · have k1i : (ky.size : Int) ≤ 100 := by omega
              clear k1
              by_cases k2 : (600 : Int) < (pt.size : Int)
              · go_wp2_with fail
                go_ret
                exact ⟨⟨false, rfl, fun h => by cases h⟩, HB2.out⟩
              · have k2i : (pt.size : Int) ≤ 600 := by omega
                clear k2
                go_wp2_with fail
                go_roundw
                case rel => exact ⟨k + 1, by omega, by go_num, HB2⟩
                case measure => simp [intOf]; omega
          · obtain rfl : k = n0 := by omega
            clear hkn
            go_wp2_with fail
            go_ret
            exact ⟨⟨true, rfl, fun _ => HN.out⟩, HB.out⟩
end Go.Proofs.YtmpcbfjcmnjlnaaGreatDoor
