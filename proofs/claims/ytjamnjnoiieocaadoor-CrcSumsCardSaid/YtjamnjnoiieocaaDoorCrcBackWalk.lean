/- The walk of CrcBack, given what the table holds: it returns true for all bytes. -/
import Derived.Test.YtjamnjnoiieocaaDoorCrcOpen
import Derived.Lib.SlBytesConst
namespace Go.Proofs.YtjamnjnoiieocaaDoor
open Go.RowKit CrcPlain
set_option linter.unusedVariables false

theorem crc_nine : crcN [49, 50, 51, 52, 53, 54, 55, 56, 57] = 3421780262 := by decide +kernel

set_option maxRecDepth 100000 in
set_option maxHeartbeats 2000000 in
theorem lives_any {w : World} (hT : Table w) :
    Calls Tryd.prog 7 #[] w fun e w' => e = .returned (.bool true) ∧ Below w.heap.size w w' := by
  have hlit : BytesAt (w.alloc (.cells #[.int .u8 49, .int .u8 50, .int .u8 51, .int .u8 52, .int .u8 53, .int .u8 54, .int .u8 55, .int .u8 56, .int .u8 57] 5 (9, 10))) (some ⟨w.heap.size, 0, none⟩) 9 9 [49, 50, 51, 52, 53, 54, 55, 56, 57] := by
    refine ⟨rfl, Nat.le_refl _, by decide, by omega, by omega, (fun e => by cases e), fun _ => ⟨w.heap.size, 0, rfl, by simp, fun i hi => ?_⟩⟩
    rw [Nat.zero_add, cell_of_row _ w.heap.size i _ _ (9, 10) (heap_alloc_new w _)]
    have h9 : i = 0 ∨ i = 1 ∨ i = 2 ∨ i = 3 ∨ i = 4 ∨ i = 5 ∨ i = 6 ∨ i = 7 ∨ i = 8 := by omega
    rcases h9 with rfl | rfl | rfl | rfl | rfl | rfl | rfl | rfl | rfl <;> rfl
  obtain ⟨w1, hw1⟩ : ∃ w1, w1 = (w.alloc (.cells #[.int .u8 49, .int .u8 50, .int .u8 51, .int .u8 52, .int .u8 53, .int .u8 54, .int .u8 55, .int .u8 56, .int .u8 57] 5 (9, 10))) := ⟨_, rfl⟩
  rw [← hw1] at hlit
  have hb1 : Below w.heap.size w w1 := by rw [hw1]; exact (Below.refl _ _).alloc (Nat.le_refl _) _
  have hsz : w1.heap.size = w.heap.size + 1 := by rw [hw1]; simp
  obtain ⟨w2, hw2⟩ : ∃ w2, w2 = w1.alloc (.cells #[.slice (some ⟨w.heap.size, 0, none⟩) 9 9] 24) := ⟨_, rfl⟩
  have hb2 : Below w1.heap.size w1 w2 := by rw [hw2]; exact (Below.refl _ _).alloc (Nat.le_refl _) _
  have hpt : Parts w2 (some ⟨w1.heap.size, 0, none⟩) 1 1 (fun _ => [49, 50, 51, 52, 53, 54, 55, 56, 57]) := ⟨Nat.le_refl _, by omega, fun _ => ⟨w1.heap.size, 0, rfl, by rw [hw2]; simp, fun i hi => ⟨some ⟨w.heap.size, 0, none⟩, 9, 9, by
    obtain rfl : i = 0 := by omega
    rw [hw2]; simp, hlit.kept hb2⟩⟩⟩
  have hbw := hb1.trans (hb2.mono hb1.size)
  have hsum := sum_any (hT.below hbw) hpt (fun k hk x hx => by
    simp only [flat, List.mem_flatMap] at hx
    obtain ⟨_, _, hx⟩ := hx
    revert x
    decide)
  rw [show flat (fun _ => [49, 50, 51, 52, 53, 54, 55, 56, 57]) 1 = [49, 50, 51, 52, 53, 54, 55, 56, 57] from rfl, crc_nine, hsz] at hsum
  have HSUM := Lib.hid hsum
  have HBW := Lib.hid hbw
  have HE := Lib.hid (show (w.alloc (.cells #[.int .u8 49, .int .u8 50, .int .u8 51, .int .u8 52, .int .u8 53, .int .u8 54, .int .u8 55, .int .u8 56, .int .u8 57] 5 (9, 10))).alloc (.cells #[.slice (some ⟨w.heap.size, 0, none⟩) 9 9] 24) = w2 by rw [hw2, hw1])
  clear hlit hw1 hb1 hsz hw2 hb2 hpt hbw hsum hT
  have hcv : (convert 24 24 (.slice (some ⟨w.heap.size, 0, none⟩) 9 9)).run Tryd.prog (w.alloc (.cells #[.int .u8 49, .int .u8 50, .int .u8 51, .int .u8 52, .int .u8 53, .int .u8 54, .int .u8 55, .int .u8 56, .int .u8 57] 5)) = .ok (.slice (some ⟨w.heap.size, 0, none⟩) 9 9) (w.alloc (.cells #[.int .u8 49, .int .u8 50, .int .u8 51, .int .u8 52, .int .u8 53, .int .u8 54, .int .u8 55, .int .u8 56, .int .u8 57] 5 (9, 10))) := Lib.run_convert_bytes_const w _ _ _ 9 9 Tryd.underlying24 Tryd.underlying5
  go_enter Tryd.func7, Tryd.ntmps7
  go_wp2_with fail
  rw [HE.out]
  refine HSUM.out.mono ?_
  rintro e w3 ⟨rfl, hb3⟩
  have HB3 := Lib.hid (HBW.out.trans (hb3.mono HBW.out.size))
  clear hb3
  go_wp2_with fail
  go_ret
  exact ⟨rfl, HB3.out⟩

set_option maxRecDepth 100000 in
set_option maxHeartbeats 2000000 in
theorem crcBack_walk (a0 : Option Addr) (len0 cap0 : Nat) (z0 : List Int) (w : World) (hT : Table w) (w0 : IsRow .u8 1 w a0 len0 cap0 z0) :
    Calls Tryd.prog 5 #[.slice a0 len0 cap0] w fun e w' => e = .returned (.bool true) ∧ Below w.heap.size w w' := by
  obtain ⟨xs, hb⟩ := w0.bytes
  have HL := Lib.hid (lives_any hT)
  have HH := Lib.hid hb
  have HT := Lib.hid hT
  clear w0 hb hT
  by_cases hbig : (4096 : Int) < (len0 : Int)
  · go_enter Tryd.func5, Tryd.ntmps5
    go_wp2_with fail
    refine HL.out.mono ?_
    rintro e w1 ⟨rfl, hb1⟩
    have HB1 := Lib.hid hb1
    have HL1 := Lib.hid (lives_any (HT.out.below hb1))
    clear hb1
    go_wp2_with fail
    refine HL1.out.mono ?_
    rintro e w2 ⟨rfl, hb2⟩
    have HB2 := Lib.hid (HB1.out.trans (hb2.mono HB1.out.size))
    clear hb2
    go_wp2_with fail
    go_ret
    exact ⟨rfl, HB2.out⟩
  · have hbig2 : (len0 : Int) ≤ 4096 := by omega
    clear hbig
    go_enter Tryd.func5, Tryd.ntmps5
    go_wp2_with fail
    refine HL.out.mono ?_
    rintro e w1 ⟨rfl, hb1⟩
    have HB1 := Lib.hid hb1
    have HS := Lib.hid (seal_any (HT.out.below hb1) (HH.out.kept hb1) (by omega))
    clear hb1
    go_wp2_with fail
    refine HS.out.mono ?_
    rintro e w2 ⟨a2, c2, rfl, hb2, hbel2, _⟩
    have HB2 := Lib.hid (HB1.out.trans (hbel2.mono HB1.out.size))
    have HO := Lib.hid (open_any (HT.out.below HB2.out) hb2 (by omega))
    clear hb2 hbel2
    rw [op_sealed] at HO
    go_wp2_with fail
    refine HO.out.mono ?_
    rintro e w3 ⟨a3, m3, c3, rfl, hb3, hbel3, _⟩
    have HB3 := Lib.hid (HB2.out.trans (hbel3.mono HB2.out.size))
    have HS3 := Lib.hid (same_any hb3 (HH.out.kept HB3.out))
    clear hb3 hbel3
    rw [beq_self_eq_true] at HS3
    go_wp2_with fail
    refine HS3.out.mono ?_
    rintro e w4 ⟨rfl, rfl⟩
    go_wp2_with fail
    go_ret
    exact ⟨rfl, HB3.out⟩
end Go.Proofs.YtjamnjnoiieocaaDoor
