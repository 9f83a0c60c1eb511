/- Layer 9's fixed fact, walked. -/
import Derived.Test.YtjbljplgkbnpmaaRecRows
namespace Go.Proofs.Ytjbljplgkbnpmaa
open Go.RowKit LabPlain RecPlain
set_option linter.unusedVariables false

def liveR : RecV := ⟨1, 5, none, 0, 0, [], { data := #[120] }, 0, false⟩
theorem live_check : checkOf 1 2 [liveR] = 0 := by decide +kernel

set_option maxRecDepth 100000 in
set_option maxHeartbeats 2000000 in
theorem lives9_any (w : World) :
    Calls Try.prog 32 #[] w fun e w' => e = .returned (.bool true) ∧ Below w.heap.size w w' := by
  obtain ⟨w1, hw1⟩ : ∃ w1, w1 = w.alloc (.cells #[.int .i64 1, .int .i64 5, .slice none 0 0, .string { data := #[120] }, .int .i64 0, .bool false] 54) := ⟨_, rfl⟩
  obtain ⟨w2, hw2⟩ : ∃ w2, w2 = w1.alloc (.cells #[.int .i64 1, .int .i64 2, .slice (some ⟨w.heap.size, 0, none⟩) 1 1] 52) := ⟨_, rfl⟩
  have s1 : w1.heap.size = w.heap.size + 1 := by rw [hw1]; exact Array.size_push _
  have s2 : w2.heap.size = w.heap.size + 2 := by rw [hw2]; exact (Array.size_push _).trans (by rw [s1])
  have hb1 : Below w.heap.size w w1 := by rw [hw1]; exact (Below.refl _ _).alloc (Nat.le_refl _) _
  have hb12 : Below w1.heap.size w1 w2 := by rw [hw2]; exact (Below.refl _ _).alloc (Nat.le_refl _) _
  have hb2 : Below w.heap.size w w2 := hb1.trans (hb12.mono hb1.size)
  have g0 : w2.heap[w.heap.size]? = some (.cells #[.int .i64 1, .int .i64 5, .slice none 0 0, .string { data := #[120] }, .int .i64 0, .bool false] 54 (0, 0)) := by
    rw [hb12.block _ (by omega), hw1]; exact heap_alloc_new w _
  have g1 : w2.heap[w.heap.size + 1]? = some (.cells #[.int .i64 1, .int .i64 2, .slice (some ⟨w.heap.size, 0, none⟩) 1 1] 52 (0, 0)) := by
    rw [← s1, hw2]; exact heap_alloc_new w1 _
  have hr : RecsAt w2 (some ⟨w.heap.size, 0, none⟩) 1 1 [liveR] := by
    refine ⟨rfl, Nat.le_refl _, by omega, (fun e => by cases e), (fun x hx => ?_), (fun x hx => ?_), fun _ => ⟨w.heap.size, 0, rfl, by omega, fun i hi j u hu => ?_⟩⟩
    · obtain rfl : x = liveR := by simpa using hx
      exact ⟨by decide, by decide, by decide, by decide, by decide⟩
    · obtain rfl : x = liveR := by simpa using hx
      exact LabsAt.empty _ _ _ (by decide) (fun _ => rfl)
    · obtain rfl : i = 0 := by omega
      rw [Nat.zero_mul, Nat.add_zero, Nat.zero_add, cell_of_row w2 _ _ _ _ (0, 0) g0]
      have : (liveR.cells)[j]? = some u := hu
      rw [← this, RecV.cells, List.getElem?_toArray]
      rfl
  have HRW := Lib.hid (recrows_any (mk := 1) (sq := 2) (by decide) (by decide) hr (by decide))
  have HCK := Lib.hid (fun (w3 : World) (h3 : Below w2.heap.size w2 w3) => check_any (mk := 1) (sq := 2) (hr.kept h3))
  have HB2 := Lib.hid hb2
  have HG := Lib.hid (fun (w3 : World) (h3 : Below w2.heap.size w2 w3) => (h3.block (w.heap.size + 1) (by omega)).trans g1)
  rw [live_check] at HCK
  rw [hw2, hw1] at HRW HCK HB2 HG
  have HRW := Lib.hid HRW.out
  have HCK := Lib.hid HCK.out
  have HG := Lib.hid HG.out
  clear hr hb1 hb2 hb12 g0 g1 s1 s2
  subst hw1
  subst hw2
  go_enter Try.func32, Try.ntmps32
  go_wp2_with fail
  refine HRW.out.mono ?_
  rintro e w3 ⟨v, rs, rfl, hown, hsay, hb3⟩
  have g1 := HG.out w3 hb3
  have b0 := cell_of_row w3 _ 0 _ _ (0, 0) g1
  have b1 := cell_of_row w3 _ 1 _ _ (0, 0) g1
  have b2 := cell_of_row w3 _ 2 _ _ (0, 0) g1
  have HCK3 := Lib.hid (HCK.out w3 hb3)
  have HB3 := Lib.hid (HB2.out.trans (hb3.mono HB2.out.size))
  obtain ⟨a, c, rfl, hat⟩ := hown.at
  obtain ⟨x, hx⟩ : ∃ x, x = rs.getD 0 row0 := ⟨_, rfl⟩
  have hsx := hsay 0 (by omega)
  rw [← hx] at hsx
  have HX := Lib.hid hx
  have HAT := Lib.hid hat
  obtain ⟨x7, x3⟩ : x.sq = 2 ∧ x.r.text = { data := #[120] } := by
    simp only [RowV.says, sayOf, Prod.mk.injEq] at hsx
    exact ⟨hsx.2.2.2.2.2.2.2.1, hsx.2.2.2.1⟩
  have hcap := hat.cap
  clear hown hsay hb3 hx hsx hat g1
  have X7 := Lib.hid x7
  have X3 := Lib.hid x3
  clear x7 x3
  go_wp2_with fail
  refine HCK3.out.mono ?_
  rintro e w4 ⟨rfl, hb4⟩
  obtain ⟨b, off, rfl, hlt, hcell⟩ := (HAT.out.kept hb4).cells (by omega)
  obtain ⟨_, _, _, d3, _, _, _, d7, _⟩ := RowsAt.nine hcell (show 0 < 1 by omega) HX.out
  rw [X7.out] at d7
  rw [X3.out] at d3
  rw [Nat.zero_mul, Nat.add_zero] at d3 d7
  have HB4 := Lib.hid (HB3.out.trans (hb4.mono HB3.out.size))
  clear hb4 hcell
  go_wp2_with fail
  go_ret
  exact ⟨rfl, HB4.out⟩
end Go.Proofs.Ytjbljplgkbnpmaa
