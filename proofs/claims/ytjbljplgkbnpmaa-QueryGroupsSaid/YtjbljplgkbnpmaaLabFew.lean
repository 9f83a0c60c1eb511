/- Layer 8's fixed fact; are labels few and short enough: walked. -/
import Derived.Test.YtjbljplgkbnpmaaLabText
namespace Go.Proofs.Ytjbljplgkbnpmaa
open Go.RowKit LabPlain
set_option linter.unusedVariables false

def livesL : List Lab := [({ data := #[97] }, { data := #[120] }), ({ data := #[98] }, { data := #[] })]
theorem lives_set : isSet livesL = true := by decide +kernel
theorem lives_text : textOf livesL = { data := #[123, 97, 61, 34, 120, 34, 44, 98, 61, 34, 34, 125] } := by decide +kernel

set_option maxRecDepth 100000 in
set_option maxHeartbeats 1000000 in
theorem lives8_any (w : World) :
    Calls Try.prog 15 #[] w fun e w' => e = .returned (.bool true) ∧ Below w.heap.size w w' := by
  obtain ⟨w1, hw1⟩ : ∃ w1, w1 = w.alloc (.cells #[.string { data := #[97] }, .string { data := #[120] }, .string { data := #[98] }, .string { data := #[] }] 41) := ⟨_, rfl⟩
  have hb1 : Below w.heap.size w w1 := by rw [hw1]; exact (Below.refl _ _).alloc (Nat.le_refl _) _
  have hblk : w1.heap[w.heap.size]? = some (.cells #[.string { data := #[97] }, .string { data := #[120] }, .string { data := #[98] }, .string { data := #[] }] 41 (0, 0)) := by rw [hw1]; exact heap_alloc_new w _
  have hl : LabsAt w1 (some ⟨w.heap.size, 0, none⟩) 2 2 livesL := by
    refine ⟨rfl, Nat.le_refl _, by omega, (fun e => by cases e), by decide, fun _ => ⟨w.heap.size, 0, rfl, (Array.getElem?_eq_some_iff.1 hblk).1, fun i hi => ?_⟩⟩
    have h2 : i = 0 ∨ i = 1 := by omega
    rcases h2 with rfl | rfl
    · exact ⟨by rw [cell_of_row w1 _ _ _ _ (0, 0) hblk]; rfl, by rw [cell_of_row w1 _ _ _ _ (0, 0) hblk]; rfl⟩
    · exact ⟨by rw [cell_of_row w1 _ _ _ _ (0, 0) hblk]; rfl, by rw [cell_of_row w1 _ _ _ _ (0, 0) hblk]; rfl⟩
  have ht := text_yes hl lives_set
  rw [lives_text, hw1] at ht
  have HT := Lib.hid ht
  have HB1 := Lib.hid hb1
  have HW1 := Lib.hid hw1
  clear hw1 hb1 hblk hl ht
  go_enter Try.func15, Try.ntmps15
  go_wp2_with fail
  refine HT.out.mono ?_
  rintro e w2 ⟨rfl, hb2⟩
  rw [← HW1.out] at hb2
  have HB2 := Lib.hid (HB1.out.trans (hb2.mono HB1.out.size))
  clear hb2
  go_wp2_with fail
  go_ret
  exact ⟨rfl, HB2.out⟩

/-- are the first k short? -/
def shortTo (l : List Lab) : Nat → Bool
  | 0 => true
  | k + 1 => shortTo l k && decide ((l.getD k lab0).1.size + (l.getD k lab0).2.size ≤ 200)
def fewB (l : List Lab) : Bool := decide (l.length ≤ 30) && shortTo l l.length
theorem shortTo_no {l : List Lab} {k : Nat} (h : 200 < (l.getD k lab0).1.size + (l.getD k lab0).2.size) : ∀ d, shortTo l (k + 1 + d) = false
  | 0 => by rw [shortTo, decide_eq_false (by omega), Bool.and_false]
  | d + 1 => by rw [← Nat.add_assoc, shortTo, shortTo_no h d]; rfl

set_option maxRecDepth 100000 in
set_option maxHeartbeats 1000000 in
theorem few_any {w : World} {a : Option Addr} {n c : Nat} {l : List Lab} (h : LabsAt w a n c l) :
    Calls Try.prog 16 #[.slice a n c] w fun e w' => e = .returned (.bool (fewB l)) ∧ Below w.heap.size w w' := by
  have hlen := h.len
  have hcap := h.cap
  have hcm := h.capm
  have HH := Lib.hid h
  have HL := Lib.hid hlen
  clear h hlen
  by_cases h30 : 30 < n
  · have HR := Lib.hid (show fewB l = false by unfold fewB; rw [decide_eq_false (by rw [HL.out]; omega)]; rfl)
    have h4i : (30 : Int) < (n : Int) := by omega
    clear h30
    go_enter Try.func16, Try.ntmps16
    go_wp2_with fail
    go_ret
    rw [HR.out]; exact ⟨rfl, Below.refl _ _⟩
  · have h4i : (n : Int) ≤ 30 := by omega
    have HR := Lib.hid (show fewB l = shortTo l n by unfold fewB; rw [decide_eq_true (by rw [HL.out]; omega), HL.out]; rfl)
    clear h30
    go_enter Try.func16, Try.ntmps16
    go_wp2_with fail
    go_loopw [10] (fun s10 wr => ∃ k : Nat, k ≤ n ∧ s10 = .int .i64 (k : Int) ∧ Hid (shortTo l k = true) ∧ Hid (Below w.heap.size w wr)) (fun s10 _ => n - (intOf s10).toNat)
    case atStart => exact ⟨0, by omega, rfl, Lib.hid rfl, Lib.hid (Below.refl _ _)⟩
    case round =>
      obtain ⟨k, hk, rfl, HU, HB⟩ := hrel
      rename World => wr
      by_cases hkn : k < n
      · obtain ⟨b, off, rfl, hlt, hcell⟩ := (HH.out.kept HB.out).cells (by omega)
        obtain ⟨h1, h2⟩ := hcell k hkn
        have hsz := HH.out.size _ (lab_mem (l := l) (i := k) (by have := HL.out; omega))
        obtain ⟨x1, hx1⟩ : ∃ x, x = (l.getD k lab0).1 := ⟨_, rfl⟩
        obtain ⟨x2, hx2⟩ : ∃ x, x = (l.getD k lab0).2 := ⟨_, rfl⟩
        rw [← hx1] at h1 hsz
        rw [← hx2] at h2 hsz
        obtain ⟨hs1, hs2⟩ := hsz
        have HX := Lib.hid (And.intro hx1 hx2)
        have hb2 : Below w.heap.size w (wr.alloc (.cells #[.string x1, .string x2] 41)) := HB.out.alloc HB.out.size _
        have HB2 := Lib.hid hb2
        clear hx1 hx2 hcell hb2
        by_cases h200 : 200 < x1.size + x2.size
        · have HF := Lib.hid (show fewB l = false by
            rw [HR.out]
            rw [HX.out.1, HX.out.2] at h200
            have := shortTo_no h200 (n - (k + 1))
            rw [show k + 1 + (n - (k + 1)) = n from by omega] at this
            exact this)
          have h2i : (200 : Int) < (x1.size : Int) + (x2.size : Int) := by omega
          clear h200
          go_wp2_with fail
          go_ret
          rw [HF.out]; exact ⟨rfl, HB2.out⟩
        · have HU2 := Lib.hid (show shortTo l (k + 1) = true by rw [shortTo, HU.out, ← HX.out.1, ← HX.out.2, decide_eq_true (by omega)]; rfl)
          have h2i : (x1.size : Int) + (x2.size : Int) ≤ 200 := by omega
          clear h200
          go_wp2_with fail
          go_roundw
          case rel => exact ⟨k + 1, by omega, by go_num, HU2, HB2⟩
          case measure => simp [intOf]; omega
      · obtain rfl : k = n := by omega
        have HT := Lib.hid (show fewB l = true by rw [HR.out]; exact HU.out)
        clear hkn
        go_wp2_with fail
        go_ret
        rw [HT.out]; exact ⟨rfl, HB.out⟩
end Go.Proofs.Ytjbljplgkbnpmaa
