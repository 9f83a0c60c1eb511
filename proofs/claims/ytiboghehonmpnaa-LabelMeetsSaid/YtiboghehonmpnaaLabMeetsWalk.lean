/- The law LabelMeets, walked. -/
import Derived.Test.YtiboghehonmpnaaLabOpen
namespace Go.Proofs.Ytiboghehonmpnaa
open Go.RowKit LabPlain
set_option linter.unusedVariables false

set_option maxRecDepth 100000 in
set_option maxHeartbeats 4000000 in
theorem label_meets (a : Option Addr) (n c : Nat) (l : List Lab) (a' : Option Addr) (n' c' : Nat) (ms : List Mat) (w : World) (h : LabsAt w a n c l) (h' : MatsAt w a' n' c' ms) :
    Calls Try.prog 7 #[.slice a n c, .slice a' n' c'] w fun e w' => e = .returned (.bool true) ∧ Below w.heap.size w w' := by
  have hcap := h'.cap
  have hcm := h'.capm
  have hcap0 := h.cap
  have hcm0 := h.capm
  have HH := Lib.hid h
  have HM := Lib.hid h'
  have HL' := Lib.hid h'.len
  have HLV := Lib.hid (lives8_any w)
  clear h h'
  have quit : ∀ w1, Below w.heap.size w w1 → Calls Try.prog 10 #[] w1 fun e w' => e = .returned (.bool true) ∧ Below w.heap.size w w' := fun w1 h1 =>
    (lives8_any w1).mono fun e w' he => ⟨he.1, h1.trans (he.2.mono h1.size)⟩
  have HQ := Lib.hid quit
  clear quit
  cases hf : fewB l with
  | false =>
    have HF := Lib.hid hf
    clear hf
    go_enter Try.func7, Try.ntmps7
    go_wp2_with fail
    refine HLV.out.mono ?_
    rintro e w1 ⟨rfl, hb1⟩
    have HFW := Lib.hid (few_any (HH.out.kept hb1))
    have HB1 := Lib.hid hb1
    clear hb1
    go_wp2_with fail
    refine HFW.out.mono ?_
    rw [HF.out]
    rintro e w2 ⟨rfl, hb2⟩
    have HB2 := Lib.hid (HB1.out.trans (hb2.mono HB1.out.size))
    clear hb2
    go_wp2_with fail
    refine (HQ.out _ HB2.out).mono ?_
    rintro e w3 ⟨rfl, hb3⟩
    have HB3 := Lib.hid hb3
    clear hb3
    go_wp2_with fail
    go_ret
    exact ⟨rfl, HB3.out⟩
  | true =>
    have HF := Lib.hid hf
    clear hf
    by_cases h30 : 30 < n'
    · have h3i : (30 : Int) < (n' : Int) := by omega
      clear h30
      go_enter Try.func7, Try.ntmps7
      go_wp2_with fail
      refine HLV.out.mono ?_
      rintro e w1 ⟨rfl, hb1⟩
      have HFW := Lib.hid (few_any (HH.out.kept hb1))
      have HB1 := Lib.hid hb1
      clear hb1
      go_wp2_with fail
      refine HFW.out.mono ?_
      rw [HF.out]
      rintro e w2 ⟨rfl, hb2⟩
      have HB2 := Lib.hid (HB1.out.trans (hb2.mono HB1.out.size))
      clear hb2
      go_wp2_with fail
      refine (HQ.out _ HB2.out).mono ?_
      rintro e w3 ⟨rfl, hb3⟩
      have HB3 := Lib.hid hb3
      clear hb3
      go_wp2_with fail
      go_ret
      exact ⟨rfl, HB3.out⟩
    · have h3i : (n' : Int) ≤ 30 := by omega
      clear h30
      go_enter Try.func7, Try.ntmps7
      go_wp2_with fail
      refine HLV.out.mono ?_
      rintro e w1 ⟨rfl, hb1⟩
      have HFW := Lib.hid (few_any (HH.out.kept hb1))
      have HB1 := Lib.hid hb1
      clear hb1
      go_wp2_with fail
      refine HFW.out.mono ?_
      rw [HF.out]
      rintro e w2 ⟨rfl, hb2⟩
      have HB2 := Lib.hid (HB1.out.trans (hb2.mono HB1.out.size))
      clear hb2
      go_wp2_with fail
      go_loopw [22] (fun s22 wr => ∃ k : Nat, k ≤ n' ∧ s22 = .int .i64 (k : Int) ∧ Hid (Below w.heap.size w wr)) (fun s22 _ => n' - (intOf s22).toNat)
      case atStart => exact ⟨0, by omega, rfl, HB2⟩
      case round =>
        obtain ⟨k, hk, rfl, HB⟩ := hrel
        rename World => wr
        by_cases hkn : k < n'
        · obtain ⟨b, off, rfl, hlt, hcell⟩ := (HM.out.kept HB.out).cells (by omega)
          obtain ⟨h1, h2, h3⟩ := hcell k hkn
          have hsz := HM.out.size _ (mat_mem (l := ms) (i := k) (by have := HL'.out; omega))
          obtain ⟨x1, hx1⟩ : ∃ x, x = (ms.getD k mat0).1 := ⟨_, rfl⟩
          obtain ⟨x2, hx2⟩ : ∃ x, x = (ms.getD k mat0).2.1 := ⟨_, rfl⟩
          obtain ⟨x3, hx3⟩ : ∃ x, x = (ms.getD k mat0).2.2 := ⟨_, rfl⟩
          rw [← hx1] at h1 hsz
          rw [← hx2] at h2
          rw [← hx3] at h3 hsz
          obtain ⟨hs1, hs2⟩ := hsz
          have hb3 : Below w.heap.size w (wr.alloc (.cells #[.string x1, .int .i64 x2, .string x3] 47)) := HB.out.alloc HB.out.size _
          obtain ⟨w3, hw3⟩ : ∃ w3, w3 = wr.alloc (.cells #[.string x1, .int .i64 x2, .string x3] 47) := ⟨_, rfl⟩
          obtain ⟨pb, hpb⟩ : ∃ pb, pb = wr.heap.size := ⟨_, rfl⟩
          have hlt3 : pb < w3.heap.size := by rw [hw3, hpb]; exact (Array.getElem?_eq_some_iff.1 (heap_alloc_new wr _)).1
          have hcs := mat_cells wr 47 (.string x1) (.int .i64 x2) (.string x3)
          rw [← hw3, ← hpb] at hcs
          rw [← hw3] at hb3
          obtain ⟨e0, e1, e2⟩ := hcs
          have HW3 := Lib.hid hw3
          have HPB := Lib.hid hpb
          have HB3 := Lib.hid hb3
          clear hpb hw3 hx1 hx2 hx3 hcell hb3
          go_wp2_with fail
          rw [← HW3.out, ← HPB.out]
          go_region_held3 (fun w' => w'.cell? ⟨pb, 0, none⟩ = some (.string x1) ∧ w'.cell? ⟨pb, 1, none⟩ = some (.int .i64 x2) ∧ w'.cell? ⟨pb, 2, none⟩ = some (.string x3)) (first | go_keep | exact ⟨(hba.cell (p := ⟨pb, 0, none⟩) hlt3).trans e0, (hba.cell (p := ⟨pb, 1, none⟩) hlt3).trans e1, (hba.cell (p := ⟨pb, 2, none⟩) hlt3).trans e2⟩ | exact ⟨(hbr.cell (p := ⟨pb, 0, none⟩) (Nat.lt_of_lt_of_le hlt3 hba.size)).trans ((hba.cell (p := ⟨pb, 0, none⟩) hlt3).trans e0), (hbr.cell (p := ⟨pb, 1, none⟩) (Nat.lt_of_lt_of_le hlt3 hba.size)).trans ((hba.cell (p := ⟨pb, 1, none⟩) hlt3).trans e1), (hbr.cell (p := ⟨pb, 2, none⟩) (Nat.lt_of_lt_of_le hlt3 hba.size)).trans ((hba.cell (p := ⟨pb, 2, none⟩) hlt3).trans e2)⟩) (first | (go_at_call 23; refine (asks_any x1 x3 x2 hs1 hs2 _).mono ?_; rintro r w4 ⟨rfl, hba⟩) | (go_at_call 24; refine (rasks_any x1 x3 x2 hs1 hs2 _).mono ?_; rintro r w5 ⟨rfl, hbr⟩))
          have HB5 := Lib.hid ((HB3.out.drew.trans (hba.mono HB3.out.size)).trans (hbr.mono (Nat.le_trans HB3.out.size hba.size)))
          clear hba hbr
          go_wp2_with fail
          go_roundw
          case rel => exact ⟨k + 1, by omega, by go_num, HB5⟩
          case measure => simp [intOf]; omega
        · obtain rfl : k = n' := by omega
          clear hkn
          go_wp2_with fail
          refine (meets_any (HH.out.kept HB.out) (HM.out.kept HB.out)).mono ?_
          rintro e w4 ⟨rfl, hb4⟩
          have HB4 := Lib.hid (HB.out.trans (hb4.mono HB.out.size))
          clear hb4
          go_wp2_with fail
          refine (rmeets_any (HH.out.kept HB4.out) (HM.out.kept HB4.out)).mono ?_
          rintro e w5 ⟨rfl, hb5⟩
          have HB5 := Lib.hid (HB4.out.trans (hb5.mono HB4.out.size))
          clear hb5
          go_wp2_with fail
          go_ret
          exact ⟨by simp, HB5.out⟩
end Go.Proofs.Ytiboghehonmpnaa
