/- The law UploadPaces, walked. -/
import Derived.Test.YtpgpgpbckjginaaUpNew
namespace Go.Proofs.Ytpgpgpbckjginaa
open Go.RowKit
set_option linter.unusedVariables false

def fewB (dn : Nat) (ky : ByteArray) : Bool := decide (dn ≤ 3000) && decide (ky.size ≤ 100)
set_option maxRecDepth 100000 in
theorem few17_any {w : World} {ky : ByteArray} {da : Option Addr} {dn dc : Nat} {pc tr wt : Int} (hk : ky.size ≤ 140737488355328) (hd : dn ≤ 140737488355328) :
    Calls Try.prog 8 #[.agg #[.string ky, .slice da dn dc, .int .i64 pc, .int .i64 tr, .int .i64 wt]] w fun e w' => e = .returned (.bool (fewB dn ky)) ∧ Below w.heap.size w w' := by
  have HB := Lib.hid ((Below.refl w.heap.size w).alloc (Nat.le_refl _) (.cells #[.string ky, .slice da dn dc, .int .i64 pc, .int .i64 tr, .int .i64 wt] 24))
  by_cases h1 : dn ≤ 3000
  · have h1i : (dn : Int) ≤ 3000 := by omega
    by_cases h2 : ky.size ≤ 100
    · have HF := Lib.hid (show fewB dn ky = true by unfold fewB; rw [decide_eq_true h1, decide_eq_true h2]; rfl)
      have h2i : (ky.size : Int) ≤ 100 := by omega
      clear h1 h2
      go_enter Try.func8, Try.ntmps8
      go_wp2_with fail
      go_ret
      rw [HF.out]; exact ⟨rfl, HB.out⟩
    · have HF := Lib.hid (show fewB dn ky = false by unfold fewB; rw [decide_eq_false h2, Bool.and_false])
      have h2i : (100 : Int) < (ky.size : Int) := by omega
      clear h1 h2
      go_enter Try.func8, Try.ntmps8
      go_wp2_with fail
      go_ret
      rw [HF.out]; exact ⟨by simp; omega, HB.out⟩
  · have HF := Lib.hid (show fewB dn ky = false by unfold fewB; rw [decide_eq_false h1]; rfl)
    have h1i : (3000 : Int) < (dn : Int) := by omega
    clear h1
    go_enter Try.func8, Try.ntmps8
    go_wp2_with fail
    go_ret
    rw [HF.out]; exact ⟨rfl, HB.out⟩
/-- the series --/
theorem pow_step (wt : Int) (f : Nat) : wt * 2 ^ (f + 1) = 2 * (wt * 2 ^ f) := by rw [Int.pow_succ, ← Int.mul_assoc, Int.mul_comm]
theorem pow_in {wt : Int} (h0 : 0 ≤ wt) (h1 : wt ≤ 20) : ∀ (f n : Nat), f ≤ n → wt ≤ wt * 2 ^ f ∧ wt * 2 ^ f ≤ wt * 2 ^ n := by
  have hstep : ∀ f : Nat, 0 ≤ wt * 2 ^ f := fun f => Int.mul_nonneg h0 (Int.pow_nonneg (by omega))
  have hup : ∀ f n : Nat, f ≤ n → wt * 2 ^ f ≤ wt * 2 ^ n := by
    intro f n h
    induction h with
    | refl => exact Int.le_refl _
    | step _ ih => rw [pow_step]; have := hstep f; omega
  intro f n h
  refine ⟨?_, hup f n h⟩
  have := hup 0 f (Nat.zero_le _)
  simpa using this
theorem pow_8 {wt : Int} (h0 : 0 ≤ wt) (h1 : wt ≤ 20) {f : Nat} (h : f ≤ 8) : wt ≤ wt * 2 ^ f ∧ wt * 2 ^ f ≤ 5120 := by
  have := pow_in h0 h1 f 8 h
  exact ⟨this.1, by have := this.2; omega⟩
theorem pow_7 {wt : Int} (h0 : 0 ≤ wt) (h1 : wt ≤ 20) {f : Nat} (h : f ≤ 7) : wt ≤ wt * 2 ^ f ∧ wt * 2 ^ f ≤ 2560 := by
  have := pow_in h0 h1 f 7 h
  exact ⟨this.1, by have := this.2; omega⟩
theorem Below.setRow_new {B : Nat} {a w : World} (h : Below B a w) {g : Nat} (hg : B ≤ g) (cs : Array Value) : Below B a (w.setRow g cs) :=
  h.trans ⟨rfl, rfl, rfl, by simp, fun k hk => setRow_other w g k cs (by omega)⟩
/-- what was told last: a call, or none -/
def callA (ky : ByteArray) : Bool → Array Value
  | true => #[.int .i64 7, .string ky, .slice none 0 0, .int .i64 0, .int .i64 0, .int .i64 0, .int .i64 0]
  | false => #[.int .i64 0, .string { data := #[] }, .slice none 0 0, .int .i64 0, .int .i64 0, .int .i64 0, .int .i64 0]
/-- how it stands: failed so often; the call was told; it may be over -/
def Stands (w : World) (B : Nat) (ky : ByteArray) (da' : Option Addr) (dn dc' : Nat) (sz pt tr wt : Int) (f : Nat) (told : Bool) : Prop :=
  ((f : Int) < tr ∧ w.heap[B]? = some (.cells (upA ky da' dn dc' sz pt tr wt f (wt * 2 ^ f - wt) told 0 0) 61 (0, 0))) ∨ (told = false ∧ (f : Int) = tr ∧ ∃ rd, w.heap[B]? = some (.cells (upA ky da' dn dc' sz pt tr wt f rd false 5 2) 61 (0, 0)))

set_option maxRecDepth 100000 in
set_option maxHeartbeats 8000000 in
theorem upload_paces (ky : ByteArray) (da : Option Addr) (dn dc : Nat) (xs : List Nat) (pc tr wt : Int) (w : World) (hk : ky.size ≤ 140737488355328) (hby : BytesAt w da dn dc xs) :
    Calls Try.prog 6 #[.agg #[.string ky, .slice da dn dc, .int .i64 pc, .int .i64 tr, .int .i64 wt]] w fun e w' => e = .returned (.bool true) ∧ Below w.heap.size w w' := by
  obtain ⟨w1, hw1⟩ : ∃ w1, w1 = w.alloc (.cells #[.string ky, .slice da dn dc, .int .i64 pc, .int .i64 tr, .int .i64 wt] 24) := ⟨_, rfl⟩
  have s1 : w.heap.size < w1.heap.size := by rw [hw1]; exact (Array.getElem?_eq_some_iff.1 (heap_alloc_new w _)).1
  have hb1 : Below w.heap.size w w1 := by rw [hw1]; exact (Below.refl _ _).alloc (Nat.le_refl _) _
  have hbox : ∀ (wr : World), Below w1.heap.size w1 wr → wr.cell? ⟨w.heap.size, 0, none⟩ = some (.string ky) ∧ wr.cell? ⟨w.heap.size, 1, none⟩ = some (.slice da dn dc) ∧ wr.cell? ⟨w.heap.size, 2, none⟩ = some (.int .i64 pc) ∧ wr.cell? ⟨w.heap.size, 3, none⟩ = some (.int .i64 tr) ∧ wr.cell? ⟨w.heap.size, 4, none⟩ = some (.int .i64 wt) := by
    intro wr hb
    rw [hw1] at hb
    exact ⟨box_cell hb rfl, box_cell hb rfl, box_cell hb rfl, box_cell hb rfl, box_cell hb rfl⟩
  have hdm : dn ≤ 140737488355328 := by have := hby.reach; omega
  have HBY := Lib.hid (hby.kept hb1)
  have HBOX := Lib.hid hbox
  have HB1 := Lib.hid hb1
  have HW1 := Lib.hid hw1
  clear hby hb1 hbox hw1
  cases hfw : fewB dn ky with
  | false =>
    have HFW := Lib.hid hfw
    clear hfw
    go_enter Try.func6, Try.ntmps6
    go_wp2_with fail
    rw [← HW1.out]
    refine (lives17_any w1).mono ?_
    rintro e w2 ⟨rfl, hb2⟩
    obtain ⟨b0, b1, b2, b3, b4⟩ := HBOX.out w2 hb2
    have HB2 := Lib.hid hb2
    clear hb2
    go_wp2_with fail
    refine (few17_any hk hdm).mono ?_
    rw [HFW.out]
    rintro e w3 ⟨rfl, hb3⟩
    have HB3 := Lib.hid (HB2.out.trans (hb3.mono HB2.out.size))
    clear hb3
    go_wp2_with fail
    refine (lives17_any w3).mono ?_
    rintro e w4 ⟨rfl, hb4⟩
    have HB4 := Lib.hid ((HB1.out.trans (HB3.out.mono HB1.out.size)).trans (hb4.mono (Nat.le_trans HB1.out.size HB3.out.size)))
    clear hb4
    go_wp2_with fail
    go_ret
    exact ⟨rfl, HB4.out⟩
  | true =>
    have HFW := Lib.hid hfw
    have hdn : dn ≤ 3000 := by unfold fewB at hfw; rw [Bool.and_eq_true, decide_eq_true_eq] at hfw; exact hfw.1
    clear hfw
    by_cases hw20 : 20 < wt
    · go_enter Try.func6, Try.ntmps6
      go_wp2_with fail
      rw [← HW1.out]
      refine (lives17_any w1).mono ?_
      rintro e w2 ⟨rfl, hb2⟩
      obtain ⟨b0, b1, b2, b3, b4⟩ := HBOX.out w2 hb2
      have HB2 := Lib.hid hb2
      clear hb2
      go_wp2_with fail
      refine (few17_any hk hdm).mono ?_
      rw [HFW.out]
      rintro e w3 ⟨rfl, hb3⟩
      have hb3' := HB2.out.trans (hb3.mono HB2.out.size)
      clear b0 b1 b2 b3 b4
      obtain ⟨b0, b1, b2, b3, b4⟩ := HBOX.out w3 hb3'
      have HB3 := Lib.hid hb3'
      clear hb3 hb3'
      go_wp2_with fail
      refine (lives17_any w3).mono ?_
      rintro e w4 ⟨rfl, hb4⟩
      have HB4 := Lib.hid ((HB1.out.trans (HB3.out.mono HB1.out.size)).trans (hb4.mono (Nat.le_trans HB1.out.size HB3.out.size)))
      clear hb4
      go_wp2_with fail
      go_ret
      exact ⟨rfl, HB4.out⟩
    · have hw20i : wt ≤ 20 := by omega
      clear hw20
      by_cases hmk : 1 ≤ pc ∧ pc ≤ 262144 ∧ fitsB tr wt = true
      case neg =>
        have HNO := Lib.hid (fun w' => new_no (w := w') (ky := ky) (da := da) (dc := dc) hdn hmk)
        clear hmk
        go_enter Try.func6, Try.ntmps6
        go_wp2_with fail
        rw [← HW1.out]
        refine (lives17_any w1).mono ?_
        rintro e w2 ⟨rfl, hb2⟩
        obtain ⟨b0, b1, b2, b3, b4⟩ := HBOX.out w2 hb2
        have HB2 := Lib.hid hb2
        clear hb2
        go_wp2_with fail
        refine (few17_any hk hdm).mono ?_
        rw [HFW.out]
        rintro e w3 ⟨rfl, hb3⟩
        have hb3' := HB2.out.trans (hb3.mono HB2.out.size)
        clear b0 b1 b2 b3 b4
        obtain ⟨b0, b1, b2, b3, b4⟩ := HBOX.out w3 hb3'
        have HB3 := Lib.hid hb3'
        clear hb3 hb3'
        go_wp2_with fail
        refine (HNO.out w3).mono ?_
        rintro e w4 ⟨rfl, rfl⟩
        have HB4 := Lib.hid (HB1.out.trans (HB3.out.mono HB1.out.size))
        go_wp2_with fail
        go_ret
        exact ⟨rfl, HB4.out⟩
      case pos =>
        obtain ⟨hp1, hp2, hfit⟩ := hmk
        obtain ⟨ht1, ht8, hw0, _⟩ : 1 ≤ tr ∧ tr ≤ 8 ∧ 0 ≤ wt ∧ wt ≤ 1099511627776 := by unfold fitsB at hfit; exact of_decide_eq_true hfit
        have HFIT := Lib.hid hfit
        clear hfit
        go_enter Try.func6, Try.ntmps6
        go_wp2_with fail
        rw [← HW1.out]
        refine (lives17_any w1).mono ?_
        rintro e w2 ⟨rfl, hb2⟩
        obtain ⟨b0, b1, b2, b3, b4⟩ := HBOX.out w2 hb2
        have HB2 := Lib.hid hb2
        clear hb2
        go_wp2_with fail
        refine (few17_any hk hdm).mono ?_
        rw [HFW.out]
        rintro e w3 ⟨rfl, hb3⟩
        have hb3' := HB2.out.trans (hb3.mono HB2.out.size)
        clear b0 b1 b2 b3 b4
        obtain ⟨b0, b1, b2, b3, b4⟩ := HBOX.out w3 hb3'
        have HB3 := Lib.hid hb3'
        have HBY3 := Lib.hid (HBY.out.kept hb3')
        clear hb3 hb3'
        go_wp2_with fail
        refine (new_yes HBY3.out hdn hp1 hp2 HFIT.out).mono ?_
        rintro e w4 ⟨B, da', dc', sz, pt, rfl, hg, hB, hb4⟩
        have hB1 : w1.heap.size ≤ B := Nat.le_trans HB3.out.size hB
        have hb4' := HB3.out.trans (hb4.mono HB3.out.size)
        clear b0 b1 b2 b3 b4
        obtain ⟨b0, b1, b2, b3, b4⟩ := HBOX.out w4 hb4'
        have HB4 := Lib.hid hb4'
        have HG := Lib.hid hg
        have HBB := Lib.hid hB1
        clear hg hB hb4 hb4' hB1
        go_wp2_with fail
        go_region
        go_wp2_with fail
        go_loopw [4, 5, 6, 38] (fun s4 s5 s6 s38 wr => ∃ (i f : Nat) (due q : Int), i ≤ 3000 ∧ s38 = .int .i64 (i : Int) ∧ s6 = .int .i64 (f : Int) ∧ s4 = .int .i64 due ∧ s5 = .int .i64 q ∧ (f : Int) ≤ tr ∧ Hid (Below w1.heap.size w1 wr) ∧ Hid (Stands wr B ky da' dn dc' sz pt tr wt f false) ∧ Hid ((f : Int) < tr → q = wt * 2 ^ f ∧ due = q - wt ∧ (i : Int) ≤ due)) (fun _ _ _ s38 _ => 3000 - (intOf s38).toNat)
        case atStart => exact ⟨0, 0, 0, wt, by omega, rfl, rfl, rfl, rfl, by omega, Lib.hid HB4.out.drew, Lib.hid (.inl ⟨by omega, by rw [show wt * 2 ^ 0 - wt = 0 by rw [Int.pow_zero, Int.mul_one, Int.sub_self]]; exact HG.out⟩), Lib.hid (fun _ => ⟨by rw [Int.pow_zero, Int.mul_one], by omega, by omega⟩)⟩
        case round =>
          clear b0 b1 b2 b3 b4
          obtain ⟨i, f, due, q, hi, rfl, rfl, rfl, rfl, hft, HBW, HST, HQ⟩ := hrel
          rename World => wr
          by_cases hi3 : i < 3000
          · have hi3i : (i : Int) < 3000 := by omega
            rcases HST.out with ⟨hlt, hg⟩ | ⟨_, hf2, rd, hg⟩
            case inr =>
              have zt : ((f : Int) == tr) = true := by rw [beq_iff_eq]; exact hf2
              have HSA := Lib.hid (state_any hg)
              obtain ⟨b0, b1, b2, b3, b4⟩ := HBOX.out wr HBW.out
              have HBF := Lib.hid (HB1.out.trans (HBW.out.mono HB1.out.size))
              have z20 : ((2 : Int) != 0) = true := by decide
              clear hg hf2
              go_wp2_with fail
              refine HSA.out.mono ?_
              rintro e w6 ⟨rfl, rfl⟩
              go_wp2_with fail
              refine HSA.out.mono ?_
              rintro e w7 ⟨rfl, rfl⟩
              go_wp2_with fail
              go_ret
              exact ⟨by simp, HBF.out⟩
            case inl =>
              obtain ⟨hq, hd, hid⟩ := HQ.out hlt
              have hp := pow_7 hw0 hw20i (f := f) (by omega)
              rw [← hq] at hp
              obtain ⟨hp1, hp2⟩ := hp
              have HSA := Lib.hid (state_any hg)
              have z00 : ((0 : Int) != 0) = false := by decide
              have HQE := Lib.hid hq
              by_cases hnow : due ≤ (i : Int)
              case neg =>
                have HN := Lib.hid (next_wait (now := (i : Int)) hg (by rw [← hq]; omega))
                have hidlt : (i : Int) + 1 ≤ due := by omega
                have HD := Lib.hid (And.intro hd hidlt)
                clear hg hq hd hidlt hnow
                go_wp2_with fail
                refine HSA.out.mono ?_
                rintro e w6 ⟨rfl, rfl⟩
                go_wp2_with fail
                refine HN.out.mono ?_
                rintro e w7 ⟨rfl, hg7, ht7⟩
                have hb7 := ht7.old HBW.out HBB.out HBW.out.size
                have hal : Below w7.heap.size w7 (w7.alloc (.cells #[.int .i64 0, .string { data := #[] }, .slice none 0 0, .int .i64 0, .int .i64 0, .int .i64 0, .int .i64 0] 48)) := (Below.refl _ _).alloc (Nat.le_refl _) _
                have HB8 := Lib.hid (hb7.alloc hb7.size (.cells #[.int .i64 0, .string { data := #[] }, .slice none 0 0, .int .i64 0, .int .i64 0, .int .i64 0, .int .i64 0] 48))
                have HS8 := Lib.hid (show Stands (w7.alloc (.cells #[.int .i64 0, .string { data := #[] }, .slice none 0 0, .int .i64 0, .int .i64 0, .int .i64 0, .int .i64 0] 48)) B ky da' dn dc' sz pt tr wt f false from .inl ⟨hlt, (hal.block B (Array.getElem?_eq_some_iff.1 hg7).1).trans hg7⟩)
                clear hg7 ht7 hb7 hal
                go_wp2_with fail
                go_loopw [4, 5, 6, 9] (fun s4 s5 s6 s9 wq => s4 = .int .i64 due ∧ s5 = .int .i64 q ∧ s6 = .int .i64 (f : Int) ∧ s9 = .bool false ∧ wq = w7.alloc (.cells #[.int .i64 0, .string { data := #[] }, .slice none 0 0, .int .i64 0, .int .i64 0, .int .i64 0, .int .i64 0] 48)) (fun _ _ _ _ _ => 0)
                case atStart => exact ⟨rfl, rfl, rfl, rfl, rfl⟩
                case round =>
                  obtain ⟨rfl, rfl, rfl, rfl, rfl⟩ := hrel
                  go_wp2_with fail
                  go_roundw
                  case rel => exact ⟨i + 1, f, due, q, by omega, by go_num, rfl, rfl, rfl, hft, HB8, HS8, Lib.hid (fun _ => ⟨HQE.out, HD.out.1, by have := HD.out.2; omega⟩)⟩
                  case measure => simp [intOf]; omega
              case pos =>
                have hdi : due = (i : Int) := by omega
                have HN := Lib.hid (next_yes (now := (i : Int)) hg (by rw [← hq]; omega))
                have HD := Lib.hid (And.intro hd hdi)
                clear hg hq hd hdi hnow
                go_wp2_with fail
                refine HSA.out.mono ?_
                rintro e w6 ⟨rfl, rfl⟩
                go_wp2_with fail
                refine HN.out.mono ?_
                rintro e w7 ⟨rfl, hg7, ht7⟩
                have hb7 := ht7.old HBW.out HBB.out HBW.out.size
                obtain ⟨w8, hw8⟩ : ∃ w8, w8 = w7.alloc (.cells #[.int .i64 7, .string ky, .slice none 0 0, .int .i64 0, .int .i64 0, .int .i64 0, .int .i64 0] 48) := ⟨_, rfl⟩
                obtain ⟨cb, hcb⟩ : ∃ cb, cb = w7.heap.size := ⟨_, rfl⟩
                have hal : Below w7.heap.size w7 w8 := by rw [hw8]; exact (Below.refl _ _).alloc (Nat.le_refl _) _
                have hg8 : w8.heap[B]? = some (.cells (upA ky da' dn dc' sz pt tr wt (f : Int) (wt * 2 ^ f - wt) true 0 0) 61 (0, 0)) := (hal.block B (Array.getElem?_eq_some_iff.1 hg7).1).trans hg7
                have hc8 : w8.heap[cb]? = some (.cells (callA ky true) 48 (0, 0)) := by rw [hw8, hcb]; exact heap_alloc_new w7 _
                have HCN := Lib.hid (show cb ≠ B ∧ w1.heap.size ≤ cb from ⟨by have := (Array.getElem?_eq_some_iff.1 hg7).1; omega, by rw [hcb]; exact hb7.size⟩)
                have HB8 := Lib.hid (hb7.trans (hal.mono hb7.size))
                have HS8 := Lib.hid (show Stands w8 B ky da' dn dc' sz pt tr wt f true from .inl ⟨hlt, hg8⟩)
                have HC8 := Lib.hid hc8
                have HW8 := Lib.hid hw8
                have HCB := Lib.hid hcb
                clear hg7 ht7 hb7 hal hg8 hc8 hw8 hcb
                go_wp2_with fail
                rw [← HW8.out, ← HCB.out]
                go_loopw [4, 5, 6, 9] (fun s4 s5 s6 s9 wq => ∃ (g : Nat) (du p : Int) (b : Bool), s6 = .int .i64 (g : Int) ∧ s4 = .int .i64 du ∧ s5 = .int .i64 p ∧ s9 = .bool b ∧ (g : Int) ≤ tr ∧ Hid (Below w1.heap.size w1 wq) ∧ Hid (wq.heap[cb]? = some (.cells (callA ky b) 48 (0, 0))) ∧ Hid (Stands wq B ky da' dn dc' sz pt tr wt g b) ∧ Hid ((g : Int) < tr → p = wt * 2 ^ g ∧ du = p - wt ∧ (b = true → du = (i : Int)) ∧ (b = false → (i : Int) + 1 ≤ du)) ∧ Hid (b = true → (g : Int) < tr)) (fun _ _ s6 _ _ => 9 - (intOf s6).toNat)
                case atStart => exact ⟨f, due, q, true, rfl, rfl, rfl, rfl, hft, HB8, HC8, HS8, Lib.hid (fun _ => ⟨HQE.out, HD.out.1, fun _ => HD.out.2, fun h => by cases h⟩), Lib.hid (fun _ => hlt)⟩
                case round =>
                  clear hi3i z00
                  obtain ⟨g, du, p, b, rfl, rfl, rfl, rfl, hgt, HBQ, HCQ, HSQ, HQQ, HBT⟩ := hrel
                  rename World => wq
                  cases b with
                  | false =>
                    go_wp2_with fail
                    go_roundw
                    case rel => exact ⟨i + 1, g, du, p, by omega, by go_num, rfl, rfl, rfl, hgt, HBQ, HSQ, Lib.hid (fun h => ⟨(HQQ.out h).1, (HQQ.out h).2.1, by have := (HQQ.out h).2.2.2 rfl; omega⟩)⟩
                    case measure => simp [intOf]; omega
                  | true =>
                    have hlg := HBT.out rfl
                    rcases HSQ.out with ⟨_, hgq⟩ | ⟨hno, _⟩
                    case inr => cases hno
                    obtain ⟨hpq, hdp, hdui, _⟩ := HQQ.out hlg
                    have hdu := hdui rfl
                    have hpp := pow_7 hw0 hw20i (f := g) (by omega)
                    rw [← hpq] at hpp
                    obtain ⟨hpp1, hpp2⟩ := hpp
                    have ck := cell_blk HCQ.out (i := 0) (u := .int .i64 7) rfl
                    have zn : ((i : Int) != du) = false := by rw [hdu]; simp
                    have z77 : ((7 : Int) != 7) = false := by decide
                    have hcblt := (Array.getElem?_eq_some_iff.1 HCQ.out).1
                    have HPQ := Lib.hid (And.intro hpq (And.intro hdp hdu))
                    have hi3i : (i : Int) < 3000 := by omega
                    have hg7 : g ≤ 7 := by omega
                    by_cases hmore : (g : Int) + 1 < tr
                    · have HTK := Lib.hid (take_more (now := (i : Int)) hgq (by omega) ⟨hw0, by omega⟩ ⟨by omega, by omega⟩ hmore)
                      clear hgq hpq hdp hdui
                      go_wp2_with fail
                      refine HTK.out.mono ?_
                      rintro e w9 ⟨⟨vv, rfl⟩, hg9, ht9⟩
                      have hg9' : w9.heap[B]? = some (.cells (upA ky da' dn dc' sz pt tr wt ((g + 1 : Nat) : Int) (wt * 2 ^ (g + 1) - wt) false 0 0) 61 (0, 0)) := by
                        rw [hg9, pow_step, show (i : Int) + wt * 2 ^ g = 2 * (wt * 2 ^ g) - wt from by have := HPQ.out; omega]; rfl
                      have hc9 := (ht9.block cb hcblt HCN.out.1).trans HCQ.out
                      have hb9 := ht9.old HBQ.out HBB.out HBQ.out.size
                      have hcl9 := (Array.getElem?_eq_some_iff.1 hc9).1
                      by_cases hz : wt * 2 ^ (g + 1) - wt ≤ (i : Int)
                      · have HNX := Lib.hid (next_yes (now := (i : Int)) hg9' hz)
                        have HZ := Lib.hid hz
                        clear hg9 hg9' ht9 hz
                        go_wp2_with fail
                        refine HNX.out.mono ?_
                        rintro e wA ⟨rfl, hgA, htA⟩
                        have hcA := (htA.block cb hcl9 HCN.out.1).trans hc9
                        have HCA := Lib.hid hcA
                        have HBA := Lib.hid (Below.setRow_new (htA.old hb9 HBB.out hb9.size) HCN.out.2 #[.int .i64 7, .string ky, .slice none 0 0, .int .i64 0, .int .i64 0, .int .i64 0, .int .i64 0])
                        have HSA2 := Lib.hid (show Stands (wA.setRow cb #[.int .i64 7, .string ky, .slice none 0 0, .int .i64 0, .int .i64 0, .int .i64 0, .int .i64 0]) B ky da' dn dc' sz pt tr wt (g + 1) true from .inl ⟨by omega, (setRow_other wA cb B #[.int .i64 7, .string ky, .slice none 0 0, .int .i64 0, .int .i64 0, .int .i64 0, .int .i64 0] (fun e => HCN.out.1 e.symm)).trans hgA⟩)
                        have HCC := Lib.hid (show (wA.setRow cb #[.int .i64 7, .string ky, .slice none 0 0, .int .i64 0, .int .i64 0, .int .i64 0, .int .i64 0]).heap[cb]? = some (.cells (callA ky true) 48 (0, 0)) from setRow_heap wA cb _ _ _ (0, 0) hcA)
                        clear hgA htA hcA
                        go_wp2_with (refine wpList_store_row rfl 48 (.tmp 8) (.tmp 74) rfl cb #[.int .i64 7, .string ky, .slice none 0 0, .int .i64 0, .int .i64 0, .int .i64 0, .int .i64 0] rfl rfl 48 _ HCA.out (by kernel_rfl) (by rfl) (by simp [Value.oneCell']) ?_)
                        go_roundw
                        case rel => exact ⟨g + 1, _, _, true, by go_num, rfl, rfl, rfl, by omega, HBA, HCC, HSA2, Lib.hid (fun _ => ⟨by rw [pow_step]; have := HPQ.out.1; omega, by have := HPQ.out; omega, fun _ => by have h1 := HPQ.out; have h2 := HZ.out; rw [pow_step] at h2; omega, fun h => by cases h⟩), Lib.hid (fun _ => by omega)⟩
                        case measure => simp [intOf]; omega
                      · have HNX := Lib.hid (next_wait (now := (i : Int)) hg9' (by omega))
                        have HZ := Lib.hid hz
                        clear hg9 hg9' ht9 hz
                        go_wp2_with fail
                        refine HNX.out.mono ?_
                        rintro e wA ⟨rfl, hgA, htA⟩
                        have hcA := (htA.block cb hcl9 HCN.out.1).trans hc9
                        have HCA := Lib.hid hcA
                        have HBA := Lib.hid (Below.setRow_new (htA.old hb9 HBB.out hb9.size) HCN.out.2 #[.int .i64 0, .string { data := #[] }, .slice none 0 0, .int .i64 0, .int .i64 0, .int .i64 0, .int .i64 0])
                        have HSA2 := Lib.hid (show Stands (wA.setRow cb #[.int .i64 0, .string { data := #[] }, .slice none 0 0, .int .i64 0, .int .i64 0, .int .i64 0, .int .i64 0]) B ky da' dn dc' sz pt tr wt (g + 1) false from .inl ⟨by omega, (setRow_other wA cb B #[.int .i64 0, .string { data := #[] }, .slice none 0 0, .int .i64 0, .int .i64 0, .int .i64 0, .int .i64 0] (fun e => HCN.out.1 e.symm)).trans hgA⟩)
                        have HCC := Lib.hid (show (wA.setRow cb #[.int .i64 0, .string { data := #[] }, .slice none 0 0, .int .i64 0, .int .i64 0, .int .i64 0, .int .i64 0]).heap[cb]? = some (.cells (callA ky false) 48 (0, 0)) from setRow_heap wA cb _ _ _ (0, 0) hcA)
                        clear hgA htA hcA
                        go_wp2_with (refine wpList_store_row rfl 48 (.tmp 8) (.tmp 74) rfl cb #[.int .i64 0, .string { data := #[] }, .slice none 0 0, .int .i64 0, .int .i64 0, .int .i64 0, .int .i64 0] rfl rfl 48 _ HCA.out (by kernel_rfl) (by rfl) (by simp [Value.oneCell']) ?_)
                        go_roundw
                        case rel => exact ⟨g + 1, _, _, false, by go_num, rfl, rfl, rfl, by omega, HBA, HCC, HSA2, Lib.hid (fun _ => ⟨by rw [pow_step]; have := HPQ.out.1; omega, by have := HPQ.out; omega, (fun h => by cases h), fun _ => by have h1 := HPQ.out; have h2 := HZ.out; rw [pow_step] at h2; omega⟩), Lib.hid (fun h => by cases h)⟩
                        case measure => simp [intOf]; omega
                    · have htr : ((g + 1 : Nat) : Int) = tr := by omega
                      have HTK := Lib.hid (take_last (now := (i : Int)) hgq (by omega) (by omega))
                      clear hgq hpq hdp hdui hmore
                      go_wp2_with fail
                      refine HTK.out.mono ?_
                      rintro e w9 ⟨⟨vv, rfl⟩, hg9, ht9⟩
                      have hc9 := (ht9.block cb hcblt HCN.out.1).trans HCQ.out
                      have hb9 := ht9.old HBQ.out HBB.out HBQ.out.size
                      have hcl9 := (Array.getElem?_eq_some_iff.1 hc9).1
                      have HNX := Lib.hid (next_over (now := (i : Int)) hg9)
                      clear hg9 ht9
                      go_wp2_with fail
                      refine HNX.out.mono ?_
                      rintro e wA ⟨rfl, hgA, htA⟩
                      have hcA := (htA.block cb hcl9 HCN.out.1).trans hc9
                      have HCA := Lib.hid hcA
                      have HBA := Lib.hid (Below.setRow_new (htA.old hb9 HBB.out hb9.size) HCN.out.2 #[.int .i64 0, .string { data := #[] }, .slice none 0 0, .int .i64 0, .int .i64 0, .int .i64 0, .int .i64 0])
                      have HSA2 := Lib.hid (show Stands (wA.setRow cb #[.int .i64 0, .string { data := #[] }, .slice none 0 0, .int .i64 0, .int .i64 0, .int .i64 0, .int .i64 0]) B ky da' dn dc' sz pt tr wt (g + 1) false from .inr ⟨rfl, htr, _, (setRow_other wA cb B #[.int .i64 0, .string { data := #[] }, .slice none 0 0, .int .i64 0, .int .i64 0, .int .i64 0, .int .i64 0] (fun e => HCN.out.1 e.symm)).trans hgA⟩)
                      have HCC := Lib.hid (show (wA.setRow cb #[.int .i64 0, .string { data := #[] }, .slice none 0 0, .int .i64 0, .int .i64 0, .int .i64 0, .int .i64 0]).heap[cb]? = some (.cells (callA ky false) 48 (0, 0)) from setRow_heap wA cb _ _ _ (0, 0) hcA)
                      clear hgA htA hcA
                      go_wp2_with (refine wpList_store_row rfl 48 (.tmp 8) (.tmp 74) rfl cb #[.int .i64 0, .string { data := #[] }, .slice none 0 0, .int .i64 0, .int .i64 0, .int .i64 0, .int .i64 0] rfl rfl 48 _ HCA.out (by kernel_rfl) (by rfl) (by simp [Value.oneCell']) ?_)
                      go_roundw
                      case rel => exact ⟨g + 1, _, _, false, by go_num, rfl, rfl, rfl, by omega, HBA, HCC, HSA2, Lib.hid (fun h => absurd h (by omega)), Lib.hid (fun h => by cases h)⟩
                      case measure => simp [intOf]; omega
          · obtain rfl : i = 3000 := by omega
            rcases HST.out with ⟨hlt, hg⟩ | ⟨_, hf2, rd, hg⟩
            case inl =>
              obtain ⟨hq, hd, hid⟩ := HQ.out hlt
              have hp := pow_7 hw0 hw20i (f := f) (by omega)
              rw [← hq] at hp
              omega
            case inr =>
              have zt : ((f : Int) == tr) = true := by rw [beq_iff_eq]; exact hf2
              have HSA := Lib.hid (state_any hg)
              obtain ⟨b0, b1, b2, b3, b4⟩ := HBOX.out wr HBW.out
              have HBF := Lib.hid (HB1.out.trans (HBW.out.mono HB1.out.size))
              have z20 : ((2 : Int) != 0) = true := by decide
              clear hg hf2
              clear hi3
              go_wp2_with fail
              refine HSA.out.mono ?_
              rintro e w7 ⟨rfl, rfl⟩
              go_wp2_with fail
              go_ret
              exact ⟨by simp, HBF.out⟩
end Go.Proofs.Ytpgpgpbckjginaa
