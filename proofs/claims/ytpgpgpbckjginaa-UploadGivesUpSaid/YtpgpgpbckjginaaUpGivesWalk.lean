/- The law UploadGivesUp, walked. Written by genupgives.py. -/
import Derived.Test.YtpgpgpbckjginaaUpRun
import Derived.Test.YtpgpgpbckjginaaUpNew
import Derived.Deep.OwnRows
namespace Go.Proofs.Ytpgpgpbckjginaa
open Go.RowKit
set_option linter.unusedVariables false

def RnF (B SB FB bx : Nat) (tr : Int) : Nat → Value → Prop
  | 0, v => v = .pointer (some ⟨B, 0, none⟩)
  | 1, v => v = .agg #[.slice none 0 0, .slice none 0 0, .int .i64 0, .int .i64 0, .int .i64 0]
  | 2, v => v = .pointer (some ⟨SB, 0, none⟩)
  | 3, v => v = .slice (some ⟨FB, 0, none⟩) 40 40
  | 4, v => v = .int .i64 tr
  | 5, v => v = .pointer (some ⟨bx, 3, none⟩)
  | 6, v => v = .int .i64 tr
  | 7, v => v = .bool true
  | 8, v => v = .bool true
  | 9, v => v = .pointer (some ⟨B, 0, none⟩)
  | 10, v => v = .int .i64 2
  | 11, v => v = .bool true
  | 12, v => v = .bool true
  | 13, v => v = .bool true
  | _ + 14, _ => True
structure RnI (w0 : World) (B FB bx : Nat) (tr : Int) (Post : World → Prop) (L : Nat → Bool) (V : Nat → Value) (w : World) : Prop where
  val : ∀ j, L j = true → RnF B w0.heap.size FB bx tr j (V j)
  s0 : L 2 = false → w = w0
  s1 : L 2 = true → L 4 = false → w = w0.alloc (.cells #[.slice none 0 0, .slice none 0 0, .int .i64 0, .int .i64 0, .int .i64 0] 34)
  s2 : L 4 = true → Post w ∧ L 2 = true
  d7 : L 7 = true → L 4 = true
  d8 : L 8 = true → L 4 = true
theorem RnI.vals {w0 w : World} {B FB bx : Nat} {tr : Int} {Post : World → Prop} {L : Nat → Bool} {V : Nat → Value} (h : RnI w0 B FB bx tr Post L V w) {j : Nat} {u : Value} (hv : RnF B w0.heap.size FB bx tr j u) : ∀ m, (L m || decide (m = j)) = true → RnF B w0.heap.size FB bx tr m (upd V j u m) := by
  intro m hm
  unfold upd
  by_cases e : m = j
  · subst e; simp; exact hv
  · simp [e] at hm ⊢
    exact h.val m hm
theorem RnI.put {w0 w : World} {B FB bx : Nat} {tr : Int} {Post : World → Prop} {L : Nat → Bool} {V : Nat → Value} (h : RnI w0 B FB bx tr Post L V w) (j : Nat) (u : Value) (h2 : 2 ≠ j) (h4 : 4 ≠ j) (h78 : (7 ≠ j ∧ 8 ≠ j) ∨ L 4 = true) (hv : RnF B w0.heap.size FB bx tr j u) : RnI w0 B FB bx tr Post (fun m => L m || decide (m = j)) (upd V j u) w := by
  refine ⟨h.vals hv, ?_, ?_, ?_, fun e => ?_, fun e => ?_⟩
  · simp only [decide_eq_false h2, Bool.or_false]; exact h.s0
  · simp only [decide_eq_false h2, decide_eq_false h4, Bool.or_false]; exact h.s1
  · simp only [decide_eq_false h4, Bool.or_false]
    exact fun e => ⟨(h.s2 e).1, by simp [(h.s2 e).2]⟩
  · rcases h78 with g | g
    · simp [h.d7 (by simpa [g.1] using e)]
    · simp [g]
  · rcases h78 with g | g
    · simp [h.d8 (by simpa [g.2] using e)]
    · simp [g]
theorem RnI.box {w0 w : World} {B FB bx : Nat} {tr : Int} {Post : World → Prop} {L : Nat → Bool} {V : Nat → Value} (h : RnI w0 B FB bx tr Post L V w) (h2 : L 2 = false) : RnI w0 B FB bx tr Post (fun m => L m || decide (m = 2)) (upd V 2 (.pointer (some ⟨w.heap.size, 0, none⟩))) (w.alloc (.cells #[.slice none 0 0, .slice none 0 0, .int .i64 0, .int .i64 0, .int .i64 0] 34)) := by
  have hw := h.s0 h2
  subst hw
  have h4 : L 4 = false := by cases e : L 4 with | false => rfl | true => rw [(h.s2 e).2] at h2; cases h2
  refine ⟨h.vals rfl, fun e => by simp at e, fun _ _ => rfl, fun e => by simp [h4] at e, fun e => ?_, fun e => ?_⟩
  · have := h.d7 (by simpa using e); rw [this] at h4; cases h4
  · have := h.d8 (by simpa using e); rw [this] at h4; cases h4
theorem RnI.call {w0 w w' : World} {B FB bx : Nat} {tr : Int} {Post : World → Prop} {L : Nat → Bool} {V : Nat → Value} (h : RnI w0 B FB bx tr Post L V w) (l2 : L 2 = true) (hp : Post w') : RnI w0 B FB bx tr Post (fun m => L m || decide (m = 4)) (upd V 4 (.int .i64 tr)) w' :=
  ⟨h.vals rfl, fun e => by simp [l2] at e, fun _ e => by simp at e, fun _ => ⟨hp, by simp [l2]⟩, fun _ => by simp, fun _ => by simp⟩
theorem RnI.cell {w0 w : World} {B FB bx : Nat} {tr : Int} {Post : World → Prop} {L : Nat → Bool} {V : Nat → Value} (h : RnI w0 B FB bx tr Post L V w) (h0 : w0.cell? ⟨bx, 3, none⟩ = some (.int .i64 tr)) (hp : ∀ w, Post w → w.cell? ⟨bx, 3, none⟩ = some (.int .i64 tr)) : w.cell? ⟨bx, 3, none⟩ = some (.int .i64 tr) := by
  cases e2 : L 2 with
  | false => rw [h.s0 e2]; exact h0
  | true =>
    cases e4 : L 4 with
    | false =>
      rw [h.s1 e2 e4]
      have hb : Below w0.heap.size w0 (w0.alloc (.cells #[.slice none 0 0, .slice none 0 0, .int .i64 0, .int .i64 0, .int .i64 0] 34)) := (Below.refl _ _).alloc (Nat.le_refl _) _
      exact (hb.cell (p := ⟨bx, 3, none⟩) (World.block_lt_of_cell? w0 _ h0)).trans h0
    | true => exact hp w (h.s2 e4).1
set_option maxRecDepth 100000 in
set_option maxHeartbeats 8000000 in
theorem upload_gives (ky : ByteArray) (da : Option Addr) (dn dc : Nat) (xs : List Nat) (pc tr wt : Int) (dn2 : Bool) (w : World) (hk : ky.size ≤ 140737488355328) (hby : BytesAt w da dn dc xs) :
    Calls Try.prog 5 #[.agg #[.string ky, .slice da dn dc, .int .i64 pc, .int .i64 tr, .int .i64 wt], .bool dn2] w fun e w' => e = .returned (.bool true) ∧ Below w.heap.size w w' := by
  obtain ⟨w1, hw1⟩ : ∃ w1, w1 = w.alloc (.cells #[.string ky, .slice da dn dc, .int .i64 pc, .int .i64 tr, .int .i64 wt] 24) := ⟨_, rfl⟩
  have s1 : w.heap.size < w1.heap.size := by rw [hw1]; exact (Array.getElem?_eq_some_iff.1 (heap_alloc_new w _)).1
  have hb1 : Below w.heap.size w w1 := by rw [hw1]; exact (Below.refl _ _).alloc (Nat.le_refl _) _
  have hbox : ∀ (wr : World), Below w1.heap.size w1 wr → wr.cell? ⟨w.heap.size, 0, none⟩ = some (.string ky) ∧ wr.cell? ⟨w.heap.size, 1, none⟩ = some (.slice da dn dc) ∧ wr.cell? ⟨w.heap.size, 2, none⟩ = some (.int .i64 pc) ∧ wr.cell? ⟨w.heap.size, 3, none⟩ = some (.int .i64 tr) ∧ wr.cell? ⟨w.heap.size, 4, none⟩ = some (.int .i64 wt) := by
    intro wr hb
    rw [hw1] at hb
    exact ⟨box_cell hb rfl, box_cell hb rfl, box_cell hb rfl, box_cell hb rfl, box_cell hb rfl⟩
  have hdm : dn ≤ 140737488355328 := by have := hby.reach; omega
  have HBY := Lib.hid (hby.kept hb1)
  have HBOX := Lib.hid hbox
  have HB1 := Lib.hid hb1
  have HW1 := Lib.hid hw1
  clear hby hb1 hbox hw1
  cases hfw : fewB dn ky with
  | false =>
    have HFW := Lib.hid hfw
    clear hfw
    go_enter Try.func5, Try.ntmps5
    go_wp2_with fail
    rw [← HW1.out]
    refine (lives17_any w1).mono ?_
    rintro e w2 ⟨rfl, hb2⟩
    obtain ⟨b0, b1, b2, b3, b4⟩ := HBOX.out w2 hb2
    have HB2 := Lib.hid hb2
    clear hb2
    go_wp2_with fail
    refine (few17_any hk hdm).mono ?_
    rw [HFW.out]
    rintro e w3 ⟨rfl, hb3⟩
    have HB3 := Lib.hid (HB2.out.trans (hb3.mono HB2.out.size))
    clear hb3
    go_wp2_with fail
    refine (lives17_any w3).mono ?_
    rintro e w4 ⟨rfl, hb4⟩
    have HB4 := Lib.hid ((HB1.out.trans (HB3.out.mono HB1.out.size)).trans (hb4.mono (Nat.le_trans HB1.out.size HB3.out.size)))
    clear hb4
    go_wp2_with fail
    go_ret
    exact ⟨rfl, HB4.out⟩
  | true =>
    have HFW := Lib.hid hfw
    have hdn : dn ≤ 3000 := by unfold fewB at hfw; rw [Bool.and_eq_true, decide_eq_true_eq] at hfw; exact hfw.1
    clear hfw
    by_cases hw20 : 3 < wt
    · go_enter Try.func5, Try.ntmps5
      go_wp2_with fail
      rw [← HW1.out]
      refine (lives17_any w1).mono ?_
      rintro e w2 ⟨rfl, hb2⟩
      obtain ⟨b0, b1, b2, b3, b4⟩ := HBOX.out w2 hb2
      have HB2 := Lib.hid hb2
      clear hb2
      go_wp2_with fail
      refine (few17_any hk hdm).mono ?_
      rw [HFW.out]
      rintro e w3 ⟨rfl, hb3⟩
      have hb3' := HB2.out.trans (hb3.mono HB2.out.size)
      clear b0 b1 b2 b3 b4
      obtain ⟨b0, b1, b2, b3, b4⟩ := HBOX.out w3 hb3'
      have HB3 := Lib.hid hb3'
      clear hb3 hb3'
      go_wp2_with fail
      refine (lives17_any w3).mono ?_
      rintro e w4 ⟨rfl, hb4⟩
      have HB4 := Lib.hid ((HB1.out.trans (HB3.out.mono HB1.out.size)).trans (hb4.mono (Nat.le_trans HB1.out.size HB3.out.size)))
      clear hb4
      go_wp2_with fail
      go_ret
      exact ⟨rfl, HB4.out⟩
    · have hw20i : wt ≤ 3 := by omega
      clear hw20
      by_cases hmk : 1 ≤ pc ∧ pc ≤ 262144 ∧ fitsB tr wt = true
      case neg =>
        have HNO := Lib.hid (fun w' => new_no (w := w') (ky := ky) (da := da) (dc := dc) hdn hmk)
        clear hmk
        go_enter Try.func5, Try.ntmps5
        go_wp2_with fail
        rw [← HW1.out]
        refine (lives17_any w1).mono ?_
        rintro e w2 ⟨rfl, hb2⟩
        obtain ⟨b0, b1, b2, b3, b4⟩ := HBOX.out w2 hb2
        have HB2 := Lib.hid hb2
        clear hb2
        go_wp2_with fail
        refine (few17_any hk hdm).mono ?_
        rw [HFW.out]
        rintro e w3 ⟨rfl, hb3⟩
        have hb3' := HB2.out.trans (hb3.mono HB2.out.size)
        clear b0 b1 b2 b3 b4
        obtain ⟨b0, b1, b2, b3, b4⟩ := HBOX.out w3 hb3'
        have HB3 := Lib.hid hb3'
        clear hb3 hb3'
        go_wp2_with fail
        refine (HNO.out w3).mono ?_
        rintro e w4 ⟨rfl, rfl⟩
        have HB4 := Lib.hid (HB1.out.trans (HB3.out.mono HB1.out.size))
        go_wp2_with fail
        go_ret
        exact ⟨rfl, HB4.out⟩
      case pos =>
        obtain ⟨hp1, hp2, hfit⟩ := hmk
        obtain ⟨ht1, ht8, hw0, _⟩ : 1 ≤ tr ∧ tr ≤ 8 ∧ 0 ≤ wt ∧ wt ≤ 1099511627776 := by unfold fitsB at hfit; exact of_decide_eq_true hfit
        have HFIT := Lib.hid hfit
        clear hfit
        go_enter Try.func5, Try.ntmps5
        go_wp2_with fail
        rw [← HW1.out]
        refine (lives17_any w1).mono ?_
        rintro e w2 ⟨rfl, hb2⟩
        obtain ⟨b0, b1, b2, b3, b4⟩ := HBOX.out w2 hb2
        have HB2 := Lib.hid hb2
        clear hb2
        go_wp2_with fail
        refine (few17_any hk hdm).mono ?_
        rw [HFW.out]
        rintro e w3 ⟨rfl, hb3⟩
        have hb3' := HB2.out.trans (hb3.mono HB2.out.size)
        clear b0 b1 b2 b3 b4
        obtain ⟨b0, b1, b2, b3, b4⟩ := HBOX.out w3 hb3'
        have HB3 := Lib.hid hb3'
        have HBY3 := Lib.hid (HBY.out.kept hb3')
        clear hb3 hb3'
        go_wp2_with fail
        refine (new_yes HBY3.out hdn hp1 hp2 HFIT.out).mono ?_
        rintro e w4 ⟨B, da', dc', sz, pt, rfl, hg, hB, hb4⟩
        have hB1 : w1.heap.size ≤ B := Nat.le_trans HB3.out.size hB
        have hb4' := HB3.out.trans (hb4.mono HB3.out.size)
        clear b0 b1 b2 b3 b4
        obtain ⟨b0, b1, b2, b3, b4⟩ := HBOX.out w4 hb4'
        have HB4 := Lib.hid hb4'
        have HG := Lib.hid hg
        have HBB := Lib.hid hB1
        clear hg hB hb4 hb4' hB1
        have HBX4 := Lib.hid (show ∀ wr, Below w1.heap.size w1 wr → wr.cell? ⟨w.heap.size, 3, none⟩ = some (.int .i64 tr) from fun wr h => (HBOX.out wr h).2.2.2.1)
        have hmk2 : (Instr.makeSlice 25 (.int .i64 40) (.int .i64 40)).run Try.prog w4 = .ok (.slice (some ⟨w4.heap.size, 0, none⟩) 40 40) (w4.alloc (.cells (madeCells #[.int .i64 0] 40) 49)) := run_make_row' (P := Try.prog) 25 49 (.int .i64 0) 8 Try.underlying25 (by kernel_rfl) rfl .i64 .i64 40 (by omega) (by omega) w4
        obtain ⟨FB, hFB⟩ : ∃ FB, FB = w4.heap.size := ⟨_, rfl⟩
        obtain ⟨w5, hw5⟩ : ∃ w5, w5 = w4.alloc (.cells (madeCells #[.int .i64 0] 40) 49) := ⟨_, rfl⟩
        rw [← hFB, ← hw5] at hmk2
        have hb5 : Below w4.heap.size w4 w5 := by rw [hw5]; exact (Below.refl _ _).alloc (Nat.le_refl _) _
        have HF5 := Lib.hid (show ∃ cs : Array Value, w5.heap[FB]? = some (.cells cs 49 (0, 0)) ∧ cs.size = 40 ∧ ∀ i, i < 0 → cs[i]? = some (.int .i64 (if dn2 then 2 else 1)) from ⟨_, by rw [hw5, hFB]; exact heap_alloc_new w4 _, size_madeCells _ _, fun i hi => by omega⟩)
        have HB5 := Lib.hid (HB4.out.trans (hb5.mono HB4.out.size))
        have HG5 := Lib.hid ((hb5.block B (Array.getElem?_eq_some_iff.1 HG.out).1).trans HG.out)
        have HFBN := Lib.hid (show FB ≠ B ∧ w1.heap.size ≤ FB from ⟨by have := (Array.getElem?_eq_some_iff.1 HG.out).1; omega, by rw [hFB]; exact HB4.out.size⟩)
        clear b0 b1 b2 b3 b4 hb5 hw5 hFB
        have b0 := (HBOX.out w4 HB4.out).1
        have b1 := (HBOX.out w4 HB4.out).2.1
        have b2 := (HBOX.out w4 HB4.out).2.2.1
        have b3 := (HBOX.out w4 HB4.out).2.2.2.1
        have b4 := (HBOX.out w4 HB4.out).2.2.2.2
        go_wp2_with fail
        go_loopw [7, 37] (fun s7 s37 wr => ∃ i : Nat, i ≤ 40 ∧ s37 = .int .i64 (i : Int) ∧ Hid (∃ cs : Array Value, wr.heap[FB]? = some (.cells cs 49 (0, 0)) ∧ cs.size = 40 ∧ ∀ j, j < i → cs[j]? = some (.int .i64 (if dn2 then 2 else 1))) ∧ Hid (wr.heap[B]? = some (.cells (upA ky da' dn dc' sz pt tr wt 0 0 false 0 0) 61 (0, 0))) ∧ Hid (Below w1.heap.size w1 wr)) (fun _ s37 _ => 40 - (intOf s37).toNat)
        case atStart => exact ⟨0, by omega, rfl, HF5, HG5, HB5⟩
        case round =>
          clear HF5 HG5 HB5 b0 b1 b2 b3 b4 hmk2
          obtain ⟨i, hi, rfl, HF, HGR, HBR⟩ := hrel
          rename World => wr
          by_cases hi40 : i < 40
          case pos =>
            have zi : (i : Int) < 40 := by omega
            have zi0 : (0 : Int) ≤ (i : Int) := by omega
            have wi : IntKind.i64.wrap ((i : Int) + 1) = (i : Int) + 1 := IntWalk.i64_in _ (by omega)
            obtain ⟨cs, hcs, hsz, hval⟩ := HF.out
            obtain ⟨cv, cfi⟩ : ∃ cv, wr.cell? ⟨FB, i, none⟩ = some cv := ⟨_, cell_blk hcs (Array.getElem?_eq_some_iff.2 ⟨show i < cs.size by omega, rfl⟩)⟩
            have ffi := fro_blk hcs i
            have hs1 := heap_set hcs i (.int .i64 1)
            have cf2 : (wr.setCell ⟨FB, i, none⟩ (.int .i64 1)).cell? ⟨FB, i, none⟩ = some (.int .i64 1) := cell_blk hs1 (by rw [Array.getElem?_setIfInBounds_self_of_lt (by omega)])
            have ff2 := fro_blk hs1 i
            have hs2 := heap_set hs1 i (.int .i64 2)
            have HB6 := Lib.hid (HBR.out.setCell (p := ⟨FB, i, none⟩) HFBN.out.2 (.int .i64 1))
            have HB7 := Lib.hid (HB6.out.setCell (p := ⟨FB, i, none⟩) HFBN.out.2 (.int .i64 2))
            have HG6 := Lib.hid ((Below.heap_setCell wr ⟨FB, i, none⟩ (.int .i64 1) B HFBN.out.1.symm).trans HGR.out)
            have HG7 := Lib.hid ((Below.heap_setCell (wr.setCell ⟨FB, i, none⟩ (.int .i64 1)) ⟨FB, i, none⟩ (.int .i64 2) B HFBN.out.1.symm).trans HG6.out)
            cases dn2 with
            | false =>
              have HF6 := Lib.hid (show ∃ cs : Array Value, (wr.setCell ⟨FB, i, none⟩ (.int .i64 1)).heap[FB]? = some (.cells cs 49 (0, 0)) ∧ cs.size = 40 ∧ ∀ j, j < i + 1 → cs[j]? = some (.int .i64 (if false then 2 else 1)) from ⟨_, hs1, by rw [Array.size_setIfInBounds]; exact hsz, fun j hj => by
                by_cases e : j = i
                · subst e; rw [Array.getElem?_setIfInBounds_self_of_lt (by omega)]; rfl
                · rw [Array.getElem?_setIfInBounds_ne (fun h => e h.symm)]; exact hval j (by omega)⟩)
              clear hcs hsz hval hs1 hs2 cf2 ff2
              go_wp2_with fail
              go_roundw
              case rel => exact ⟨i + 1, by omega, by go_num, HF6, HG6, HB6⟩
              case measure => simp [intOf]; omega
            | true =>
              have HF7 := Lib.hid (show ∃ cs : Array Value, ((wr.setCell ⟨FB, i, none⟩ (.int .i64 1)).setCell ⟨FB, i, none⟩ (.int .i64 2)).heap[FB]? = some (.cells cs 49 (0, 0)) ∧ cs.size = 40 ∧ ∀ j, j < i + 1 → cs[j]? = some (.int .i64 (if true then 2 else 1)) from ⟨_, hs2, by rw [Array.size_setIfInBounds, Array.size_setIfInBounds]; exact hsz, fun j hj => by
                by_cases e : j = i
                · subst e; rw [Array.getElem?_setIfInBounds_self_of_lt (by rw [Array.size_setIfInBounds]; omega)]; rfl
                · rw [Array.getElem?_setIfInBounds_ne (fun h => e h.symm), Array.getElem?_setIfInBounds_ne (fun h => e h.symm)]; exact hval j (by omega)⟩)
              clear hcs hsz hval hs1 hs2
              go_wp2_with fail
              go_roundw
              case rel => exact ⟨i + 1, by omega, by go_num, HF7, HG7, HB7⟩
              case measure => simp [intOf]; omega
          case neg =>
            have zi : ¬ (i : Int) < 40 := by omega
            obtain rfl : i = 40 := by omega
            obtain ⟨fv, hfv⟩ : ∃ fv : Int, fv = if dn2 then 2 else 1 := ⟨_, rfl⟩
            have hfv2 : fv = 1 ∨ fv = 2 := by rw [hfv]; cases dn2 <;> simp
            have hFBlt : FB < wr.heap.size := by
              obtain ⟨cs, h1, _⟩ := HF.out
              exact (Array.getElem?_eq_some_iff.1 h1).1
            have hBlt := (Array.getElem?_eq_some_iff.1 HGR.out).1
            have hal : Below wr.drew.heap.size wr.drew (wr.drew.alloc (.cells #[.slice none 0 0, .slice none 0 0, .int .i64 0, .int .i64 0, .int .i64 0] 34)) := (Below.refl _ _).alloc (Nat.le_refl _) _
            have HRA := Lib.hid (show RunAt w1 w1.heap.size (wr.drew.alloc (.cells #[.slice none 0 0, .slice none 0 0, .int .i64 0, .int .i64 0, .int .i64 0] 34)).heap.size B wr.drew.heap.size FB ky da' dn dc' sz pt tr wt fv 0 false 0 0 (wr.drew.alloc (.cells #[.slice none 0 0, .slice none 0 0, .int .i64 0, .int .i64 0, .int .i64 0] 34)) from by
              have hsz9 : (wr.drew.alloc (.cells #[.slice none 0 0, .slice none 0 0, .int .i64 0, .int .i64 0, .int .i64 0] 34)).heap.size = wr.heap.size + 1 := by simp
              have hsd : wr.drew.heap.size = wr.heap.size := rfl
              have hcw := HBR.out.size
              refine ⟨.inl ⟨by omega, (hal.block B hBlt).trans ?_⟩, ⟨none, 0, fun _ => 0, heap_alloc_new wr.drew _, World.ownsRow_nil _ _ _ _⟩, ?_, HBR.out.drew.trans (hal.mono hcw), Nat.le_refl _, ?_⟩
              · rw [show wt * 2 ^ 0 - wt = 0 by rw [Int.pow_zero, Int.mul_one, Int.sub_self]]
                exact HGR.out
              · obtain ⟨cs, h1, _, h3⟩ := HF.out
                exact ⟨cs, (hal.block FB hFBlt).trans h1, fun i hi => by rw [hfv]; exact h3 i hi⟩
              · have h1 := HFBN.out
                have h2 := HBB.out
                refine ⟨by omega, by omega, by omega, by omega, by omega, h1.1, h2, by omega, by omega⟩)
            have HRUN := Lib.hid (run_any HRA.out ⟨ht1, ht8⟩ ⟨hw0, hw20i⟩ hfv2)
            have HBXR := Lib.hid (HBX4.out wr.drew HBR.out.drew)
            clear hfv hfv2 hFBlt hBlt hal
            go_wp2_with fail
            refine wp_region_inv (by kernel_rfl) (by kernel_rfl) (by kernel_rfl) (RnI wr.drew B FB w.heap.size tr (fun w' => ∃ (f m : Nat) (nw : Int), (f : Int) = tr ∧ RunAt w1 w1.heap.size (wr.drew.alloc (.cells #[.slice none 0 0, .slice none 0 0, .int .i64 0, .int .i64 0, .int .i64 0] 34)).heap.size B wr.drew.heap.size FB ky da' dn dc' sz pt tr wt fv f false m nw w')) (fun V => ⟨fun _ h => Bool.noConfusion h, fun _ => rfl, fun h => Bool.noConfusion h, fun h => Bool.noConfusion h, fun h => Bool.noConfusion h, fun h => Bool.noConfusion h⟩) ?_ ?_
            · intro j o ho L V w9 K hI hL hdep hK
              have HI := Lib.hid hI
              have hin : j < 14 := (Array.getElem?_eq_some_iff.1 ho).1
              have hcs : j = 0 ∨ j = 1 ∨ j = 2 ∨ j = 3 ∨ j = 4 ∨ j = 5 ∨ j = 6 ∨ j = 7 ∨ j = 8 ∨ j = 9 ∨ j = 10 ∨ j = 11 ∨ j = 12 ∨ j = 13 := by omega
              clear hin
              rcases hcs with rfl | rfl | rfl | rfl | rfl | rfl | rfl | rfl | rfl | rfl | rfl | rfl | rfl | rfl
              · obtain rfl := Option.some.inj ho.symm
                clear hdep ho hI hL
                try simp only [fill, slotOf, List.size_toArray, List.length_cons, List.length_nil, Nat.reduceAdd, List.getElem?_toArray, List.getElem?_cons_zero, List.getElem?_cons_succ, Option.bind_some, Act.put, List.setIfInBounds_toArray, List.set_cons_zero, List.set_cons_succ] at hK ⊢
                go_simp
                exact hK (.pointer (some ⟨B, 0, none⟩)) _ (HI.out.put 0 _ (by decide) (by decide) (.inl (by decide)) rfl) _ rfl
              · obtain rfl := Option.some.inj ho.symm
                clear hdep ho hI hL
                try simp only [fill, slotOf, List.size_toArray, List.length_cons, List.length_nil, Nat.reduceAdd, List.getElem?_toArray, List.getElem?_cons_zero, List.getElem?_cons_succ, Option.bind_some, Act.put, List.setIfInBounds_toArray, List.set_cons_zero, List.set_cons_succ] at hK ⊢
                go_simp
                exact hK (.agg #[.slice none 0 0, .slice none 0 0, .int .i64 0, .int .i64 0, .int .i64 0]) _ (HI.out.put 1 _ (by decide) (by decide) (.inl (by decide)) rfl) _ rfl
              · obtain rfl := Option.some.inj ho.symm
                have d1 : V 1 = .agg #[.slice none 0 0, .slice none 0 0, .int .i64 0, .int .i64 0, .int .i64 0] := hI.val 1 (hdep ⟨1, .data⟩ (by simp) rfl)
                have hw := hI.s0 hL
                subst hw
                clear hdep ho hI
                try simp only [fill, slotOf, List.size_toArray, List.length_cons, List.length_nil, Nat.reduceAdd, List.getElem?_toArray, List.getElem?_cons_zero, List.getElem?_cons_succ, Option.bind_some, Act.put, List.setIfInBounds_toArray, List.set_cons_zero, List.set_cons_succ] at hK ⊢
                rw [d1] at hK ⊢
                go_simp
                exact hK (.pointer (some ⟨wr.drew.heap.size, 0, none⟩)) _ (HI.out.box hL) _ rfl
              · obtain rfl := Option.some.inj ho.symm
                clear hdep ho hI hL
                try simp only [fill, slotOf, List.size_toArray, List.length_cons, List.length_nil, Nat.reduceAdd, List.getElem?_toArray, List.getElem?_cons_zero, List.getElem?_cons_succ, Option.bind_some, Act.put, List.setIfInBounds_toArray, List.set_cons_zero, List.set_cons_succ] at hK ⊢
                go_simp
                exact hK (.slice (some ⟨FB, 0, none⟩) 40 40) _ (HI.out.put 3 _ (by decide) (by decide) (.inl (by decide)) rfl) _ rfl
              · obtain rfl := Option.some.inj ho.symm
                have d0 : V 0 = .pointer (some ⟨B, 0, none⟩) := hI.val 0 (hdep ⟨0, .data⟩ (by simp) rfl)
                have d2 : V 2 = .pointer (some ⟨wr.drew.heap.size, 0, none⟩) := hI.val 2 (hdep ⟨2, .data⟩ (by simp) rfl)
                have d3 : V 3 = .slice (some ⟨FB, 0, none⟩) 40 40 := hI.val 3 (hdep ⟨3, .data⟩ (by simp) rfl)
                have l2 := hdep ⟨2, .data⟩ (by simp) rfl
                have hw := hI.s1 l2 hL
                subst hw
                clear hdep ho hI hL
                try simp only [fill, slotOf, List.size_toArray, List.length_cons, List.length_nil, Nat.reduceAdd, List.getElem?_toArray, List.getElem?_cons_zero, List.getElem?_cons_succ, Option.bind_some, Act.put, List.setIfInBounds_toArray, List.set_cons_zero, List.set_cons_succ] at hK ⊢
                rw [d0, d2, d3] at hK ⊢
                go_simp
                refine HRUN.out.mono ?_
                rintro e w8 ⟨rfl, hp8⟩
                exact hK (.int .i64 tr) _ (HI.out.call l2 hp8) _ rfl
              · obtain rfl := Option.some.inj ho.symm
                clear hdep ho hI hL
                try simp only [fill, slotOf, List.size_toArray, List.length_cons, List.length_nil, Nat.reduceAdd, List.getElem?_toArray, List.getElem?_cons_zero, List.getElem?_cons_succ, Option.bind_some, Act.put, List.setIfInBounds_toArray, List.set_cons_zero, List.set_cons_succ] at hK ⊢
                go_simp
                exact hK (.pointer (some ⟨w.heap.size, 3, none⟩)) _ (HI.out.put 5 _ (by decide) (by decide) (.inl (by decide)) rfl) _ rfl
              · obtain rfl := Option.some.inj ho.symm
                have d5 : V 5 = .pointer (some ⟨w.heap.size, 3, none⟩) := hI.val 5 (hdep ⟨5, .data⟩ (by simp) rfl)
                have cc := hI.cell HBXR.out (fun w' ⟨f, m, nw, _, hra⟩ => HBX4.out w' hra.bel)
                clear hdep ho hI hL
                try simp only [fill, slotOf, List.size_toArray, List.length_cons, List.length_nil, Nat.reduceAdd, List.getElem?_toArray, List.getElem?_cons_zero, List.getElem?_cons_succ, Option.bind_some, Act.put, List.setIfInBounds_toArray, List.set_cons_zero, List.set_cons_succ] at hK ⊢
                rw [d5] at hK ⊢
                go_simp
                exact hK (.int .i64 tr) _ (HI.out.put 6 _ (by decide) (by decide) (.inl (by decide)) rfl) _ rfl
              · obtain rfl := Option.some.inj ho.symm
                have d4 : V 4 = .int .i64 tr := hI.val 4 (hdep ⟨4, .data⟩ (by simp) rfl)
                have d6 : V 6 = .int .i64 tr := hI.val 6 (hdep ⟨6, .data⟩ (by simp) rfl)
                have l4 := hdep ⟨4, .data⟩ (by simp) rfl
                clear hdep ho hI hL
                try simp only [fill, slotOf, List.size_toArray, List.length_cons, List.length_nil, Nat.reduceAdd, List.getElem?_toArray, List.getElem?_cons_zero, List.getElem?_cons_succ, Option.bind_some, Act.put, List.setIfInBounds_toArray, List.set_cons_zero, List.set_cons_succ] at hK ⊢
                rw [d4, d6] at hK ⊢
                go_simp
                exact hK (.bool true) _ (HI.out.put 7 _ (by decide) (by decide) (.inr l4) rfl) _ rfl
              · obtain rfl := Option.some.inj ho.symm
                have d7 : V 7 = .bool true := hI.val 7 (hdep ⟨7, .data⟩ (by simp) rfl)
                have l4 := hI.d7 (hdep ⟨7, .data⟩ (by simp) rfl)
                clear hdep ho hI hL
                try simp only [fill, slotOf, List.size_toArray, List.length_cons, List.length_nil, Nat.reduceAdd, List.getElem?_toArray, List.getElem?_cons_zero, List.getElem?_cons_succ, Option.bind_some, Act.put, List.setIfInBounds_toArray, List.set_cons_zero, List.set_cons_succ] at hK ⊢
                rw [d7] at hK ⊢
                go_simp
                exact hK (.bool true) _ (HI.out.put 8 _ (by decide) (by decide) (.inr l4) rfl) _ rfl
              · obtain rfl := Option.some.inj ho.symm
                have d8 : V 8 = .bool true := hI.val 8 (hdep ⟨8, .guard⟩ (by simp) rfl)
                clear hdep ho hI hL
                try simp only [fill, slotOf, List.size_toArray, List.length_cons, List.length_nil, Nat.reduceAdd, List.getElem?_toArray, List.getElem?_cons_zero, List.getElem?_cons_succ, Option.bind_some, Act.put, List.setIfInBounds_toArray, List.set_cons_zero, List.set_cons_succ] at hK ⊢
                rw [d8] at hK ⊢
                go_simp
                exact hK (.pointer (some ⟨B, 0, none⟩)) _ (HI.out.put 9 _ (by decide) (by decide) (.inl (by decide)) rfl) _ rfl
              · obtain rfl := Option.some.inj ho.symm
                have d9 : V 9 = .pointer (some ⟨B, 0, none⟩) := hI.val 9 (hdep ⟨9, .data⟩ (by simp) rfl)
                have d8 : V 8 = .bool true := hI.val 8 (hdep ⟨8, .guard⟩ (by simp) rfl)
                have hst : ∃ rd ff, w9.heap[B]? = some (.cells (upA ky da' dn dc' sz pt tr wt ff rd false 5 2) 61 (0, 0)) := by
                  obtain ⟨⟨f, m, nw, hf, hra⟩, _⟩ := hI.s2 (hI.d8 (hdep ⟨8, .guard⟩ (by simp) rfl))
                  rcases hra.up with ⟨h1, _⟩ | ⟨_, _, rd, h2⟩
                  · omega
                  · exact ⟨rd, _, h2⟩
                clear hdep ho hI hL
                try simp only [fill, slotOf, List.size_toArray, List.length_cons, List.length_nil, Nat.reduceAdd, List.getElem?_toArray, List.getElem?_cons_zero, List.getElem?_cons_succ, Option.bind_some, Act.put, List.setIfInBounds_toArray, List.set_cons_zero, List.set_cons_succ] at hK ⊢
                rw [d9, d8] at hK ⊢
                go_simp
                refine hst.elim fun rd hst => hst.elim fun ff hg => ?_
                refine (state_any hg).mono ?_
                rintro e w8 ⟨rfl, rfl⟩
                exact hK (.int .i64 2) _ (HI.out.put 10 _ (by decide) (by decide) (.inl (by decide)) rfl) _ rfl
              · obtain rfl := Option.some.inj ho.symm
                have d10 : V 10 = .int .i64 2 := hI.val 10 (hdep ⟨10, .data⟩ (by simp) rfl)
                have d8 : V 8 = .bool true := hI.val 8 (hdep ⟨8, .guard⟩ (by simp) rfl)
                clear hdep ho hI hL
                try simp only [fill, slotOf, List.size_toArray, List.length_cons, List.length_nil, Nat.reduceAdd, List.getElem?_toArray, List.getElem?_cons_zero, List.getElem?_cons_succ, Option.bind_some, Act.put, List.setIfInBounds_toArray, List.set_cons_zero, List.set_cons_succ] at hK ⊢
                rw [d10, d8] at hK ⊢
                go_simp
                exact hK (.bool true) _ (HI.out.put 11 _ (by decide) (by decide) (.inl (by decide)) rfl) _ rfl
              · obtain rfl := Option.some.inj ho.symm
                have d8 : V 8 = .bool true := hI.val 8 (hdep ⟨8, .data⟩ (by simp) rfl)
                have d11 : V 11 = .bool true := hI.val 11 (hdep ⟨11, .data⟩ (by simp) rfl)
                clear hdep ho hI hL
                try simp only [fill, slotOf, List.size_toArray, List.length_cons, List.length_nil, Nat.reduceAdd, List.getElem?_toArray, List.getElem?_cons_zero, List.getElem?_cons_succ, Option.bind_some, Act.put, List.setIfInBounds_toArray, List.set_cons_zero, List.set_cons_succ] at hK ⊢
                rw [d8, d11] at hK ⊢
                go_simp
                exact hK (.bool true) _ (HI.out.put 12 _ (by decide) (by decide) (.inl (by decide)) rfl) _ rfl
              · obtain rfl := Option.some.inj ho.symm
                have d12 : V 12 = .bool true := hI.val 12 (hdep ⟨12, .data⟩ (by simp) rfl)
                clear hdep ho hI hL
                try simp only [fill, slotOf, List.size_toArray, List.length_cons, List.length_nil, Nat.reduceAdd, List.getElem?_toArray, List.getElem?_cons_zero, List.getElem?_cons_succ, Option.bind_some, Act.put, List.setIfInBounds_toArray, List.set_cons_zero, List.set_cons_succ] at hK ⊢
                rw [d12] at hK ⊢
                go_simp
                exact hK (.bool true) _ (HI.out.put 13 _ (by decide) (by decide) (.inl (by decide)) rfl) _ rfl
            · intro L V w9 hI hall
              have d13 : V 13 = .bool true := hI.val 13 (hall 13 (by decide))
              obtain ⟨⟨f, m, nw, hf, hra⟩, _⟩ := hI.s2 (hall 4 (by decide))
              have HBF := Lib.hid (HB1.out.trans (hra.bel.mono HB1.out.size))
              clear hall hI hra hf
              simp only [fill, slotOf, List.size_toArray, List.length_cons, List.length_nil, Nat.reduceAdd, List.getElem?_toArray, List.getElem?_cons_zero, List.getElem?_cons_succ, Option.bind_some, Act.put, List.setIfInBounds_toArray, List.set_cons_zero, List.set_cons_succ]
              rw [d13]
              clear d13
              go_wp2_with fail
              go_ret
              exact ⟨rfl, HBF.out⟩
end Go.Proofs.Ytpgpgpbckjginaa
