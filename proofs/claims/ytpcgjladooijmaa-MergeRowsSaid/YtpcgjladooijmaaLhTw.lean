/- The document's twins of rows, walked (XTwins without record.Sort's texts). -/
import Derived.Test.YtpcgjladooijmaaRowRows
import Derived.Test.YtpcgjladooijmaaSortPlain
import Derived.Deep.MidRow
namespace Go.Proofs.Ytpcgjladooijmaa
open Go.RowKit LabPlain RecPlain
set_option linter.unusedVariables false

theorem grown_of {B : Nat} {w w' : World} (h : Turns1 B w w') : w.grownBy w' (some B) := ⟨h.os, h.tape, h.output, h.size, fun k hk hne => h.block k hk (fun e => hne (by rw [e]))⟩
set_option maxRecDepth 100000 in
set_option maxHeartbeats 4000000 in
theorem twins_any {w : World} {a : Option Addr} {n c : Nat} {l : List RowV} (h : RowsAt w a n c l) (hn : n ≤ 1000) :
    Calls Try.prog 32 #[.slice a n c] w fun e w' => ∃ v rs, e = .returned v ∧ RowsOwn w' w.heap.size v n rs ∧ (∀ j, j < n → (atR rs j).says = (atR l j).says) ∧ Below w.heap.size w w' := by
  obtain ⟨i0, hi, hz0, hz1, hz2⟩ := info_parts row_info
  have hcap := h.cap
  have hcm := h.capm
  have hown1 : (w.alloc (.cells #[] 51)).ownsRow w.heap.size 51 9 (.slice (some ⟨w.heap.size, 0, none⟩) 0 0) 0 (rcells []) := World.ownsRow_lit (base := w.heap.size) (e := 51) (size := 9) w #[] 0 (Nat.le_refl _) (by unfold maxLen; omega) rfl
  have HH := Lib.hid h
  have HL := Lib.hid h.len
  have HO1 := Lib.hid (show RowsOwn (w.alloc (.cells #[] 51)) w.heap.size (.slice (some ⟨w.heap.size, 0, none⟩) 0 0) 0 [] from ⟨rfl, hown1, (fun x hx => by cases hx), (fun x hx => by cases hx)⟩)
  have HB1 := Lib.hid ((Below.refl w.heap.size w).alloc (Nat.le_refl _) (.cells #[] 51))
  clear h hown1
  go_enter Try.func32, Try.ntmps32
  go_wp2_with fail
  go_loopw [3, 5, 9] (fun s3 s5 s9 wr => ∃ (k : Nat) (rs : List RowV), k ≤ n ∧ s9 = .int .i64 (k : Int) ∧ Hid (RowsOwn wr w.heap.size s3 k rs) ∧ Hid (∀ j, j < k → (atR rs j).says = (atR l j).says) ∧ Hid (Below w.heap.size w wr)) (fun _ _ s9 _ => n - (intOf s9).toNat)
  case atStart => exact ⟨0, [], by omega, rfl, HO1, Lib.hid (fun j hj => absurd hj (Nat.not_lt_zero _)), HB1⟩
  case round =>
    obtain ⟨k, rs, hk, rfl, HO, HS, HB⟩ := hrel
    rename World => wr
    by_cases hkn : k < n
    · have hkp := HH.out.kept HB.out
      obtain ⟨b, off, rfl, hlt, hcell⟩ := hkp.cells (by omega)
      have hlab := hkp.labs _ (row_mem (l := l) (i := k) (by have := HL.out; omega))
      have hfit := hkp.fits _ (row_mem (l := l) (i := k) (by have := HL.out; omega))
      obtain ⟨r, hr⟩ : ∃ r, r = l.getD k row0 := ⟨_, rfl⟩
      obtain ⟨d0, d1, d2, d3, d4, d5, d6, d7, d8⟩ := RowsAt.nine hcell hkn hr
      have HR := Lib.hid hr
      rw [← hr] at hlab hfit
      clear hr hcell hkp
      obtain ⟨⟨kd, tm, la, ln, lc, L, tx, v, nl⟩, mk, sq, pl⟩ := r
      simp only at d0 d1 d2 d3 d4 d5 d6 d7 d8 hlab
      have hb2 : Below wr.heap.size wr (wr.alloc (.cells #[.int .i64 kd, .int .i64 tm, .slice la ln lc, .string tx, .int .i64 v, .bool nl, .int .i64 mk, .int .i64 sq, .int .i64 pl] 51)) := (Below.refl _ _).alloc (Nat.le_refl _) _
      have HCP := Lib.hid (rectwin_any (k := kd) (t := tm) (tx := tx) (v := v) (nl := nl) hfit.1.2.2.2.2 (hlab.kept hb2))
      have HSZ := Lib.hid (And.intro hlab.len hlab.size)
      have HF := Lib.hid hfit
      have HB2 := Lib.hid hb2
      clear hb2 hlab hfit
      go_wp2_with fail
      refine HCP.out.mono ?_
      rintro e w3 ⟨la', lc', rfl, hown, hb3⟩
      have hg3 : w3.heap[wr.heap.size]? = some (.cells #[.int .i64 kd, .int .i64 tm, .slice la ln lc, .string tx, .int .i64 v, .bool nl, .int .i64 mk, .int .i64 sq, .int .i64 pl] 51 (0, 0)) := (hb3.block _ (Array.getElem?_eq_some_iff.1 (heap_alloc_new wr _)).1).trans (heap_alloc_new wr _)
      have hth : w3.there wr.heap.size 0 6 := fun q hq => by
        refine ⟨?_, by simp [World.frozen?, hg3]⟩
        rw [cell_of_row _ _ _ _ _ (0, 0) hg3]
        rcases (by omega : q = 0 ∨ q = 1 ∨ q = 2 ∨ q = 3 ∨ q = 4 ∨ q = 5) with rfl | rfl | rfl | rfl | rfl | rfl <;> rfl
      have hbr3 : Below wr.heap.size wr w3 := HB2.out.trans (hb3.mono HB2.out.size)
      obtain ⟨w4, hw4⟩ : ∃ w4, w4 = w3.setCells wr.heap.size 0 [.int .i64 kd, .int .i64 tm, .slice la' ln lc', .string tx, .int .i64 v, .bool nl] := ⟨_, rfl⟩
      have hr1 : w4.rangeAt wr.heap.size 0 [.int .i64 kd, .int .i64 tm, .slice la' ln lc', .string tx, .int .i64 v, .bool nl] := by rw [hw4]; exact World.rangeAt_setCells_same w3 _ 0 _ hth
      have hr2 : w4.rangeAt wr.heap.size 6 [.int .i64 mk, .int .i64 sq, .int .i64 pl] := by
        rw [hw4]
        refine World.rangeAt_setCells_apart ?_ _ 0 _ (.inr (.inr (Nat.le_refl _)))
        intro q u hu
        rw [cell_of_row _ _ _ _ _ (0, 0) hg3]
        have hq : q < 3 := (List.getElem?_eq_some_iff.1 hu).1
        rcases (by omega : q = 0 ∨ q = 1 ∨ q = 2) with rfl | rfl | rfl <;> exact hu
      have y0 : w4.cell? ⟨wr.heap.size, 0, none⟩ = some (.int .i64 kd) := hr1 0 _ rfl
      have y1 : w4.cell? ⟨wr.heap.size, 1, none⟩ = some (.int .i64 tm) := hr1 1 _ rfl
      have y2 : w4.cell? ⟨wr.heap.size, 2, none⟩ = some (.slice la' ln lc') := hr1 2 _ rfl
      have y3 : w4.cell? ⟨wr.heap.size, 3, none⟩ = some (.string tx) := hr1 3 _ rfl
      have y4 : w4.cell? ⟨wr.heap.size, 4, none⟩ = some (.int .i64 v) := hr1 4 _ rfl
      have y5 : w4.cell? ⟨wr.heap.size, 5, none⟩ = some (.bool nl) := hr1 5 _ rfl
      have y6 : w4.cell? ⟨wr.heap.size, 6, none⟩ = some (.int .i64 mk) := hr2 0 _ rfl
      have y7 : w4.cell? ⟨wr.heap.size, 7, none⟩ = some (.int .i64 sq) := hr2 1 _ rfl
      have y8 : w4.cell? ⟨wr.heap.size, 8, none⟩ = some (.int .i64 pl) := hr2 2 _ rfl
      have ht4 : Turns1 wr.heap.size w3 w4 := by rw [hw4]; exact (Turns1.refl _ _).sets _ 0
      have hb4 : Below wr.heap.size wr w4 := ht4.old hbr3 (Nat.le_refl _) hbr3.size
      have hs1 := HB.out.size
      have hs2 : wr.heap.size < (wr.alloc (.cells #[.int .i64 kd, .int .i64 tm, .slice la ln lc, .string tx, .int .i64 v, .bool nl, .int .i64 mk, .int .i64 sq, .int .i64 pl] 51)).heap.size := (Array.getElem?_eq_some_iff.1 (heap_alloc_new wr _)).1
      have hown4 : w4.ownsRow w.heap.size 53 2 (.slice la' ln lc') ln (lcells L) := (hown.kept (grown_of ht4) (by
        cases ho : (Value.slice la' ln lc').ownBlock with
        | none => exact .inl rfl
        | some q => exact .inr (fun e => by cases e; have := (hown.lt _ ho).1; omega))).mono (by omega)
      have hfit : RowV.fits ⟨⟨kd, tm, la', ln, lc', L, tx, v, nl⟩, mk, sq, pl⟩ := ⟨⟨HF.out.1.1, HF.out.1.2.1, HF.out.1.2.2.1, HF.out.1.2.2.2.1, HF.out.1.2.2.2.2⟩, HF.out.2⟩
      have hal : Below w4.heap.size w4 (w4.alloc (.cells #[.int .i64 kd, .int .i64 tm, .slice la' ln lc', .string tx, .int .i64 v, .bool nl, .int .i64 mk, .int .i64 sq, .int .i64 pl] 51)) := (Below.refl _ _).alloc (Nat.le_refl _) _
      have HO4 := Lib.hid ((HO.out.below hb4).below hal)
      have HL4 := Lib.hid (own_below hown4 hal)
      have hbw : Below w.heap.size w (w4.alloc (.cells #[.int .i64 kd, .int .i64 tm, .slice la' ln lc', .string tx, .int .i64 v, .bool nl, .int .i64 mk, .int .i64 sq, .int .i64 pl] 51)) := (HB.out.trans (hb4.mono hs1)).trans (hal.mono (HB.out.trans (hb4.mono hs1)).size)
      have HB4 := Lib.hid hbw
      have HBA := Lib.hid hbw.size
      have HSRC := Lib.hid (row_src w4 ⟨⟨kd, tm, la', ln, lc', L, tx, v, nl⟩, mk, sq, pl⟩ 51)
      have HFIT := Lib.hid hfit
      have HW4 := Lib.hid (show w3.setCells wr.heap.size 0 (#[.int .i64 kd, .int .i64 tm, .slice la' ln lc', .string tx, .int .i64 v, .bool nl] : Array Value).toList = w4 from hw4.symm)
      have HTH := Lib.hid hth
      clear hown hb3 hbr3 hs1 hs2 hown4 hal hbw hfit hb4 ht4 hg3 hw4 hth hr1 hr2
      go_wp2_with (first | (refine wpList_store_mid rfl 43 (.tmp 16) (.tmp 15) rfl wr.heap.size 0 #[.int .i64 kd, .int .i64 tm, .slice la' ln lc', .string tx, .int .i64 v, .bool nl] rfl rfl HTH.out (by kernel_rfl) (by simp [Value.oneCell']) ?_; rw [HW4.out]) | (at_builtin; refine wpList_append_own_at _ rfl (.tmp 17) (.tmp 19) 47 rfl w.heap.size 51 i0 _ 9 96 Try.underlying47 hi hz0 hz1 hz2 rfl (by decide) _ _ _ rfl HO4.out.own ⟨w4.heap.size, 0, none⟩ 1 1 (RowV.cells ⟨⟨kd, tm, la', ln, lc', L, tx, v, nl⟩, mk, sq, pl⟩) rfl rfl HSRC.out (rcells_one _) (by unfold maxLen; omega) (by omega) HBA.out ?_))
      intro v' w5 hown' hgrow _ _
      have HO5 := Lib.hid (HO4.out.snoc HFIT.out ⟨HL4.out, HSZ.out⟩ hown' hgrow)
      have HB5 := Lib.hid (HB4.out.grown hgrow HB4.out.size (fun q hq => (HO4.out.own.lt q hq).1))
      have HS5 := Lib.hid (show ∀ j, j < k + 1 → (atR (rs ++ ([⟨⟨kd, tm, la', ln, lc', L, tx, v, nl⟩, mk, sq, pl⟩] : List RowV)) j).says = (atR l j).says from fun j hj => by
        have hlen := HO.out.len
        unfold atR
        rcases Nat.lt_or_ge j k with g | g
        · rw [show (l.getD j row0).says = (rs.getD j row0).says from (HS.out j g).symm, List.getD_eq_getElem?_getD, List.getD_eq_getElem?_getD, List.getElem?_append_left (by omega)]
        · obtain rfl : j = k := by omega
          rw [← HR.out, List.getD_eq_getElem?_getD, List.getElem?_append_right (by omega), hlen, Nat.sub_self]
          rfl)
      clear hown' hgrow
      go_wp2_with fail
      go_roundw
      case rel => exact ⟨k + 1, _, by omega, by go_num, HO5, HS5, HB5⟩
      case measure => simp [intOf]; omega
    · obtain rfl : k = n := by omega
      clear hkn
      go_wp2_with fail
      go_ret
      exact ⟨_, rs, rfl, HO.out, HS.out, HB.out⟩
end Go.Proofs.Ytpcgjladooijmaa
