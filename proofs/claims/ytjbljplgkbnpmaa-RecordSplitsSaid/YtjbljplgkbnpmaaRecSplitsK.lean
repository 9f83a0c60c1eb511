/- Put together out of XRecSplitsPl, XRecSplitsWalk. -/
import Derived.Test.YtjbljplgkbnpmaaRSpAll
import Derived.Test.YtjbljplgkbnpmaaRowRows
import Derived.Test.YtjbljplgkbnpmaaSortPlain
import Derived.Test.YtjbljplgkbnpmaaSort
import Derived.Laws.Cover1
section SecTw
/- The document's twins of rows, walked. -/
namespace Go.Proofs.Ytjbljplgkbnpmaa
open Go.RowKit LabPlain RecPlain
set_option linter.unusedVariables false

set_option maxRecDepth 100000 in
set_option maxHeartbeats 4000000 in
theorem twins_any {w : World} {a : Option Addr} {n c : Nat} {l : List RowV} (h : RowsAt w a n c l) (hn : n ≤ 1000) :
    Calls Try.prog 40 #[.slice a n c] w fun e w' => ∃ v rs, e = .returned v ∧ RowsOwn w' w.heap.size v n rs ∧ (∀ j, j < n → (atR rs j).says = (atR l j).says) ∧ Below w.heap.size w w' := by
  obtain ⟨i0, hi, hz0, hz1, hz2⟩ := info_parts row_info
  have hcap := h.cap
  have hcm := h.capm
  have hown1 : (w.alloc (.cells #[] 62)).ownsRow w.heap.size 62 9 (.slice (some ⟨w.heap.size, 0, none⟩) 0 0) 0 (rcells []) := World.ownsRow_lit (base := w.heap.size) (e := 62) (size := 9) w #[] 0 (Nat.le_refl _) (by unfold maxLen; omega) rfl
  have HH := Lib.hid h
  have HL := Lib.hid h.len
  have HO1 := Lib.hid (show RowsOwn (w.alloc (.cells #[] 62)) w.heap.size (.slice (some ⟨w.heap.size, 0, none⟩) 0 0) 0 [] from ⟨rfl, hown1, (fun x hx => by cases hx), (fun x hx => by cases hx)⟩)
  have HB1 := Lib.hid ((Below.refl w.heap.size w).alloc (Nat.le_refl _) (.cells #[] 62))
  clear h hown1
  go_enter Try.func40, Try.ntmps40
  go_wp2_with fail
  go_loopw [3, 5, 9] (fun s3 s5 s9 wr => ∃ (k : Nat) (rs : List RowV), k ≤ n ∧ s9 = .int .i64 (k : Int) ∧ Hid (RowsOwn wr w.heap.size s3 k rs) ∧ Hid (∀ j, j < k → (atR rs j).says = (atR l j).says) ∧ Hid (Below w.heap.size w wr)) (fun _ _ s9 _ => n - (intOf s9).toNat)
  case atStart => exact ⟨0, [], by omega, rfl, HO1, Lib.hid (fun j hj => absurd hj (Nat.not_lt_zero _)), HB1⟩
  case round =>
    obtain ⟨k, rs, hk, rfl, HO, HS, HB⟩ := hrel
    rename World => wr
    by_cases hkn : k < n
    · have hkp := HH.out.kept HB.out
      obtain ⟨b, off, rfl, hlt, hcell⟩ := hkp.cells (by omega)
      have hlab := hkp.labs _ (row_mem (l := l) (i := k) (by have := HL.out; omega))
      have hfit := hkp.fits _ (row_mem (l := l) (i := k) (by have := HL.out; omega))
      obtain ⟨r, hr⟩ : ∃ r, r = l.getD k row0 := ⟨_, rfl⟩
      obtain ⟨d0, d1, d2, d3, d4, d5, d6, d7, d8⟩ := RowsAt.nine hcell hkn hr
      have HR := Lib.hid hr
      rw [← hr] at hlab hfit
      clear hr hcell hkp
      obtain ⟨⟨kd, tm, la, ln, lc, L, tx, v, nl⟩, mk, sq, pl⟩ := r
      simp only at d0 d1 d2 d3 d4 d5 d6 d7 d8 hlab
      have hb2 : Below wr.heap.size wr (wr.alloc (.cells #[.int .i64 kd, .int .i64 tm, .slice la ln lc, .string tx, .int .i64 v, .bool nl, .int .i64 mk, .int .i64 sq, .int .i64 pl] 62)) := (Below.refl _ _).alloc (Nat.le_refl _) _
      have HCP := Lib.hid (rectwin_any (k := kd) (t := tm) (tx := tx) (v := v) (nl := nl) hfit.1.2.2.2.2 (hlab.kept hb2))
      have HSZ := Lib.hid (And.intro hlab.len hlab.size)
      have HF := Lib.hid hfit
      have HB2 := Lib.hid hb2
      clear hb2 hlab hfit
      go_wp2_with fail
      refine HCP.out.mono ?_
      rintro e w3 ⟨la', lc', rfl, hown, hb3⟩
      have hg3 : w3.heap[wr.heap.size]? = some (.cells #[.int .i64 kd, .int .i64 tm, .slice la ln lc, .string tx, .int .i64 v, .bool nl, .int .i64 mk, .int .i64 sq, .int .i64 pl] 62 (0, 0)) := (hb3.block _ (Array.getElem?_eq_some_iff.1 (heap_alloc_new wr _)).1).trans (heap_alloc_new wr _)
      have hth : w3.there wr.heap.size 0 6 := fun q hq => by
        refine ⟨?_, by simp [World.frozen?, hg3]⟩
        rw [cell_of_row _ _ _ _ _ (0, 0) hg3]
        rcases (by omega : q = 0 ∨ q = 1 ∨ q = 2 ∨ q = 3 ∨ q = 4 ∨ q = 5) with rfl | rfl | rfl | rfl | rfl | rfl <;> rfl
      have hbr3 : Below wr.heap.size wr w3 := HB2.out.trans (hb3.mono HB2.out.size)
      obtain ⟨w4, hw4⟩ : ∃ w4, w4 = w3.setCells wr.heap.size 0 [.int .i64 kd, .int .i64 tm, .slice la' ln lc', .string tx, .int .i64 v, .bool nl] := ⟨_, rfl⟩
      have hr1 : w4.rangeAt wr.heap.size 0 [.int .i64 kd, .int .i64 tm, .slice la' ln lc', .string tx, .int .i64 v, .bool nl] := by rw [hw4]; exact World.rangeAt_setCells_same w3 _ 0 _ hth
      have hr2 : w4.rangeAt wr.heap.size 6 [.int .i64 mk, .int .i64 sq, .int .i64 pl] := by
        rw [hw4]
        refine World.rangeAt_setCells_apart ?_ _ 0 _ (.inr (.inr (Nat.le_refl _)))
        intro q u hu
        rw [cell_of_row _ _ _ _ _ (0, 0) hg3]
        have hq : q < 3 := (List.getElem?_eq_some_iff.1 hu).1
        rcases (by omega : q = 0 ∨ q = 1 ∨ q = 2) with rfl | rfl | rfl <;> exact hu
      have y0 : w4.cell? ⟨wr.heap.size, 0, none⟩ = some (.int .i64 kd) := hr1 0 _ rfl
      have y1 : w4.cell? ⟨wr.heap.size, 1, none⟩ = some (.int .i64 tm) := hr1 1 _ rfl
      have y2 : w4.cell? ⟨wr.heap.size, 2, none⟩ = some (.slice la' ln lc') := hr1 2 _ rfl
      have y3 : w4.cell? ⟨wr.heap.size, 3, none⟩ = some (.string tx) := hr1 3 _ rfl
      have y4 : w4.cell? ⟨wr.heap.size, 4, none⟩ = some (.int .i64 v) := hr1 4 _ rfl
      have y5 : w4.cell? ⟨wr.heap.size, 5, none⟩ = some (.bool nl) := hr1 5 _ rfl
      have y6 : w4.cell? ⟨wr.heap.size, 6, none⟩ = some (.int .i64 mk) := hr2 0 _ rfl
      have y7 : w4.cell? ⟨wr.heap.size, 7, none⟩ = some (.int .i64 sq) := hr2 1 _ rfl
      have y8 : w4.cell? ⟨wr.heap.size, 8, none⟩ = some (.int .i64 pl) := hr2 2 _ rfl
      have ht4 : Turns1 wr.heap.size w3 w4 := by rw [hw4]; exact (Turns1.refl _ _).sets _ 0
      have hb4 : Below wr.heap.size wr w4 := ht4.old hbr3 (Nat.le_refl _) hbr3.size
      have hs1 := HB.out.size
      have hs2 : wr.heap.size < (wr.alloc (.cells #[.int .i64 kd, .int .i64 tm, .slice la ln lc, .string tx, .int .i64 v, .bool nl, .int .i64 mk, .int .i64 sq, .int .i64 pl] 62)).heap.size := (Array.getElem?_eq_some_iff.1 (heap_alloc_new wr _)).1
      have hown4 : w4.ownsRow w.heap.size 41 2 (.slice la' ln lc') ln (lcells L) := (hown.kept (grown_of ht4) (by
        cases ho : (Value.slice la' ln lc').ownBlock with
        | none => exact .inl rfl
        | some q => exact .inr (fun e => by cases e; have := (hown.lt _ ho).1; omega))).mono (by omega)
      have hfit : RowV.fits ⟨⟨kd, tm, la', ln, lc', L, tx, v, nl⟩, mk, sq, pl⟩ := ⟨⟨HF.out.1.1, HF.out.1.2.1, HF.out.1.2.2.1, HF.out.1.2.2.2.1, HF.out.1.2.2.2.2⟩, HF.out.2⟩
      have hal : Below w4.heap.size w4 (w4.alloc (.cells #[.int .i64 kd, .int .i64 tm, .slice la' ln lc', .string tx, .int .i64 v, .bool nl, .int .i64 mk, .int .i64 sq, .int .i64 pl] 62)) := (Below.refl _ _).alloc (Nat.le_refl _) _
      have HO4 := Lib.hid ((HO.out.below hb4).below hal)
      have HL4 := Lib.hid (own_below hown4 hal)
      have hbw : Below w.heap.size w (w4.alloc (.cells #[.int .i64 kd, .int .i64 tm, .slice la' ln lc', .string tx, .int .i64 v, .bool nl, .int .i64 mk, .int .i64 sq, .int .i64 pl] 62)) := (HB.out.trans (hb4.mono hs1)).trans (hal.mono (HB.out.trans (hb4.mono hs1)).size)
      have HB4 := Lib.hid hbw
      have HBA := Lib.hid hbw.size
      have HSRC := Lib.hid (row_src w4 ⟨⟨kd, tm, la', ln, lc', L, tx, v, nl⟩, mk, sq, pl⟩ 62)
      have HFIT := Lib.hid hfit
      have HW4 := Lib.hid (show w3.setCells wr.heap.size 0 (#[.int .i64 kd, .int .i64 tm, .slice la' ln lc', .string tx, .int .i64 v, .bool nl] : Array Value).toList = w4 from hw4.symm)
      have HTH := Lib.hid hth
      clear hown hb3 hbr3 hs1 hs2 hown4 hal hbw hfit hb4 ht4 hg3 hw4 hth hr1 hr2
      go_wp2_with (first | (refine wpList_store_mid rfl 54 (.tmp 16) (.tmp 15) rfl wr.heap.size 0 #[.int .i64 kd, .int .i64 tm, .slice la' ln lc', .string tx, .int .i64 v, .bool nl] rfl rfl HTH.out (by kernel_rfl) (by simp [Value.oneCell']) ?_; rw [HW4.out]) | (at_builtin; refine wpList_append_own_at _ rfl (.tmp 17) (.tmp 19) 58 rfl w.heap.size 62 i0 _ 9 96 Try.underlying58 hi hz0 hz1 hz2 rfl (by decide) _ _ _ rfl HO4.out.own ⟨w4.heap.size, 0, none⟩ 1 1 (RowV.cells ⟨⟨kd, tm, la', ln, lc', L, tx, v, nl⟩, mk, sq, pl⟩) rfl rfl HSRC.out (rcells_one _) (by unfold maxLen; omega) (by omega) HBA.out ?_))
      intro v' w5 hown' hgrow _ _
      have HO5 := Lib.hid (HO4.out.snoc HFIT.out ⟨HL4.out, HSZ.out⟩ hown' hgrow)
      have HB5 := Lib.hid (HB4.out.grown hgrow HB4.out.size (fun q hq => (HO4.out.own.lt q hq).1))
      have HS5 := Lib.hid (show ∀ j, j < k + 1 → (atR (rs ++ ([⟨⟨kd, tm, la', ln, lc', L, tx, v, nl⟩, mk, sq, pl⟩] : List RowV)) j).says = (atR l j).says from fun j hj => by
        have hlen := HO.out.len
        unfold atR
        rcases Nat.lt_or_ge j k with g | g
        · rw [show (l.getD j row0).says = (rs.getD j row0).says from (HS.out j g).symm, List.getD_eq_getElem?_getD, List.getD_eq_getElem?_getD, List.getElem?_append_left (by omega)]
        · obtain rfl : j = k := by omega
          rw [← HR.out, List.getD_eq_getElem?_getD, List.getElem?_append_right (by omega), hlen, Nat.sub_self]
          rfl)
      clear hown' hgrow
      go_wp2_with fail
      go_roundw
      case rel => exact ⟨k + 1, _, by omega, by go_num, HO5, HS5, HB5⟩
      case measure => simp [intOf]; omega
    · obtain rfl : k = n := by omega
      clear hkn
      go_wp2_with fail
      go_ret
      exact ⟨_, rs, rfl, HO.out, HS.out, HB.out⟩
end Go.Proofs.Ytjbljplgkbnpmaa
end SecTw
section SecRecSplitsK0
/- Toward RecordSplits, plainly: two ways of parting rows that say the same part them alike. -/
namespace Go.Proofs.Ytjbljplgkbnpmaa
open Go.ChangeShapes Go.WideShapes Go.Deep Go.RowKit LabPlain RecPlain Gath Stab
set_option linter.unusedVariables false

theorem inv_map {α β κ : Type} [DecidableEq κ] {kf : α → κ} {kg : β → κ} {L : List (κ × List α)} {xs : List α} (f : α → β) (hk : ∀ x, kg (f x) = kf x) (h : Gath.Inv kf L xs) : Gath.Inv kg (L.map fun p => (p.1, p.2.map f)) (xs.map f) := by
  refine ⟨?_, ?_, ?_, ?_⟩
  · rw [List.pairwise_map]; exact h.nodup
  · intro p hp
    obtain ⟨q, hq, rfl⟩ := List.mem_map.1 hp
    show q.2.map f = _
    rw [h.rows q hq, List.filter_map]
    congr 1
    apply List.filter_congr
    intro x _
    show _ = decide (kg (f x) = q.1)
    rw [hk]
  · intro p hp
    obtain ⟨q, hq, rfl⟩ := List.mem_map.1 hp
    show q.2.map f ≠ []
    have := h.full q hq
    simpa using this
  · intro y hy
    obtain ⟨x, hx, rfl⟩ := List.mem_map.1 hy
    obtain ⟨q, hq, e⟩ := h.cover x hx
    exact ⟨_, List.mem_map_of_mem hq, by rw [hk]; exact e⟩
def says2 (p : Pl × List RowV) : Pl × List Say := (p.1, p.2.map RowV.says)
theorem splits_same {w1 w1' w2 w2' : World} {a1 a2 : Option Addr} {n1 c1 n2 c2 n : Nat} {win : Int} {ss : List ByteArray} {l0 l l1 rs rs' : List RowV} {gs gs' : List GV} (h : SplitOut w1 w1' a1 n1 c1 win ss l0 l1 rs gs n) (h' : RSplitOut w2 w2' a2 n2 c2 win ss l rs' gs' n)
    (hl0 : l0.length = n) (hl : l.length = n) (hs : ∀ j, j < n → (atR l0 j).says = (atR l j).says) : gs.map (fun g => says2 g.pair) = gs'.map (fun g => says2 g.pair) := by
  have hsay : l0.map RowV.says = l.map RowV.says := by rw [← list_says hl0, ← list_says hl]; exact List.map_congr_left fun i hi => hs i (List.mem_range.1 hi)
  have e1 := sorted_says h.says h.stab hl0 h.len
  have e2 : rs'.map RowV.says = sortB ltS (l.map RowV.says) := sorted_says (l1 := l) (fun _ _ => rfl) h'.stab hl h'.len
  have i1 := inv_map (kg := fun s : Say => plS win ss (rowOf s)) RowV.says (fun _ => rfl) h.inv
  have i2 := inv_map (kg := fun s : Say => plS win ss (rowOf s)) RowV.says (fun _ => rfl) h'.inv
  rw [e1, hsay, ← e2] at i1
  have h3 := same_groups i1 i2 (by
    unfold RisingG
    rw [List.pairwise_map, List.pairwise_map]; exact h.up) (by
    unfold RisingG
    rw [List.pairwise_map, List.pairwise_map]; exact h'.up)
  rw [List.map_map, List.map_map] at h3
  exact h3
theorem splits_at {gs gs' : List GV} (h : gs.map (fun g => says2 g.pair) = gs'.map (fun g => says2 g.pair)) : gs.length = gs'.length ∧ ∀ i, i < gs.length → (gs.getD i grp0).win = (gs'.getD i grp0).win ∧ (gs.getD i grp0).part = (gs'.getD i grp0).part ∧ sameRs (gs.getD i grp0).rows (gs'.getD i grp0).rows = true := by
  have hl : gs.length = gs'.length := by simpa using congrArg List.length h
  refine ⟨hl, fun i hi => ?_⟩
  have h1 := congrArg (fun t => t[i]?) h
  simp only [List.getElem?_map] at h1
  rw [List.getElem?_eq_getElem hi, List.getElem?_eq_getElem (by omega)] at h1
  have h2 : says2 gs[i].pair = says2 gs'[i].pair := by simpa using h1
  have e1 : gs.getD i grp0 = gs[i] := by simp [hi]
  have e2 : gs'.getD i grp0 = gs'[i]'(by omega) := by simp [show i < gs'.length by omega]
  rw [e1, e2]
  unfold says2 at h2
  have h3 := Prod.mk.inj h2
  have h4 : gs[i].key = gs'[i].key := h3.1
  unfold GV.key at h4
  have h5 := Prod.mk.inj h4
  exact ⟨h5.1, h5.2, sameRs_says h3.2⟩
end Go.Proofs.Ytjbljplgkbnpmaa
end SecRecSplitsK0
section SecRecSplitsK1
/- The law RecordSplits, walked. Written by genrecsplits.py. -/
namespace Go.Proofs.Ytjbljplgkbnpmaa
open Go.ChangeShapes Go.WideShapes Go.Deep Go.RowKit LabPlain RecPlain Gath Stab
set_option linter.unusedVariables false

set_option maxRecDepth 100000 in
theorem split_none (a b : Option Addr) (n c m d : Nat) (win : Int) (hw : win < 1) (w : World) :
    Calls Try.prog 47 #[.slice a n c, .int .i64 win, .slice b m d] w fun e w' => e = .returned (.slice none 0 0) ∧ Below w.heap.size w w' := by
  go_enter Try.func47, Try.ntmps47
  go_wp2_with fail
  go_ret
  exact ⟨rfl, Below.refl _ _⟩

set_option maxRecDepth 100000 in
set_option maxHeartbeats 8000000 in
theorem record_splits (a : Option Addr) (n c : Nat) (l : List RowV) (win : Int) (b : Option Addr) (m d : Nat) (ss : List ByteArray) (w : World) (h : RowsAt w a n c l) (hwf : (Lit.int .i64 win).wf = true) (h' : StrsAt w b m d ss) :
    Calls Try.prog 10 #[.slice a n c, .int .i64 win, .slice b m d] w fun e w' => e = .returned (.bool true) ∧ Below w.heap.size w w' := by
  have hwb : -9223372036854775808 ≤ win ∧ win ≤ 9223372036854775807 := by simpa [Lit.wf, IntKind.min, IntKind.max, IntKind.signed, IntKind.bits] using hwf
  have hcap := h.cap
  have hcm := h.capm
  have HH := Lib.hid h
  have HS := Lib.hid h'
  have HL := Lib.hid h.len
  have HWB := Lib.hid hwb
  clear h h' hwf hwb
  by_cases c1 : (60 : Int) < (n : Int)
  case pos =>
    go_enter Try.func10, Try.ntmps10
    go_wp2_with fail
    refine (lives9_any _).mono ?_
    rintro e w2 ⟨rfl, hb2⟩
    have HB2 := Lib.hid hb2
    clear hb2
    go_wp2_with fail
    refine (lives9_any _).mono ?_
    rintro e w3 ⟨rfl, hb3⟩
    have HB3 := Lib.hid (HB2.out.trans (hb3.mono HB2.out.size))
    clear hb3
    go_wp2_with fail
    go_ret
    exact ⟨rfl, HB3.out⟩
  by_cases c2 : (20 : Int) < (m : Int)
  case pos =>
    go_enter Try.func10, Try.ntmps10
    go_wp2_with fail
    refine (lives9_any _).mono ?_
    rintro e w2 ⟨rfl, hb2⟩
    have HB2 := Lib.hid hb2
    clear hb2
    go_wp2_with fail
    refine (lives9_any _).mono ?_
    rintro e w3 ⟨rfl, hb3⟩
    have HB3 := Lib.hid (HB2.out.trans (hb3.mono HB2.out.size))
    clear hb3
    go_wp2_with fail
    go_ret
    exact ⟨rfl, HB3.out⟩
  have HN60 := Lib.hid (show n ≤ 60 by omega)
  by_cases cw : win < 1
  case pos =>
    go_enter Try.func10, Try.ntmps10
    go_wp2_with fail
    refine (lives9_any _).mono ?_
    rintro e w2 ⟨rfl, hb2⟩
    have HB2 := Lib.hid hb2
    clear hb2
    go_wp2_with fail
    refine (twins_any (HH.out.kept HB2.out) (by have := HN60.out; omega)).mono ?_
    rintro e w3 ⟨v3, l3, rfl, hown3, hs3, hb3⟩
    have HB3 := Lib.hid (HB2.out.trans (hb3.mono HB2.out.size))
    obtain ⟨a3, c3, rfl, hat3⟩ := hown3.at
    have HO3 := Lib.hid hat3
    have HS3 := Lib.hid hs3
    have HSAME := Lib.hid (show sameRs l3 l = true from by
      unfold sameRs
      rw [decide_eq_true (by rw [hat3.len, HL.out]), sameTo_yes (fun j hj => hs3 j (by rw [← hat3.len]; exact hj))]
      rfl)
    have hcap3 := hat3.cap
    have hcm3 := hat3.capm
    clear hown3 hs3 hb3 hat3
    go_wp2_with fail
    refine (split_none _ _ _ _ _ _ win cw _).mono ?_
    rintro e w4 ⟨rfl, hb4⟩
    have HB4 := Lib.hid (HB3.out.trans (hb4.mono HB3.out.size))
    have HB34 := Lib.hid hb4
    clear hb4
    go_wp2_with fail
    refine (samerows_any (HO3.out.kept HB34.out) (HH.out.kept HB4.out)).mono ?_
    rintro e w5 ⟨rfl, hb5⟩
    rw [HSAME.out]
    have HB5 := Lib.hid (HB4.out.trans (hb5.mono HB4.out.size))
    have HB45 := Lib.hid hb5
    clear hb5
    go_wp2_with fail
    go_ret
    exact ⟨rfl, HB5.out⟩
  have HWIN := Lib.hid (show 1 ≤ win from by omega)
  go_enter Try.func10, Try.ntmps10
  go_wp2_with fail
  refine (lives9_any _).mono ?_
  rintro e w2 ⟨rfl, hb2⟩
  have HB2 := Lib.hid hb2
  clear hb2
  go_wp2_with fail
  refine (twins_any (HH.out.kept HB2.out) (by have := HN60.out; omega)).mono ?_
  rintro e w3 ⟨v3, l3, rfl, hown3, hs3, hb3⟩
  have HB3 := Lib.hid (HB2.out.trans (hb3.mono HB2.out.size))
  obtain ⟨a3, c3, rfl, hat3⟩ := hown3.at
  have HO3 := Lib.hid hat3
  have HS3 := Lib.hid hs3
  have HSAME := Lib.hid (show sameRs l3 l = true from by
    unfold sameRs
    rw [decide_eq_true (by rw [hat3.len, HL.out]), sameTo_yes (fun j hj => hs3 j (by rw [← hat3.len]; exact hj))]
    rfl)
  have hcap3 := hat3.cap
  have hcm3 := hat3.capm
  clear hown3 hs3 hb3 hat3
  go_wp2_with fail
  refine (split_any HO3.out (by have := HN60.out; omega) (HS.out.kept HB3.out) HWIN.out HWB.out.2).mono ?_
  rintro e w4 ⟨a', n', c', l1, rs, gs, rfl, hso⟩
  have HSO := Lib.hid hso
  have HB4 := Lib.hid (HB3.out.trans (hso.bel.mono HB3.out.size))
  have HB34 := Lib.hid hso.bel
  have HAT := Lib.hid hso.at'
  have hgc := hso.at'.cap
  have hgcm := hso.at'.capm
  clear hso
  go_wp2_with fail
  refine (samerows_any (HO3.out.kept HB34.out) (HH.out.kept HB4.out)).mono ?_
  rintro e w5 ⟨rfl, hb5⟩
  rw [HSAME.out]
  have HB5 := Lib.hid (HB4.out.trans (hb5.mono HB4.out.size))
  have HB45 := Lib.hid hb5
  clear hb5
  go_wp2_with fail
  refine (rrows_right (HH.out.kept HB5.out)).mono ?_
  rintro e w6 ⟨r6, rfl, hr6, hb6⟩
  have HB6 := Lib.hid (HB5.out.trans (hb6.mono HB5.out.size))
  have HB46 := Lib.hid (HB45.out.trans (hb6.mono HB45.out.size))
  have HR6 := Lib.hid hr6
  clear hb6 hr6
  cases r6 with
  | false =>
    go_wp2_with fail
    go_ret
    exact ⟨rfl, HB6.out⟩
  | true =>
    have HREC := Lib.hid (HR6.out rfl)
    have HSETS := Lib.hid (show ∀ x ∈ l, isSet x.r.labs = true from fun x hx => by
      obtain ⟨j, hj, rfl⟩ := List.getElem_of_mem hx
      have h1 := HREC.out j (by rw [← HL.out]; exact hj)
      have e : atL l j = l[j] := by simp [atL, hj]
      rw [e] at h1
      exact isSet_rec h1)
    go_wp2_with fail
    refine (rsplit_any (HH.out.kept HB6.out) (by have := HN60.out; omega) (HS.out.kept HB6.out) HWIN.out HWB.out.2 HSETS.out).mono ?_
    rintro e w7 ⟨a7, n7, c7, rs7, gs7, rfl, hso7⟩
    have hsame := splits_at (splits_same HSO.out hso7 HO3.out.len HL.out HS3.out)
    have hlen : n' = n7 := by
      have h1 := hsame.1
      rw [HAT.out.len, hso7.at'.len] at h1
      exact h1
    obtain rfl : n' = n7 := hlen
    have HSAMES := Lib.hid hsame.2
    have HB7 := Lib.hid (HB6.out.trans (hso7.bel.mono HB6.out.size))
    have HB47 := Lib.hid (HB46.out.trans (hso7.bel.mono HB46.out.size))
    have HAT7 := Lib.hid hso7.at'
    have HGL := Lib.hid HAT.out.len
    have HGL7 := Lib.hid hso7.at'.len
    have hgc7 := hso7.at'.cap
    have hgcm7 := hso7.at'.capm
    clear hso7 hsame
    go_wp2_with fail
    go_loopw [10, 52] (fun s10 s52 wr => ∃ i : Nat, i ≤ n' ∧ s52 = .int .i64 (i : Int) ∧ Hid (Below w7.heap.size w7 wr)) (fun _ s52 _ => n' - (intOf s52).toNat)
    case atStart => exact ⟨0, by omega, rfl, Lib.hid (Below.refl _ _)⟩
    case round =>
      obtain ⟨i, hin, rfl, HBR⟩ := hrel
      rename World => wr
      by_cases hlt : i < n'
      · have hlti : (i : Int) < (n' : Int) := by omega
        have hk1 := HAT.out.kept (HB47.out.trans (HBR.out.mono HB47.out.size))
        have hk2 := HAT7.out.kept HBR.out
        obtain ⟨b1, o1, rfl, hl1, hc1⟩ := hk1.cells (by omega)
        obtain ⟨b2, o2, rfl, hl2, hc2⟩ := hk2.cells (by omega)
        obtain ⟨g, hg⟩ : ∃ g, g = gs.getD i grp0 := ⟨_, rfl⟩
        obtain ⟨k, hk⟩ : ∃ k, k = gs7.getD i grp0 := ⟨_, rfl⟩
        obtain ⟨x0, x1, x2⟩ := GrpsAt.three hc1 hlt hg
        obtain ⟨y0, y1, y2⟩ := GrpsAt.three hc2 hlt hk
        have hgm : g ∈ gs := by rw [hg]; exact grp_mem (by rw [HGL.out]; exact hlt)
        have hkm : k ∈ gs7 := by rw [hk]; exact grp_mem (by rw [HGL7.out]; exact hlt)
        have hr1 := hk1.rows g hgm
        have hr2 := hk2.rows k hkm
        have hsm := HSAMES.out i (by rw [HGL.out]; exact hlt)
        rw [← hg, ← hk] at hsm
        obtain ⟨gp, gw, gpt, ga, gn, gc, grs⟩ := g
        obtain ⟨kp, kw, kpt, ka, kn, kc, krs⟩ := k
        simp only at x0 x1 x2 y0 y1 y2 hsm
        obtain ⟨rfl, rfl, hsr⟩ := hsm
        have HR1 := Lib.hid (show RowsAt wr ga gn gc grs from hr1)
        have HR2 := Lib.hid (show RowsAt wr ka kn kc krs from hr2)
        have HSR := Lib.hid hsr
        clear hk1 hk2 hc1 hc2 hg hk hgm hkm hr1 hr2 hsr
        go_wp2_with fail
        have HCALL := Lib.hid (show ∀ w9, Below wr.heap.size wr w9 → Calls Try.prog 39 #[.slice ga gn gc, .slice ka kn kc] w9 fun e w' => e = .returned (.bool true) ∧ Below w9.heap.size w9 w' from fun w9 hb9 => by
          have h1 := samerows_any (HR1.out.kept hb9) (HR2.out.kept hb9)
          rw [HSR.out] at h1
          exact h1)
        refine wp_region_fill (by kernel_rfl) (by kernel_rfl) (by kernel_rfl) (Below wr.heap.size wr) (FV (fun j => match j with | 0 => some (.slice (some ⟨b1, o1, none⟩) n' c') | 1 => some (.int .i64 (i : Int)) | 2 => some (.pointer (some ⟨b1, o1 + i * 3, none⟩)) | 3 => some (.pointer (some ⟨b1, o1 + i * 3, none⟩)) | 4 => some (.int .i64 gw) | 5 => some (.slice (some ⟨b2, o2, none⟩) n' c7) | 6 => some (.int .i64 (i : Int)) | 7 => some (.pointer (some ⟨b2, o2 + i * 3, none⟩)) | 8 => some (.pointer (some ⟨b2, o2 + i * 3, none⟩)) | 9 => some (.int .i64 gw) | 10 => some (.bool false) | 11 => some (.bool false) | 12 => some (.slice (some ⟨b1, o1, none⟩) n' c') | 13 => some (.int .i64 (i : Int)) | 14 => some (.pointer (some ⟨b1, o1 + i * 3, none⟩)) | 15 => some (.pointer (some ⟨b1, o1 + i * 3 + 1, none⟩)) | 16 => some (.string gpt) | 17 => some (.slice (some ⟨b2, o2, none⟩) n' c7) | 18 => some (.int .i64 (i : Int)) | 19 => some (.pointer (some ⟨b2, o2 + i * 3, none⟩)) | 20 => some (.pointer (some ⟨b2, o2 + i * 3 + 1, none⟩)) | 21 => some (.string gpt) | 22 => some (.bool false) | 23 => some (.bool false) | 24 => some (.bool false) | 25 => some (.slice (some ⟨b1, o1, none⟩) n' c') | 26 => some (.int .i64 (i : Int)) | 27 => some (.pointer (some ⟨b1, o1 + i * 3, none⟩)) | 28 => some (.pointer (some ⟨b1, o1 + i * 3 + 2, none⟩)) | 29 => some (.slice ga gn gc) | 30 => some (.slice (some ⟨b2, o2, none⟩) n' c7) | 31 => some (.int .i64 (i : Int)) | 32 => some (.pointer (some ⟨b2, o2 + i * 3, none⟩)) | 33 => some (.pointer (some ⟨b2, o2 + i * 3 + 2, none⟩)) | 34 => some (.slice ka kn kc) | 35 => some (.bool true) | 36 => some (.bool false) | 37 => some (.bool false) | _ => none) (fun _ _ => True)) (Below.refl _ _).drew ?_ ?_
        · intro i9 o ho V w9 K hJ hdep hK
          have HJ := Lib.hid hJ
          simp only [fill, slotOf, List.size_toArray, List.length_cons, List.length_nil, Nat.reduceAdd, List.getElem?_toArray, List.getElem?_cons_zero, List.getElem?_cons_succ, Option.bind_some, Act.put, List.setIfInBounds_toArray, List.set_cons_zero, List.set_cons_succ] at hK ⊢
          have hin : i9 < 38 := (Array.getElem?_eq_some_iff.1 ho).1
          have hcs : i9 = 0 ∨ i9 = 1 ∨ i9 = 2 ∨ i9 = 3 ∨ i9 = 4 ∨ i9 = 5 ∨ i9 = 6 ∨ i9 = 7 ∨ i9 = 8 ∨ i9 = 9 ∨ i9 = 10 ∨ i9 = 11 ∨ i9 = 12 ∨ i9 = 13 ∨ i9 = 14 ∨ i9 = 15 ∨ i9 = 16 ∨ i9 = 17 ∨ i9 = 18 ∨ i9 = 19 ∨ i9 = 20 ∨ i9 = 21 ∨ i9 = 22 ∨ i9 = 23 ∨ i9 = 24 ∨ i9 = 25 ∨ i9 = 26 ∨ i9 = 27 ∨ i9 = 28 ∨ i9 = 29 ∨ i9 = 30 ∨ i9 = 31 ∨ i9 = 32 ∨ i9 = 33 ∨ i9 = 34 ∨ i9 = 35 ∨ i9 = 36 ∨ i9 = 37 := by omega
          clear hin
          rcases hcs with rfl | rfl | rfl | rfl | rfl | rfl | rfl | rfl | rfl | rfl | rfl | rfl | rfl | rfl | rfl | rfl | rfl | rfl | rfl | rfl | rfl | rfl | rfl | rfl | rfl | rfl | rfl | rfl | rfl | rfl | rfl | rfl | rfl | rfl | rfl | rfl | rfl | rfl
          · obtain rfl := Option.some.inj ho.symm
            clear hdep ho hJ
            try simp only [fill, slotOf, List.size_toArray, List.length_cons, List.length_nil, Nat.reduceAdd, List.getElem?_toArray, List.getElem?_cons_zero, List.getElem?_cons_succ, Option.bind_some, Act.put, List.setIfInBounds_toArray, List.set_cons_zero, List.set_cons_succ] at hK ⊢
            go_simp
            exact hK (.slice (some ⟨b1, o1, none⟩) n' c') _ HJ.out rfl (fun j y h => h) _ rfl
          · obtain rfl := Option.some.inj ho.symm
            clear hdep ho hJ
            try simp only [fill, slotOf, List.size_toArray, List.length_cons, List.length_nil, Nat.reduceAdd, List.getElem?_toArray, List.getElem?_cons_zero, List.getElem?_cons_succ, Option.bind_some, Act.put, List.setIfInBounds_toArray, List.set_cons_zero, List.set_cons_succ] at hK ⊢
            go_simp
            exact hK (.int .i64 (i : Int)) _ HJ.out rfl (fun j y h => h) _ rfl
          · obtain rfl := Option.some.inj ho.symm
            have d0 : V 0 = .slice (some ⟨b1, o1, none⟩) n' c' := hdep ⟨0, .data⟩ (by simp) rfl
            have d1 : V 1 = .int .i64 (i : Int) := hdep ⟨1, .data⟩ (by simp) rfl
            clear hdep ho hJ
            try simp only [fill, slotOf, List.size_toArray, List.length_cons, List.length_nil, Nat.reduceAdd, List.getElem?_toArray, List.getElem?_cons_zero, List.getElem?_cons_succ, Option.bind_some, Act.put, List.setIfInBounds_toArray, List.set_cons_zero, List.set_cons_succ] at hK ⊢
            rw [d0, d1] at hK ⊢
            go_simp
            exact hK (.pointer (some ⟨b1, o1 + i * 3, none⟩)) _ HJ.out rfl (fun j y h => h) _ rfl
          · obtain rfl := Option.some.inj ho.symm
            have d2 : V 2 = .pointer (some ⟨b1, o1 + i * 3, none⟩) := hdep ⟨2, .data⟩ (by simp) rfl
            clear hdep ho hJ
            try simp only [fill, slotOf, List.size_toArray, List.length_cons, List.length_nil, Nat.reduceAdd, List.getElem?_toArray, List.getElem?_cons_zero, List.getElem?_cons_succ, Option.bind_some, Act.put, List.setIfInBounds_toArray, List.set_cons_zero, List.set_cons_succ] at hK ⊢
            rw [d2] at hK ⊢
            go_simp
            exact hK (.pointer (some ⟨b1, o1 + i * 3, none⟩)) _ HJ.out rfl (fun j y h => h) _ rfl
          · obtain rfl := Option.some.inj ho.symm
            have d3 : V 3 = .pointer (some ⟨b1, o1 + i * 3, none⟩) := hdep ⟨3, .data⟩ (by simp) rfl
            have e1 : w9.cell? ⟨b1, o1 + i * 3, none⟩ = some (.int .i64 gw) := (hJ.cell (p := ⟨b1, o1 + i * 3, none⟩) hl1).trans x0
            clear hdep ho hJ
            try simp only [fill, slotOf, List.size_toArray, List.length_cons, List.length_nil, Nat.reduceAdd, List.getElem?_toArray, List.getElem?_cons_zero, List.getElem?_cons_succ, Option.bind_some, Act.put, List.setIfInBounds_toArray, List.set_cons_zero, List.set_cons_succ] at hK ⊢
            rw [d3] at hK ⊢
            go_simp
            exact hK (.int .i64 gw) _ HJ.out rfl (fun j y h => h) _ rfl
          · obtain rfl := Option.some.inj ho.symm
            clear hdep ho hJ
            try simp only [fill, slotOf, List.size_toArray, List.length_cons, List.length_nil, Nat.reduceAdd, List.getElem?_toArray, List.getElem?_cons_zero, List.getElem?_cons_succ, Option.bind_some, Act.put, List.setIfInBounds_toArray, List.set_cons_zero, List.set_cons_succ] at hK ⊢
            go_simp
            exact hK (.slice (some ⟨b2, o2, none⟩) n' c7) _ HJ.out rfl (fun j y h => h) _ rfl
          · obtain rfl := Option.some.inj ho.symm
            clear hdep ho hJ
            try simp only [fill, slotOf, List.size_toArray, List.length_cons, List.length_nil, Nat.reduceAdd, List.getElem?_toArray, List.getElem?_cons_zero, List.getElem?_cons_succ, Option.bind_some, Act.put, List.setIfInBounds_toArray, List.set_cons_zero, List.set_cons_succ] at hK ⊢
            go_simp
            exact hK (.int .i64 (i : Int)) _ HJ.out rfl (fun j y h => h) _ rfl
          · obtain rfl := Option.some.inj ho.symm
            have d5 : V 5 = .slice (some ⟨b2, o2, none⟩) n' c7 := hdep ⟨5, .data⟩ (by simp) rfl
            have d6 : V 6 = .int .i64 (i : Int) := hdep ⟨6, .data⟩ (by simp) rfl
            clear hdep ho hJ
            try simp only [fill, slotOf, List.size_toArray, List.length_cons, List.length_nil, Nat.reduceAdd, List.getElem?_toArray, List.getElem?_cons_zero, List.getElem?_cons_succ, Option.bind_some, Act.put, List.setIfInBounds_toArray, List.set_cons_zero, List.set_cons_succ] at hK ⊢
            rw [d5, d6] at hK ⊢
            go_simp
            exact hK (.pointer (some ⟨b2, o2 + i * 3, none⟩)) _ HJ.out rfl (fun j y h => h) _ rfl
          · obtain rfl := Option.some.inj ho.symm
            have d7 : V 7 = .pointer (some ⟨b2, o2 + i * 3, none⟩) := hdep ⟨7, .data⟩ (by simp) rfl
            clear hdep ho hJ
            try simp only [fill, slotOf, List.size_toArray, List.length_cons, List.length_nil, Nat.reduceAdd, List.getElem?_toArray, List.getElem?_cons_zero, List.getElem?_cons_succ, Option.bind_some, Act.put, List.setIfInBounds_toArray, List.set_cons_zero, List.set_cons_succ] at hK ⊢
            rw [d7] at hK ⊢
            go_simp
            exact hK (.pointer (some ⟨b2, o2 + i * 3, none⟩)) _ HJ.out rfl (fun j y h => h) _ rfl
          · obtain rfl := Option.some.inj ho.symm
            have d8 : V 8 = .pointer (some ⟨b2, o2 + i * 3, none⟩) := hdep ⟨8, .data⟩ (by simp) rfl
            have e1 : w9.cell? ⟨b2, o2 + i * 3, none⟩ = some (.int .i64 gw) := (hJ.cell (p := ⟨b2, o2 + i * 3, none⟩) hl2).trans y0
            clear hdep ho hJ
            try simp only [fill, slotOf, List.size_toArray, List.length_cons, List.length_nil, Nat.reduceAdd, List.getElem?_toArray, List.getElem?_cons_zero, List.getElem?_cons_succ, Option.bind_some, Act.put, List.setIfInBounds_toArray, List.set_cons_zero, List.set_cons_succ] at hK ⊢
            rw [d8] at hK ⊢
            go_simp
            exact hK (.int .i64 gw) _ HJ.out rfl (fun j y h => h) _ rfl
          · obtain rfl := Option.some.inj ho.symm
            have d4 : V 4 = .int .i64 gw := hdep ⟨4, .data⟩ (by simp) rfl
            have d9 : V 9 = .int .i64 gw := hdep ⟨9, .data⟩ (by simp) rfl
            have e1 : (gw != gw) = false := by simp
            clear hdep ho hJ
            try simp only [fill, slotOf, List.size_toArray, List.length_cons, List.length_nil, Nat.reduceAdd, List.getElem?_toArray, List.getElem?_cons_zero, List.getElem?_cons_succ, Option.bind_some, Act.put, List.setIfInBounds_toArray, List.set_cons_zero, List.set_cons_succ] at hK ⊢
            rw [d4, d9] at hK ⊢
            go_simp
            exact hK (.bool false) _ HJ.out rfl (fun j y h => h) _ rfl
          · obtain rfl := Option.some.inj ho.symm
            have d10 : V 10 = .bool false := hdep ⟨10, .data⟩ (by simp) rfl
            clear hdep ho hJ
            try simp only [fill, slotOf, List.size_toArray, List.length_cons, List.length_nil, Nat.reduceAdd, List.getElem?_toArray, List.getElem?_cons_zero, List.getElem?_cons_succ, Option.bind_some, Act.put, List.setIfInBounds_toArray, List.set_cons_zero, List.set_cons_succ] at hK ⊢
            rw [d10] at hK ⊢
            go_simp
            exact hK (.bool false) _ HJ.out rfl (fun j y h => h) _ rfl
          · obtain rfl := Option.some.inj ho.symm
            have d11 : V 11 = .bool false := hdep ⟨11, .guard⟩ (by simp) rfl
            clear hdep ho hJ
            try simp only [fill, slotOf, List.size_toArray, List.length_cons, List.length_nil, Nat.reduceAdd, List.getElem?_toArray, List.getElem?_cons_zero, List.getElem?_cons_succ, Option.bind_some, Act.put, List.setIfInBounds_toArray, List.set_cons_zero, List.set_cons_succ] at hK ⊢
            rw [d11] at hK ⊢
            go_simp
            exact hK (.slice (some ⟨b1, o1, none⟩) n' c') _ HJ.out rfl (fun j y h => h) _ rfl
          · obtain rfl := Option.some.inj ho.symm
            have d11 : V 11 = .bool false := hdep ⟨11, .guard⟩ (by simp) rfl
            clear hdep ho hJ
            try simp only [fill, slotOf, List.size_toArray, List.length_cons, List.length_nil, Nat.reduceAdd, List.getElem?_toArray, List.getElem?_cons_zero, List.getElem?_cons_succ, Option.bind_some, Act.put, List.setIfInBounds_toArray, List.set_cons_zero, List.set_cons_succ] at hK ⊢
            rw [d11] at hK ⊢
            go_simp
            exact hK (.int .i64 (i : Int)) _ HJ.out rfl (fun j y h => h) _ rfl
          · obtain rfl := Option.some.inj ho.symm
            have d12 : V 12 = .slice (some ⟨b1, o1, none⟩) n' c' := hdep ⟨12, .data⟩ (by simp) rfl
            have d13 : V 13 = .int .i64 (i : Int) := hdep ⟨13, .data⟩ (by simp) rfl
            have d11 : V 11 = .bool false := hdep ⟨11, .guard⟩ (by simp) rfl
            clear hdep ho hJ
            try simp only [fill, slotOf, List.size_toArray, List.length_cons, List.length_nil, Nat.reduceAdd, List.getElem?_toArray, List.getElem?_cons_zero, List.getElem?_cons_succ, Option.bind_some, Act.put, List.setIfInBounds_toArray, List.set_cons_zero, List.set_cons_succ] at hK ⊢
            rw [d12, d13, d11] at hK ⊢
            go_simp
            exact hK (.pointer (some ⟨b1, o1 + i * 3, none⟩)) _ HJ.out rfl (fun j y h => h) _ rfl
          · obtain rfl := Option.some.inj ho.symm
            have d14 : V 14 = .pointer (some ⟨b1, o1 + i * 3, none⟩) := hdep ⟨14, .data⟩ (by simp) rfl
            have d11 : V 11 = .bool false := hdep ⟨11, .guard⟩ (by simp) rfl
            clear hdep ho hJ
            try simp only [fill, slotOf, List.size_toArray, List.length_cons, List.length_nil, Nat.reduceAdd, List.getElem?_toArray, List.getElem?_cons_zero, List.getElem?_cons_succ, Option.bind_some, Act.put, List.setIfInBounds_toArray, List.set_cons_zero, List.set_cons_succ] at hK ⊢
            rw [d14, d11] at hK ⊢
            go_simp
            exact hK (.pointer (some ⟨b1, o1 + i * 3 + 1, none⟩)) _ HJ.out rfl (fun j y h => h) _ rfl
          · obtain rfl := Option.some.inj ho.symm
            have d15 : V 15 = .pointer (some ⟨b1, o1 + i * 3 + 1, none⟩) := hdep ⟨15, .data⟩ (by simp) rfl
            have d11 : V 11 = .bool false := hdep ⟨11, .guard⟩ (by simp) rfl
            have e1 : w9.cell? ⟨b1, o1 + i * 3 + 1, none⟩ = some (.string gpt) := (hJ.cell (p := ⟨b1, o1 + i * 3 + 1, none⟩) hl1).trans x1
            clear hdep ho hJ
            try simp only [fill, slotOf, List.size_toArray, List.length_cons, List.length_nil, Nat.reduceAdd, List.getElem?_toArray, List.getElem?_cons_zero, List.getElem?_cons_succ, Option.bind_some, Act.put, List.setIfInBounds_toArray, List.set_cons_zero, List.set_cons_succ] at hK ⊢
            rw [d15, d11] at hK ⊢
            go_simp
            exact hK (.string gpt) _ HJ.out rfl (fun j y h => h) _ rfl
          · obtain rfl := Option.some.inj ho.symm
            have d11 : V 11 = .bool false := hdep ⟨11, .guard⟩ (by simp) rfl
            clear hdep ho hJ
            try simp only [fill, slotOf, List.size_toArray, List.length_cons, List.length_nil, Nat.reduceAdd, List.getElem?_toArray, List.getElem?_cons_zero, List.getElem?_cons_succ, Option.bind_some, Act.put, List.setIfInBounds_toArray, List.set_cons_zero, List.set_cons_succ] at hK ⊢
            rw [d11] at hK ⊢
            go_simp
            exact hK (.slice (some ⟨b2, o2, none⟩) n' c7) _ HJ.out rfl (fun j y h => h) _ rfl
          · obtain rfl := Option.some.inj ho.symm
            have d11 : V 11 = .bool false := hdep ⟨11, .guard⟩ (by simp) rfl
            clear hdep ho hJ
            try simp only [fill, slotOf, List.size_toArray, List.length_cons, List.length_nil, Nat.reduceAdd, List.getElem?_toArray, List.getElem?_cons_zero, List.getElem?_cons_succ, Option.bind_some, Act.put, List.setIfInBounds_toArray, List.set_cons_zero, List.set_cons_succ] at hK ⊢
            rw [d11] at hK ⊢
            go_simp
            exact hK (.int .i64 (i : Int)) _ HJ.out rfl (fun j y h => h) _ rfl
          · obtain rfl := Option.some.inj ho.symm
            have d17 : V 17 = .slice (some ⟨b2, o2, none⟩) n' c7 := hdep ⟨17, .data⟩ (by simp) rfl
            have d18 : V 18 = .int .i64 (i : Int) := hdep ⟨18, .data⟩ (by simp) rfl
            have d11 : V 11 = .bool false := hdep ⟨11, .guard⟩ (by simp) rfl
            clear hdep ho hJ
            try simp only [fill, slotOf, List.size_toArray, List.length_cons, List.length_nil, Nat.reduceAdd, List.getElem?_toArray, List.getElem?_cons_zero, List.getElem?_cons_succ, Option.bind_some, Act.put, List.setIfInBounds_toArray, List.set_cons_zero, List.set_cons_succ] at hK ⊢
            rw [d17, d18, d11] at hK ⊢
            go_simp
            exact hK (.pointer (some ⟨b2, o2 + i * 3, none⟩)) _ HJ.out rfl (fun j y h => h) _ rfl
          · obtain rfl := Option.some.inj ho.symm
            have d19 : V 19 = .pointer (some ⟨b2, o2 + i * 3, none⟩) := hdep ⟨19, .data⟩ (by simp) rfl
            have d11 : V 11 = .bool false := hdep ⟨11, .guard⟩ (by simp) rfl
            clear hdep ho hJ
            try simp only [fill, slotOf, List.size_toArray, List.length_cons, List.length_nil, Nat.reduceAdd, List.getElem?_toArray, List.getElem?_cons_zero, List.getElem?_cons_succ, Option.bind_some, Act.put, List.setIfInBounds_toArray, List.set_cons_zero, List.set_cons_succ] at hK ⊢
            rw [d19, d11] at hK ⊢
            go_simp
            exact hK (.pointer (some ⟨b2, o2 + i * 3 + 1, none⟩)) _ HJ.out rfl (fun j y h => h) _ rfl
          · obtain rfl := Option.some.inj ho.symm
            have d20 : V 20 = .pointer (some ⟨b2, o2 + i * 3 + 1, none⟩) := hdep ⟨20, .data⟩ (by simp) rfl
            have d11 : V 11 = .bool false := hdep ⟨11, .guard⟩ (by simp) rfl
            have e1 : w9.cell? ⟨b2, o2 + i * 3 + 1, none⟩ = some (.string gpt) := (hJ.cell (p := ⟨b2, o2 + i * 3 + 1, none⟩) hl2).trans y1
            clear hdep ho hJ
            try simp only [fill, slotOf, List.size_toArray, List.length_cons, List.length_nil, Nat.reduceAdd, List.getElem?_toArray, List.getElem?_cons_zero, List.getElem?_cons_succ, Option.bind_some, Act.put, List.setIfInBounds_toArray, List.set_cons_zero, List.set_cons_succ] at hK ⊢
            rw [d20, d11] at hK ⊢
            go_simp
            exact hK (.string gpt) _ HJ.out rfl (fun j y h => h) _ rfl
          · obtain rfl := Option.some.inj ho.symm
            have d16 : V 16 = .string gpt := hdep ⟨16, .data⟩ (by simp) rfl
            have d21 : V 21 = .string gpt := hdep ⟨21, .data⟩ (by simp) rfl
            have d11 : V 11 = .bool false := hdep ⟨11, .guard⟩ (by simp) rfl
            have e1 : (gpt.toList == gpt.toList) = true := by simp
            clear hdep ho hJ
            try simp only [fill, slotOf, List.size_toArray, List.length_cons, List.length_nil, Nat.reduceAdd, List.getElem?_toArray, List.getElem?_cons_zero, List.getElem?_cons_succ, Option.bind_some, Act.put, List.setIfInBounds_toArray, List.set_cons_zero, List.set_cons_succ] at hK ⊢
            rw [d16, d21, d11] at hK ⊢
            go_simp
            exact hK (.bool false) _ HJ.out rfl (fun j y h => h) _ rfl
          · obtain rfl := Option.some.inj ho.symm
            have d11 : V 11 = .bool false := hdep ⟨11, .data⟩ (by simp) rfl
            have d22 : V 22 = .bool false := hdep ⟨22, .data⟩ (by simp) rfl
            clear hdep ho hJ
            try simp only [fill, slotOf, List.size_toArray, List.length_cons, List.length_nil, Nat.reduceAdd, List.getElem?_toArray, List.getElem?_cons_zero, List.getElem?_cons_succ, Option.bind_some, Act.put, List.setIfInBounds_toArray, List.set_cons_zero, List.set_cons_succ] at hK ⊢
            rw [d11, d22] at hK ⊢
            go_simp
            exact hK (.bool false) _ HJ.out rfl (fun j y h => h) _ rfl
          · obtain rfl := Option.some.inj ho.symm
            have d23 : V 23 = .bool false := hdep ⟨23, .data⟩ (by simp) rfl
            clear hdep ho hJ
            try simp only [fill, slotOf, List.size_toArray, List.length_cons, List.length_nil, Nat.reduceAdd, List.getElem?_toArray, List.getElem?_cons_zero, List.getElem?_cons_succ, Option.bind_some, Act.put, List.setIfInBounds_toArray, List.set_cons_zero, List.set_cons_succ] at hK ⊢
            rw [d23] at hK ⊢
            go_simp
            exact hK (.bool false) _ HJ.out rfl (fun j y h => h) _ rfl
          · obtain rfl := Option.some.inj ho.symm
            have d24 : V 24 = .bool false := hdep ⟨24, .guard⟩ (by simp) rfl
            clear hdep ho hJ
            try simp only [fill, slotOf, List.size_toArray, List.length_cons, List.length_nil, Nat.reduceAdd, List.getElem?_toArray, List.getElem?_cons_zero, List.getElem?_cons_succ, Option.bind_some, Act.put, List.setIfInBounds_toArray, List.set_cons_zero, List.set_cons_succ] at hK ⊢
            rw [d24] at hK ⊢
            go_simp
            exact hK (.slice (some ⟨b1, o1, none⟩) n' c') _ HJ.out rfl (fun j y h => h) _ rfl
          · obtain rfl := Option.some.inj ho.symm
            have d24 : V 24 = .bool false := hdep ⟨24, .guard⟩ (by simp) rfl
            clear hdep ho hJ
            try simp only [fill, slotOf, List.size_toArray, List.length_cons, List.length_nil, Nat.reduceAdd, List.getElem?_toArray, List.getElem?_cons_zero, List.getElem?_cons_succ, Option.bind_some, Act.put, List.setIfInBounds_toArray, List.set_cons_zero, List.set_cons_succ] at hK ⊢
            rw [d24] at hK ⊢
            go_simp
            exact hK (.int .i64 (i : Int)) _ HJ.out rfl (fun j y h => h) _ rfl
          · obtain rfl := Option.some.inj ho.symm
            have d25 : V 25 = .slice (some ⟨b1, o1, none⟩) n' c' := hdep ⟨25, .data⟩ (by simp) rfl
            have d26 : V 26 = .int .i64 (i : Int) := hdep ⟨26, .data⟩ (by simp) rfl
            have d24 : V 24 = .bool false := hdep ⟨24, .guard⟩ (by simp) rfl
            clear hdep ho hJ
            try simp only [fill, slotOf, List.size_toArray, List.length_cons, List.length_nil, Nat.reduceAdd, List.getElem?_toArray, List.getElem?_cons_zero, List.getElem?_cons_succ, Option.bind_some, Act.put, List.setIfInBounds_toArray, List.set_cons_zero, List.set_cons_succ] at hK ⊢
            rw [d25, d26, d24] at hK ⊢
            go_simp
            exact hK (.pointer (some ⟨b1, o1 + i * 3, none⟩)) _ HJ.out rfl (fun j y h => h) _ rfl
          · obtain rfl := Option.some.inj ho.symm
            have d27 : V 27 = .pointer (some ⟨b1, o1 + i * 3, none⟩) := hdep ⟨27, .data⟩ (by simp) rfl
            have d24 : V 24 = .bool false := hdep ⟨24, .guard⟩ (by simp) rfl
            clear hdep ho hJ
            try simp only [fill, slotOf, List.size_toArray, List.length_cons, List.length_nil, Nat.reduceAdd, List.getElem?_toArray, List.getElem?_cons_zero, List.getElem?_cons_succ, Option.bind_some, Act.put, List.setIfInBounds_toArray, List.set_cons_zero, List.set_cons_succ] at hK ⊢
            rw [d27, d24] at hK ⊢
            go_simp
            exact hK (.pointer (some ⟨b1, o1 + i * 3 + 2, none⟩)) _ HJ.out rfl (fun j y h => h) _ rfl
          · obtain rfl := Option.some.inj ho.symm
            have d28 : V 28 = .pointer (some ⟨b1, o1 + i * 3 + 2, none⟩) := hdep ⟨28, .data⟩ (by simp) rfl
            have d24 : V 24 = .bool false := hdep ⟨24, .guard⟩ (by simp) rfl
            have e1 : w9.cell? ⟨b1, o1 + i * 3 + 2, none⟩ = some (.slice ga gn gc) := (hJ.cell (p := ⟨b1, o1 + i * 3 + 2, none⟩) hl1).trans x2
            clear hdep ho hJ
            try simp only [fill, slotOf, List.size_toArray, List.length_cons, List.length_nil, Nat.reduceAdd, List.getElem?_toArray, List.getElem?_cons_zero, List.getElem?_cons_succ, Option.bind_some, Act.put, List.setIfInBounds_toArray, List.set_cons_zero, List.set_cons_succ] at hK ⊢
            rw [d28, d24] at hK ⊢
            go_simp
            exact hK (.slice ga gn gc) _ HJ.out rfl (fun j y h => h) _ rfl
          · obtain rfl := Option.some.inj ho.symm
            have d24 : V 24 = .bool false := hdep ⟨24, .guard⟩ (by simp) rfl
            clear hdep ho hJ
            try simp only [fill, slotOf, List.size_toArray, List.length_cons, List.length_nil, Nat.reduceAdd, List.getElem?_toArray, List.getElem?_cons_zero, List.getElem?_cons_succ, Option.bind_some, Act.put, List.setIfInBounds_toArray, List.set_cons_zero, List.set_cons_succ] at hK ⊢
            rw [d24] at hK ⊢
            go_simp
            exact hK (.slice (some ⟨b2, o2, none⟩) n' c7) _ HJ.out rfl (fun j y h => h) _ rfl
          · obtain rfl := Option.some.inj ho.symm
            have d24 : V 24 = .bool false := hdep ⟨24, .guard⟩ (by simp) rfl
            clear hdep ho hJ
            try simp only [fill, slotOf, List.size_toArray, List.length_cons, List.length_nil, Nat.reduceAdd, List.getElem?_toArray, List.getElem?_cons_zero, List.getElem?_cons_succ, Option.bind_some, Act.put, List.setIfInBounds_toArray, List.set_cons_zero, List.set_cons_succ] at hK ⊢
            rw [d24] at hK ⊢
            go_simp
            exact hK (.int .i64 (i : Int)) _ HJ.out rfl (fun j y h => h) _ rfl
          · obtain rfl := Option.some.inj ho.symm
            have d30 : V 30 = .slice (some ⟨b2, o2, none⟩) n' c7 := hdep ⟨30, .data⟩ (by simp) rfl
            have d31 : V 31 = .int .i64 (i : Int) := hdep ⟨31, .data⟩ (by simp) rfl
            have d24 : V 24 = .bool false := hdep ⟨24, .guard⟩ (by simp) rfl
            clear hdep ho hJ
            try simp only [fill, slotOf, List.size_toArray, List.length_cons, List.length_nil, Nat.reduceAdd, List.getElem?_toArray, List.getElem?_cons_zero, List.getElem?_cons_succ, Option.bind_some, Act.put, List.setIfInBounds_toArray, List.set_cons_zero, List.set_cons_succ] at hK ⊢
            rw [d30, d31, d24] at hK ⊢
            go_simp
            exact hK (.pointer (some ⟨b2, o2 + i * 3, none⟩)) _ HJ.out rfl (fun j y h => h) _ rfl
          · obtain rfl := Option.some.inj ho.symm
            have d32 : V 32 = .pointer (some ⟨b2, o2 + i * 3, none⟩) := hdep ⟨32, .data⟩ (by simp) rfl
            have d24 : V 24 = .bool false := hdep ⟨24, .guard⟩ (by simp) rfl
            clear hdep ho hJ
            try simp only [fill, slotOf, List.size_toArray, List.length_cons, List.length_nil, Nat.reduceAdd, List.getElem?_toArray, List.getElem?_cons_zero, List.getElem?_cons_succ, Option.bind_some, Act.put, List.setIfInBounds_toArray, List.set_cons_zero, List.set_cons_succ] at hK ⊢
            rw [d32, d24] at hK ⊢
            go_simp
            exact hK (.pointer (some ⟨b2, o2 + i * 3 + 2, none⟩)) _ HJ.out rfl (fun j y h => h) _ rfl
          · obtain rfl := Option.some.inj ho.symm
            have d33 : V 33 = .pointer (some ⟨b2, o2 + i * 3 + 2, none⟩) := hdep ⟨33, .data⟩ (by simp) rfl
            have d24 : V 24 = .bool false := hdep ⟨24, .guard⟩ (by simp) rfl
            have e1 : w9.cell? ⟨b2, o2 + i * 3 + 2, none⟩ = some (.slice ka kn kc) := (hJ.cell (p := ⟨b2, o2 + i * 3 + 2, none⟩) hl2).trans y2
            clear hdep ho hJ
            try simp only [fill, slotOf, List.size_toArray, List.length_cons, List.length_nil, Nat.reduceAdd, List.getElem?_toArray, List.getElem?_cons_zero, List.getElem?_cons_succ, Option.bind_some, Act.put, List.setIfInBounds_toArray, List.set_cons_zero, List.set_cons_succ] at hK ⊢
            rw [d33, d24] at hK ⊢
            go_simp
            exact hK (.slice ka kn kc) _ HJ.out rfl (fun j y h => h) _ rfl
          · obtain rfl := Option.some.inj ho.symm
            have d29 : V 29 = .slice ga gn gc := hdep ⟨29, .data⟩ (by simp) rfl
            have d34 : V 34 = .slice ka kn kc := hdep ⟨34, .data⟩ (by simp) rfl
            have d24 : V 24 = .bool false := hdep ⟨24, .guard⟩ (by simp) rfl
            clear hdep ho hJ
            try simp only [fill, slotOf, List.size_toArray, List.length_cons, List.length_nil, Nat.reduceAdd, List.getElem?_toArray, List.getElem?_cons_zero, List.getElem?_cons_succ, Option.bind_some, Act.put, List.setIfInBounds_toArray, List.set_cons_zero, List.set_cons_succ] at hK ⊢
            rw [d29, d34, d24] at hK ⊢
            go_simp
            refine (HCALL.out w9 HJ.out).mono ?_
            rintro e w8 ⟨rfl, hb8⟩
            exact hK (.bool true) _ (HJ.out.trans (hb8.mono HJ.out.size)) rfl (FV.mono ((fun _ _ _ => trivial) hb8)) _ rfl
          · obtain rfl := Option.some.inj ho.symm
            have d35 : V 35 = .bool true := hdep ⟨35, .data⟩ (by simp) rfl
            have d24 : V 24 = .bool false := hdep ⟨24, .guard⟩ (by simp) rfl
            clear hdep ho hJ
            try simp only [fill, slotOf, List.size_toArray, List.length_cons, List.length_nil, Nat.reduceAdd, List.getElem?_toArray, List.getElem?_cons_zero, List.getElem?_cons_succ, Option.bind_some, Act.put, List.setIfInBounds_toArray, List.set_cons_zero, List.set_cons_succ] at hK ⊢
            rw [d35, d24] at hK ⊢
            go_simp
            exact hK (.bool false) _ HJ.out rfl (fun j y h => h) _ rfl
          · obtain rfl := Option.some.inj ho.symm
            have d24 : V 24 = .bool false := hdep ⟨24, .data⟩ (by simp) rfl
            have d36 : V 36 = .bool false := hdep ⟨36, .data⟩ (by simp) rfl
            clear hdep ho hJ
            try simp only [fill, slotOf, List.size_toArray, List.length_cons, List.length_nil, Nat.reduceAdd, List.getElem?_toArray, List.getElem?_cons_zero, List.getElem?_cons_succ, Option.bind_some, Act.put, List.setIfInBounds_toArray, List.set_cons_zero, List.set_cons_succ] at hK ⊢
            rw [d24, d36] at hK ⊢
            go_simp
            exact hK (.bool false) _ HJ.out rfl (fun j y h => h) _ rfl
        · intro V w9 hJ hall
          have dL : V 37 = .bool false := hall 37 (by decide)
          have HJ9 := Lib.hid hJ
          clear hall hJ
          simp only [fill, slotOf, List.size_toArray, List.length_cons, List.length_nil, Nat.reduceAdd, List.getElem?_toArray, List.getElem?_cons_zero, List.getElem?_cons_succ, Option.bind_some, Act.put, List.setIfInBounds_toArray, List.set_cons_zero, List.set_cons_succ]
          rw [dL]
          clear dL
          go_wp2_with fail
          go_roundw
          case rel => exact ⟨i + 1, by omega, by go_num, Lib.hid (HBR.out.trans (HJ9.out.mono HBR.out.size))⟩
          case measure => simp [intOf]; omega
      · obtain rfl : i = n' := by omega
        clear hlt
        go_wp2_with fail
        go_ret
        exact ⟨rfl, HB7.out.trans (HBR.out.mono HB7.out.size)⟩
end Go.Proofs.Ytjbljplgkbnpmaa
end SecRecSplitsK1
