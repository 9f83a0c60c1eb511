/- The law QuerySpares, walked. Written by genqspares.py. -/
import Derived.Test.YtjbljplgkbnpmaaWants
import Derived.Test.YtjbljplgkbnpmaaQRL
import Derived.Test.YtjbljplgkbnpmaaRecGathK
import Derived.Test.YtjbljplgkbnpmaaOneBox
namespace Go.Proofs.Ytjbljplgkbnpmaa
open Go.ChangeShapes Go.WideShapes Go.Deep Go.RowKit LabPlain RecPlain Gath Stab
set_option linter.unusedVariables false

theorem cmp_time {x y : RowV} (h : ¬ 0 < cmpRow x y) : x.r.time ≤ y.r.time := by
  unfold cmpRow RowV.key at h
  rcases Int.lt_or_le y.r.time x.r.time with g | g
  · exfalso
    apply h
    rw [cmpL, if_neg (by omega), if_pos g]
    decide
  · exact g
theorem spare_row {w w' : World} {a' : Option Addr} {n' c' n : Nat} {win : Int} {ss : List ByteArray} {l l1 rs : List RowV} {gs : List GV} (h : SplitOut w w' a' n' c' win ss l l1 rs gs n) (hs : ∀ x ∈ rs, isSet x.r.labs = true) {g : GV} (hg : g ∈ gs) (hl : g.rows.length = g.n) {k : Nat} (hk : k < g.n) (q : QP)
    (hq : qRight q = true) (hk2 : keepS q (g.rows.getD k row0).says = true) : wantsB q (g.rows.getD 0 row0).r.time (g.rows.getD (g.n - 1) row0).r.time g.part = true := by
  obtain ⟨x, hx⟩ : ∃ x, x = g.rows.getD k row0 := ⟨_, rfl⟩
  rw [← hx] at hk2
  have hxm : x ∈ g.rows := by rw [hx]; exact row_mem (by omega)
  have hkey := h.key hg hxm
  have hset := hs x hkey.1
  have h1 : (g.rows.getD 0 row0).r.time ≤ x.r.time := by
    rcases Nat.eq_zero_or_pos k with e | e
    · subst e; rw [hx]; exact Int.le_refl _
    · rw [hx]; exact cmp_time (h.order hg e (by omega))
  have h2 : x.r.time ≤ (g.rows.getD (g.n - 1) row0).r.time := by
    rcases Nat.lt_or_ge k (g.n - 1) with e | e
    · rw [hx]; exact cmp_time (h.order hg e (by omega))
    · obtain rfl : k = g.n - 1 := by omega
      rw [hx]; exact Int.le_refl _
  unfold keepS RowV.says at hk2
  simp only [Bool.and_eq_true, decide_eq_true_eq] at hk2
  have h3 := spares (q := q) (ss := ss) hset hq ⟨hk2.1.1, hk2.1.2, hk2.2⟩ h1 h2
  have h4 : textOf (partTo x.r.labs ss x.r.labs.length) = g.part := by
    rw [← hkey.2.2]; unfold ptext; rw [if_pos (part_set hset ss)]
  rw [h4] at h3
  exact h3

set_option maxRecDepth 100000 in
set_option maxHeartbeats 8000000 in
theorem query_spares (fr to : Int) (a : Option Addr) (n c : Nat) (ms : List Mat) (lim : Int) (tx : Bool) (ra : Option Addr) (rn rc : Nat) (l : List RowV) (win : Int) (b : Option Addr) (m d : Nat) (ss : List ByteArray) (w : World) (hm : MatsAt w a n c ms) (h : RowsAt w ra rn rc l) (hwf : (Lit.int .i64 win).wf = true) (h' : StrsAt w b m d ss) (hmx : ∃ mx, w.cell? ⟨0, 0, none⟩ = some (.int .i64 mx)) :
    Calls Try.prog 14 #[.agg #[.int .i64 fr, .int .i64 to, .slice a n c, .int .i64 lim, .bool tx], .slice ra rn rc, .int .i64 win, .slice b m d] w fun e w' => e = .returned (.bool true) ∧ Below w.heap.size w w' := by
  obtain ⟨mx, hmx⟩ := hmx
  have hwb : -9223372036854775808 ≤ win ∧ win ≤ 9223372036854775807 := by simpa [Lit.wf, IntKind.min, IntKind.max, IntKind.signed, IntKind.bits] using hwf
  obtain ⟨wb, hwb0⟩ : ∃ wb, wb = w.alloc (.cells #[.int .i64 fr, .int .i64 to, .slice a n c, .int .i64 lim, .bool tx] 76) := ⟨_, rfl⟩
  obtain ⟨bq, hbq⟩ : ∃ bq, bq = w.heap.size := ⟨_, rfl⟩
  have hqb : wb.heap[bq]? = some (.cells #[.int .i64 fr, .int .i64 to, .slice a n c, .int .i64 lim, .bool tx] 76 (0, 0)) := by rw [hwb0, hbq]; exact heap_alloc_new w _
  have hbw : Below w.heap.size w wb := by rw [hwb0]; exact (Below.refl _ _).alloc (Nat.le_refl _) _
  have hql := (Array.getElem?_eq_some_iff.1 hqb).1
  have h0 : 0 < w.heap.size := World.block_lt_of_cell? w _ hmx
  have HQ := Lib.hid (show ∀ w9, Below wb.heap.size wb w9 → w9.cell? ⟨bq, 0, none⟩ = some (.int .i64 fr) ∧ w9.cell? ⟨bq, 1, none⟩ = some (.int .i64 to) ∧ w9.cell? ⟨bq, 2, none⟩ = some (.slice a n c) ∧ w9.cell? ⟨bq, 3, none⟩ = some (.int .i64 lim) ∧ w9.cell? ⟨bq, 4, none⟩ = some (.bool tx) from fun w9 hb9 => by
    have h1 := (hb9.block bq hql).trans hqb
    exact ⟨cell_blk h1 rfl, cell_blk h1 rfl, cell_blk h1 rfl, cell_blk h1 rfl, cell_blk h1 rfl⟩)
  have HMX := Lib.hid (show ∀ w9, Below wb.heap.size wb w9 → w9.cell? ⟨0, 0, none⟩ = some (.int .i64 mx) from fun w9 hb9 => ((hbw.trans (hb9.mono hbw.size)).cell (p := ⟨0, 0, none⟩) h0).trans hmx)
  have HM := Lib.hid (hm.kept hbw)
  have HR := Lib.hid (h.kept hbw)
  have HS := Lib.hid (h'.kept hbw)
  have HL := Lib.hid h.len
  have HWB := Lib.hid hwb
  have HBW := Lib.hid hbw
  have HW0 := Lib.hid hwb0
  have HBQ := Lib.hid hbq
  have hcap := h.cap
  have hcm := h.capm
  have hmc := hm.cap
  have hmm := hm.capm
  have hsc := h'.cap
  have hsm := h'.capm
  clear hm h hwf h' hmx hwb hwb0 hbq hqb hbw hql h0
  go_enter Try.func14, Try.ntmps14
  go_wp2_with fail
  rw [← HW0.out, ← HBQ.out]
  refine (lives12_any _).mono ?_
  rintro e w2 ⟨rfl, hb2⟩
  have HB2 := Lib.hid hb2
  obtain ⟨q0, q1, q2, q3, q4⟩ := HQ.out w2 hb2
  clear hb2
  go_wp2_with fail
  refine (qfew_any (HM.out.kept HB2.out) (HR.out.kept HB2.out)).mono ?_
  rintro e w3 ⟨r3, rfl, hr3, hb3⟩
  have HB3 := Lib.hid (HB2.out.trans (hb3.mono HB2.out.size))
  have HF3 := Lib.hid hr3
  clear q0 q1 q2 q3 q4 hb3 hr3
  cases r3 with
  | false =>
    go_wp2_with fail
    refine (lives12_any _).mono ?_
    rintro e w4 ⟨rfl, hb4⟩
    have HB4 := Lib.hid (HB3.out.trans (hb4.mono HB3.out.size))
    clear hb4
    go_wp2_with fail
    go_ret
    exact ⟨rfl, HBW.out.trans (HB4.out.mono HBW.out.size)⟩
  | true =>
    have hf := HF3.out rfl
    have HN60 := Lib.hid hf.1
    clear hf
    by_cases c3 : win < 1
    case pos =>
      go_wp2_with fail
      refine (lives12_any _).mono ?_
      rintro e w4 ⟨rfl, hb4⟩
      have HB4 := Lib.hid (HB3.out.trans (hb4.mono HB3.out.size))
      clear hb4
      go_wp2_with fail
      go_ret
      exact ⟨rfl, HBW.out.trans (HB4.out.mono HBW.out.size)⟩
    by_cases c2 : (20 : Int) < (m : Int)
    case pos =>
      go_wp2_with fail
      refine (lives12_any _).mono ?_
      rintro e w4 ⟨rfl, hb4⟩
      have HB4 := Lib.hid (HB3.out.trans (hb4.mono HB3.out.size))
      clear hb4
      go_wp2_with fail
      go_ret
      exact ⟨rfl, HBW.out.trans (HB4.out.mono HBW.out.size)⟩
    have HWIN := Lib.hid (show 1 ≤ win from by omega)
    go_wp2_with fail
    go_loopw [10, 36] (fun s10 s36 wr => ∃ k : Nat, k ≤ rn ∧ s36 = .int .i64 (k : Int) ∧ Hid (∀ j, j < k → isRec (atL l j).r = true) ∧ Hid (Below wb.heap.size wb wr)) (fun _ s36 _ => rn - (intOf s36).toNat)
    case atStart => exact ⟨0, by omega, rfl, Lib.hid (fun j hj => absurd hj (Nat.not_lt_zero _)), HB3⟩
    case round =>
      obtain ⟨k, hk, rfl, HA, HB⟩ := hrel
      rename World => wr
      by_cases hkn : k < rn
      · have hki : (k : Int) < (rn : Int) := by omega
        have hkp := HR.out.kept HB.out
        obtain ⟨b1, off, rfl, hlt, hcell⟩ := hkp.cells (by omega)
        have hlab := hkp.labs _ (row_mem (l := l) (i := k) (by have := HL.out; omega))
        have hfit := hkp.fits _ (row_mem (l := l) (i := k) (by have := HL.out; omega))
        obtain ⟨r, hr⟩ : ∃ r, r = l.getD k row0 := ⟨_, rfl⟩
        obtain ⟨d0, d1, d2, d3, d4, d5, d6, d7, d8⟩ := RowsAt.nine hcell hkn hr
        have HRR := Lib.hid hr
        rw [← hr] at hlab hfit
        obtain ⟨⟨kd, tm, la, ln, lc, L, txx, v, nl⟩, mk, sq, pl⟩ := r
        simp only at d0 d1 d2 d3 d4 d5 d6 d7 d8 hlab
        have hbw : Below wr.heap.size wr (wr.alloc (.cells #[.int .i64 kd, .int .i64 tm, .slice la ln lc, .string txx, .int .i64 v, .bool nl, .int .i64 mk, .int .i64 sq, .int .i64 pl] 62)) := (Below.refl _ _).alloc (Nat.le_refl _) _
        have HC := Lib.hid (rrecright_any hfit.1 (hlab.kept hbw))
        have HBX := Lib.hid hbw
        clear hr hcell hkp hlab hfit hbw hlt
        go_wp2_with fail
        refine HC.out.mono ?_
        rintro e w2 ⟨rfl, hb2⟩
        have HB2 := Lib.hid (HB.out.trans ((HBX.out.trans (hb2.mono HBX.out.size)).mono HB.out.size))
        clear hb2
        cases hq : isRec ⟨kd, tm, la, ln, lc, L, txx, v, nl⟩ with
        | false =>
          clear hq
          go_wp2_with fail
          go_ret
          exact ⟨rfl, HBW.out.trans (HB2.out.mono HBW.out.size)⟩
        | true =>
          have HA2 := Lib.hid (show ∀ j, j < k + 1 → isRec (atL l j).r = true from fun j hj => by
            rcases Nat.lt_or_ge j k with g | g
            · exact HA.out j g
            · obtain rfl : j = k := by omega
              unfold atL
              rw [← HRR.out]; exact hq)
          clear hq
          go_wp2_with fail
          go_roundw
          case rel => exact ⟨k + 1, by omega, by go_num, HA2, HB2⟩
          case measure => simp [intOf]; omega
      · obtain rfl : k = rn := by omega
        clear hkn
        go_wp2_with fail
        refine (split_any (HR.out.kept HB.out) (by have := HN60.out; omega) (HS.out.kept HB.out) HWIN.out HWB.out.2).mono ?_
        rintro e w4 ⟨a', n', c', l1, rs, gs, rfl, hso⟩
        have HSO := Lib.hid hso
        have HB4 := Lib.hid (HB.out.trans (hso.bel.mono HB.out.size))
        have HAT := Lib.hid hso.at'
        have HGL := Lib.hid hso.at'.len
        have hgc := hso.at'.cap
        have hgcm := hso.at'.capm
        have HSETS := Lib.hid (hso.sets HA.out)
        have HTOT := Lib.hid (show (gs.flatMap GV.rows).length = k from by rw [hso.all.length_eq]; exact hso.len)
        clear hso
        go_wp2_with fail
        go_loopw [12, 13, 15, 50, 82] (fun s12 s13 s15 s50 s82 wr => ∃ i : Nat, i ≤ n' ∧ s50 = .int .i64 (i : Int) ∧ Hid (Below w4.heap.size w4 wr)) (fun _ _ _ s50 _ _ => n' - (intOf s50).toNat)
        case atStart => exact ⟨0, by omega, rfl, Lib.hid (Below.refl _ _)⟩
        case round =>
          obtain ⟨i, hin, rfl, HBR⟩ := hrel
          rename World => wt
          by_cases hilt : i < n'
          · have hilti : (i : Int) < (n' : Int) := by omega
            have hgk := HAT.out.kept HBR.out
            obtain ⟨gb, go, rfl, hgbl, hgcell⟩ := hgk.cells (by omega)
            have hil : i < gs.length := by rw [HGL.out]; exact hilt
            obtain ⟨g, hg⟩ : ∃ g, g = gs.getD i grp0 := ⟨_, rfl⟩
            have hgm0 : g ∈ gs := by rw [hg]; exact grp_mem hil
            obtain ⟨gp, gw, gpt, ga, gn, gc, grs⟩ := g
            obtain ⟨z0, z1, z2⟩ := GrpsAt.three hgcell hilt hg
            simp only at z0 z1 z2
            have hgr : RowsAt wt ga gn gc grs := hgk.rows _ hgm0
            have hgn0 : gn ≠ 0 := fun e => (HSO.out.row hgm0).2 (List.eq_nil_of_length_eq_zero (by show grs.length = 0; rw [hgr.len]; exact e))
            have hq0 : ((gn : Int) == 0) = false := by rw [beq_eq_false_iff_ne]; omega
            have hgcp := hgr.cap
            have hgcpm := hgr.capm
            obtain ⟨rb, ro, rfl, hrbl, hrcell⟩ := hgr.cells (by omega)
            obtain ⟨f0, hf0⟩ : ∃ f, f = grs.getD 0 row0 := ⟨_, rfl⟩
            obtain ⟨f1, hf1⟩ : ∃ f, f = grs.getD (gn - 1) row0 := ⟨_, rfl⟩
            obtain ⟨k1, hk1⟩ : ∃ k1, k1 = gn - 1 := ⟨_, rfl⟩
            rw [← hk1] at hf1
            have a0 := hrcell 0 (by omega) 1 (.int .i64 f0.r.time) (by rw [← hf0]; rfl)
            have a1 := hrcell k1 (by omega) 1 (.int .i64 f1.r.time) (by rw [← hf1]; rfl)
            simp only [Nat.zero_mul, Nat.add_zero] at a0
            have HWANT := Lib.hid (show ∀ q : QP, ∀ j, j < gn → qRight q = true → keepS q (grs.getD j row0).says = true → wantsB q f0.r.time f1.r.time gpt = true from fun q j hj h1 h2 => by
              have h3 := spare_row HSO.out HSETS.out hgm0 hgr.len hj q h1 h2
              rw [hf0, hf1, hk1]; exact h3)
            have HPS := Lib.hid (show gpt.size ≤ 1000 from by
              have hx : grs.getD 0 row0 ∈ grs := row_mem (by rw [hgr.len]; omega)
              have h1 := HSO.out.key hgm0 (x := grs.getD 0 row0) hx
              have h2 : ptext (grs.getD 0 row0).r.labs ss = gpt := h1.2.2
              rw [← h2]; have := ptext_size (grs.getD 0 row0).r.labs ss; omega)
            have HGR := Lib.hid hgr
            obtain ⟨wg, hwg⟩ : ∃ wg, wg = wt.alloc (.cells #[.int .i64 gw, .string gpt, .slice (some ⟨rb, ro, none⟩) gn gc] 72) := ⟨_, rfl⟩
            obtain ⟨bg, hbg⟩ : ∃ bg, bg = wt.heap.size := ⟨_, rfl⟩
            have hblk : wg.heap[bg]? = some (.cells #[.int .i64 gw, .string gpt, .slice (some ⟨rb, ro, none⟩) gn gc] 72 (0, 0)) := by rw [hwg, hbg]; exact heap_alloc_new wt _
            have hbwg : Below wt.heap.size wt wg := by rw [hwg]; exact (Below.refl _ _).alloc (Nat.le_refl _) _
            have HBG := Lib.hid (HBR.out.trans (hbwg.mono HBR.out.size))
            have HGBLK := Lib.hid hblk
            have HGBL := Lib.hid (Array.getElem?_eq_some_iff.1 hblk).1
            have HWG := Lib.hid hwg
            have HBGE := Lib.hid hbg
            have HGRG := Lib.hid (hgr.kept hbwg)
            have hgn60 : gn ≤ 1000000 := by
              have h1 := HTOT.out
              have h2 : gs[i] = ⟨gp, gw, gpt, some ⟨rb, ro, none⟩, gn, gc, grs⟩ := by rw [hg]; simp [hil]
              have h3 : gs[i].rows.length ≤ (gs.flatMap GV.rows).length := by
                have h4 : gs[i].rows.Sublist (gs.flatMap GV.rows) := by
                  rw [List.flatMap_def]; exact List.sublist_flatten_of_mem (List.mem_map_of_mem (List.getElem_mem hil))
                exact h4.length_le
              rw [h1, h2] at h3
              have h5 : grs.length ≤ k := h3
              have := HN60.out; rw [hgr.len] at h5; omega
            have hkw : IntKind.i64.wrap ((gn : Int) - 1) = (k1 : Int) := by rw [IntKind.wrap_i64]; omega
            have hk1n : (k1 : Int) < (gn : Int) := by omega
            have hk1p : (0 : Int) ≤ (k1 : Int) := by omega
            have h0n : (0 : Int) < (gn : Int) := by omega
            have b0 : wg.cell? ⟨rb, ro + 1, none⟩ = some (.int .i64 f0.r.time) := (hbwg.cell (p := ⟨rb, ro + 1, none⟩) hrbl).trans a0
            have b1' : wg.cell? ⟨rb, ro + k1 * 9 + 1, none⟩ = some (.int .i64 f1.r.time) := (hbwg.cell (p := ⟨rb, ro + k1 * 9 + 1, none⟩) hrbl).trans a1
            have u0 : wg.cell? ⟨bg, 0, none⟩ = some (.int .i64 gw) := cell_blk hblk rfl
            have u1 : wg.cell? ⟨bg, 1, none⟩ = some (.string gpt) := cell_blk hblk rfl
            have u2 : wg.cell? ⟨bg, 2, none⟩ = some (.slice (some ⟨rb, ro, none⟩) gn gc) := cell_blk hblk rfl
            have hgnp : 0 < gn := by omega
            have hbgl : bg < wg.heap.size := HGBL.out
            have hrbl2 : rb < wg.heap.size := Nat.lt_of_lt_of_le hrbl hbwg.size
            clear hgk hgcell hg hgm0 hgr hwg hbg hblk hbwg hf0 hf1 hk1 a0 a1 hrcell hrbl hgbl hgn0 hil
            go_wp2_with fail
            rw [← HWG.out, ← HBGE.out]
            go_wp2_with fail
            refine wp_region_inv (by kernel_rfl) (by kernel_rfl) (by kernel_rfl) (OB wg (.cells #[.string { data := #[] }, .int .i64 0, .string { data := #[] }, .int .i64 0, .int .i64 0, .int .i64 0, .int .i64 0, .int .u32 0, .int .i64 0] 85) (.cells #[.string { data := #[] }, .int .i64 gw, .string gpt, .int .i64 f0.r.time, .int .i64 f1.r.time, .int .i64 0, .int .i64 0, .int .u32 0, .int .i64 0] 85) (fun j => match j with | 0 => some (.pointer (some ⟨bg, 0, none⟩)) | 1 => some (.int .i64 gw) | 2 => some (.pointer (some ⟨bg, 1, none⟩)) | 3 => some (.string gpt) | 4 => some (.pointer (some ⟨bg, 2, none⟩)) | 5 => some (.slice (some ⟨rb, ro, none⟩) gn gc) | 6 => some (.pointer (some ⟨rb, ro, none⟩)) | 7 => some (.pointer (some ⟨rb, ro, none⟩)) | 8 => some (.pointer (some ⟨rb, ro + 1, none⟩)) | 9 => some (.int .i64 f0.r.time) | 10 => some (.pointer (some ⟨bg, 2, none⟩)) | 11 => some (.slice (some ⟨rb, ro, none⟩) gn gc) | 12 => some (.pointer (some ⟨bg, 2, none⟩)) | 13 => some (.slice (some ⟨rb, ro, none⟩) gn gc) | 14 => some (.int .i64 (gn : Int)) | 15 => some (.int .i64 (k1 : Int)) | 16 => some (.pointer (some ⟨rb, ro + k1 * 9, none⟩)) | 17 => some (.pointer (some ⟨rb, ro + k1 * 9, none⟩)) | 18 => some (.pointer (some ⟨rb, ro + k1 * 9 + 1, none⟩)) | 19 => some (.int .i64 f1.r.time) | 20 => some (.agg #[.string { data := #[] }, .int .i64 gw, .string gpt, .int .i64 f0.r.time, .int .i64 f1.r.time, .int .i64 0, .int .i64 0, .int .u32 0, .int .i64 0]) | 21 => some (.pointer (some ⟨wg.heap.size, 0, none⟩)) | 22 => none | _ => none) 21 22) (fun V => OB.start V) ?_ ?_
            · intro j9 o ho L9 V w9 K hI hL hdep hK
              have HI9 := Lib.hid hI
              have hJ := hI.below
              simp only [fill, slotOf, List.size_toArray, List.length_cons, List.length_nil, Nat.reduceAdd, List.getElem?_toArray, List.getElem?_cons_zero, List.getElem?_cons_succ, Option.bind_some, Act.put, List.setIfInBounds_toArray, List.set_cons_zero, List.set_cons_succ] at hK ⊢
              have hin : j9 < 23 := (Array.getElem?_eq_some_iff.1 ho).1
              have hcs : j9 = 0 ∨ j9 = 1 ∨ j9 = 2 ∨ j9 = 3 ∨ j9 = 4 ∨ j9 = 5 ∨ j9 = 6 ∨ j9 = 7 ∨ j9 = 8 ∨ j9 = 9 ∨ j9 = 10 ∨ j9 = 11 ∨ j9 = 12 ∨ j9 = 13 ∨ j9 = 14 ∨ j9 = 15 ∨ j9 = 16 ∨ j9 = 17 ∨ j9 = 18 ∨ j9 = 19 ∨ j9 = 20 ∨ j9 = 21 ∨ j9 = 22 := by omega
              clear hin
              rcases hcs with rfl | rfl | rfl | rfl | rfl | rfl | rfl | rfl | rfl | rfl | rfl | rfl | rfl | rfl | rfl | rfl | rfl | rfl | rfl | rfl | rfl | rfl | rfl
              · obtain rfl := Option.some.inj ho.symm
                clear hdep ho hI hL hJ
                try simp only [fill, slotOf, List.size_toArray, List.length_cons, List.length_nil, Nat.reduceAdd, List.getElem?_toArray, List.getElem?_cons_zero, List.getElem?_cons_succ, Option.bind_some, Act.put, List.setIfInBounds_toArray, List.set_cons_zero, List.set_cons_succ] at hK ⊢
                go_simp
                exact hK (.pointer (some ⟨bg, 0, none⟩)) _ (HI9.out.put 0 _ (by decide) (fun v h => Option.some.inj h)) _ rfl
              · obtain rfl := Option.some.inj ho.symm
                have d0 : V 0 = .pointer (some ⟨bg, 0, none⟩) := hI.val 0 _ (hdep ⟨0, .data⟩ (by simp) rfl) rfl
                have e1 : w9.cell? ⟨bg, 0, none⟩ = some (.int .i64 gw) := cell_blk ((hJ.block bg HGBL.out).trans HGBLK.out) rfl
                clear hdep ho hI hL hJ
                try simp only [fill, slotOf, List.size_toArray, List.length_cons, List.length_nil, Nat.reduceAdd, List.getElem?_toArray, List.getElem?_cons_zero, List.getElem?_cons_succ, Option.bind_some, Act.put, List.setIfInBounds_toArray, List.set_cons_zero, List.set_cons_succ] at hK ⊢
                rw [d0] at hK ⊢
                go_simp
                exact hK (.int .i64 gw) _ (HI9.out.put 1 _ (by decide) (fun v h => Option.some.inj h)) _ rfl
              · obtain rfl := Option.some.inj ho.symm
                clear hdep ho hI hL hJ
                try simp only [fill, slotOf, List.size_toArray, List.length_cons, List.length_nil, Nat.reduceAdd, List.getElem?_toArray, List.getElem?_cons_zero, List.getElem?_cons_succ, Option.bind_some, Act.put, List.setIfInBounds_toArray, List.set_cons_zero, List.set_cons_succ] at hK ⊢
                go_simp
                exact hK (.pointer (some ⟨bg, 1, none⟩)) _ (HI9.out.put 2 _ (by decide) (fun v h => Option.some.inj h)) _ rfl
              · obtain rfl := Option.some.inj ho.symm
                have d2 : V 2 = .pointer (some ⟨bg, 1, none⟩) := hI.val 2 _ (hdep ⟨2, .data⟩ (by simp) rfl) rfl
                have e1 : w9.cell? ⟨bg, 1, none⟩ = some (.string gpt) := cell_blk ((hJ.block bg HGBL.out).trans HGBLK.out) rfl
                clear hdep ho hI hL hJ
                try simp only [fill, slotOf, List.size_toArray, List.length_cons, List.length_nil, Nat.reduceAdd, List.getElem?_toArray, List.getElem?_cons_zero, List.getElem?_cons_succ, Option.bind_some, Act.put, List.setIfInBounds_toArray, List.set_cons_zero, List.set_cons_succ] at hK ⊢
                rw [d2] at hK ⊢
                go_simp
                exact hK (.string gpt) _ (HI9.out.put 3 _ (by decide) (fun v h => Option.some.inj h)) _ rfl
              · obtain rfl := Option.some.inj ho.symm
                clear hdep ho hI hL hJ
                try simp only [fill, slotOf, List.size_toArray, List.length_cons, List.length_nil, Nat.reduceAdd, List.getElem?_toArray, List.getElem?_cons_zero, List.getElem?_cons_succ, Option.bind_some, Act.put, List.setIfInBounds_toArray, List.set_cons_zero, List.set_cons_succ] at hK ⊢
                go_simp
                exact hK (.pointer (some ⟨bg, 2, none⟩)) _ (HI9.out.put 4 _ (by decide) (fun v h => Option.some.inj h)) _ rfl
              · obtain rfl := Option.some.inj ho.symm
                have d4 : V 4 = .pointer (some ⟨bg, 2, none⟩) := hI.val 4 _ (hdep ⟨4, .data⟩ (by simp) rfl) rfl
                have e1 : w9.cell? ⟨bg, 2, none⟩ = some (.slice (some ⟨rb, ro, none⟩) gn gc) := cell_blk ((hJ.block bg HGBL.out).trans HGBLK.out) rfl
                clear hdep ho hI hL hJ
                try simp only [fill, slotOf, List.size_toArray, List.length_cons, List.length_nil, Nat.reduceAdd, List.getElem?_toArray, List.getElem?_cons_zero, List.getElem?_cons_succ, Option.bind_some, Act.put, List.setIfInBounds_toArray, List.set_cons_zero, List.set_cons_succ] at hK ⊢
                rw [d4] at hK ⊢
                go_simp
                exact hK (.slice (some ⟨rb, ro, none⟩) gn gc) _ (HI9.out.put 5 _ (by decide) (fun v h => Option.some.inj h)) _ rfl
              · obtain rfl := Option.some.inj ho.symm
                have d5 : V 5 = .slice (some ⟨rb, ro, none⟩) gn gc := hI.val 5 _ (hdep ⟨5, .data⟩ (by simp) rfl) rfl
                clear hdep ho hI hL hJ
                try simp only [fill, slotOf, List.size_toArray, List.length_cons, List.length_nil, Nat.reduceAdd, List.getElem?_toArray, List.getElem?_cons_zero, List.getElem?_cons_succ, Option.bind_some, Act.put, List.setIfInBounds_toArray, List.set_cons_zero, List.set_cons_succ] at hK ⊢
                rw [d5] at hK ⊢
                go_simp
                exact hK (.pointer (some ⟨rb, ro, none⟩)) _ (HI9.out.put 6 _ (by decide) (fun v h => Option.some.inj h)) _ rfl
              · obtain rfl := Option.some.inj ho.symm
                have d6 : V 6 = .pointer (some ⟨rb, ro, none⟩) := hI.val 6 _ (hdep ⟨6, .data⟩ (by simp) rfl) rfl
                clear hdep ho hI hL hJ
                try simp only [fill, slotOf, List.size_toArray, List.length_cons, List.length_nil, Nat.reduceAdd, List.getElem?_toArray, List.getElem?_cons_zero, List.getElem?_cons_succ, Option.bind_some, Act.put, List.setIfInBounds_toArray, List.set_cons_zero, List.set_cons_succ] at hK ⊢
                rw [d6] at hK ⊢
                go_simp
                exact hK (.pointer (some ⟨rb, ro, none⟩)) _ (HI9.out.put 7 _ (by decide) (fun v h => Option.some.inj h)) _ rfl
              · obtain rfl := Option.some.inj ho.symm
                have d7 : V 7 = .pointer (some ⟨rb, ro, none⟩) := hI.val 7 _ (hdep ⟨7, .data⟩ (by simp) rfl) rfl
                clear hdep ho hI hL hJ
                try simp only [fill, slotOf, List.size_toArray, List.length_cons, List.length_nil, Nat.reduceAdd, List.getElem?_toArray, List.getElem?_cons_zero, List.getElem?_cons_succ, Option.bind_some, Act.put, List.setIfInBounds_toArray, List.set_cons_zero, List.set_cons_succ] at hK ⊢
                rw [d7] at hK ⊢
                go_simp
                exact hK (.pointer (some ⟨rb, ro + 1, none⟩)) _ (HI9.out.put 8 _ (by decide) (fun v h => Option.some.inj h)) _ rfl
              · obtain rfl := Option.some.inj ho.symm
                have d8 : V 8 = .pointer (some ⟨rb, ro + 1, none⟩) := hI.val 8 _ (hdep ⟨8, .data⟩ (by simp) rfl) rfl
                have e1 : w9.cell? ⟨rb, ro + 1, none⟩ = some (.int .i64 f0.r.time) := (hJ.cell (p := ⟨rb, ro + 1, none⟩) hrbl2).trans b0
                clear hdep ho hI hL hJ
                try simp only [fill, slotOf, List.size_toArray, List.length_cons, List.length_nil, Nat.reduceAdd, List.getElem?_toArray, List.getElem?_cons_zero, List.getElem?_cons_succ, Option.bind_some, Act.put, List.setIfInBounds_toArray, List.set_cons_zero, List.set_cons_succ] at hK ⊢
                rw [d8] at hK ⊢
                go_simp
                exact hK (.int .i64 f0.r.time) _ (HI9.out.put 9 _ (by decide) (fun v h => Option.some.inj h)) _ rfl
              · obtain rfl := Option.some.inj ho.symm
                clear hdep ho hI hL hJ
                try simp only [fill, slotOf, List.size_toArray, List.length_cons, List.length_nil, Nat.reduceAdd, List.getElem?_toArray, List.getElem?_cons_zero, List.getElem?_cons_succ, Option.bind_some, Act.put, List.setIfInBounds_toArray, List.set_cons_zero, List.set_cons_succ] at hK ⊢
                go_simp
                exact hK (.pointer (some ⟨bg, 2, none⟩)) _ (HI9.out.put 10 _ (by decide) (fun v h => Option.some.inj h)) _ rfl
              · obtain rfl := Option.some.inj ho.symm
                have d10 : V 10 = .pointer (some ⟨bg, 2, none⟩) := hI.val 10 _ (hdep ⟨10, .data⟩ (by simp) rfl) rfl
                have e1 : w9.cell? ⟨bg, 2, none⟩ = some (.slice (some ⟨rb, ro, none⟩) gn gc) := cell_blk ((hJ.block bg HGBL.out).trans HGBLK.out) rfl
                clear hdep ho hI hL hJ
                try simp only [fill, slotOf, List.size_toArray, List.length_cons, List.length_nil, Nat.reduceAdd, List.getElem?_toArray, List.getElem?_cons_zero, List.getElem?_cons_succ, Option.bind_some, Act.put, List.setIfInBounds_toArray, List.set_cons_zero, List.set_cons_succ] at hK ⊢
                rw [d10] at hK ⊢
                go_simp
                exact hK (.slice (some ⟨rb, ro, none⟩) gn gc) _ (HI9.out.put 11 _ (by decide) (fun v h => Option.some.inj h)) _ rfl
              · obtain rfl := Option.some.inj ho.symm
                clear hdep ho hI hL hJ
                try simp only [fill, slotOf, List.size_toArray, List.length_cons, List.length_nil, Nat.reduceAdd, List.getElem?_toArray, List.getElem?_cons_zero, List.getElem?_cons_succ, Option.bind_some, Act.put, List.setIfInBounds_toArray, List.set_cons_zero, List.set_cons_succ] at hK ⊢
                go_simp
                exact hK (.pointer (some ⟨bg, 2, none⟩)) _ (HI9.out.put 12 _ (by decide) (fun v h => Option.some.inj h)) _ rfl
              · obtain rfl := Option.some.inj ho.symm
                have d12 : V 12 = .pointer (some ⟨bg, 2, none⟩) := hI.val 12 _ (hdep ⟨12, .data⟩ (by simp) rfl) rfl
                have e1 : w9.cell? ⟨bg, 2, none⟩ = some (.slice (some ⟨rb, ro, none⟩) gn gc) := cell_blk ((hJ.block bg HGBL.out).trans HGBLK.out) rfl
                clear hdep ho hI hL hJ
                try simp only [fill, slotOf, List.size_toArray, List.length_cons, List.length_nil, Nat.reduceAdd, List.getElem?_toArray, List.getElem?_cons_zero, List.getElem?_cons_succ, Option.bind_some, Act.put, List.setIfInBounds_toArray, List.set_cons_zero, List.set_cons_succ] at hK ⊢
                rw [d12] at hK ⊢
                go_simp
                exact hK (.slice (some ⟨rb, ro, none⟩) gn gc) _ (HI9.out.put 13 _ (by decide) (fun v h => Option.some.inj h)) _ rfl
              · obtain rfl := Option.some.inj ho.symm
                have d13 : V 13 = .slice (some ⟨rb, ro, none⟩) gn gc := hI.val 13 _ (hdep ⟨13, .data⟩ (by simp) rfl) rfl
                clear hdep ho hI hL hJ
                try simp only [fill, slotOf, List.size_toArray, List.length_cons, List.length_nil, Nat.reduceAdd, List.getElem?_toArray, List.getElem?_cons_zero, List.getElem?_cons_succ, Option.bind_some, Act.put, List.setIfInBounds_toArray, List.set_cons_zero, List.set_cons_succ] at hK ⊢
                rw [d13] at hK ⊢
                go_simp
                exact hK (.int .i64 (gn : Int)) _ (HI9.out.put 14 _ (by decide) (fun v h => Option.some.inj h)) _ rfl
              · obtain rfl := Option.some.inj ho.symm
                have d14 : V 14 = .int .i64 (gn : Int) := hI.val 14 _ (hdep ⟨14, .data⟩ (by simp) rfl) rfl
                clear hdep ho hI hL hJ
                try simp only [fill, slotOf, List.size_toArray, List.length_cons, List.length_nil, Nat.reduceAdd, List.getElem?_toArray, List.getElem?_cons_zero, List.getElem?_cons_succ, Option.bind_some, Act.put, List.setIfInBounds_toArray, List.set_cons_zero, List.set_cons_succ] at hK ⊢
                rw [d14] at hK ⊢
                go_simp
                exact hK (.int .i64 (k1 : Int)) _ (HI9.out.put 15 _ (by decide) (fun v h => Option.some.inj h)) _ rfl
              · obtain rfl := Option.some.inj ho.symm
                have d11 : V 11 = .slice (some ⟨rb, ro, none⟩) gn gc := hI.val 11 _ (hdep ⟨11, .data⟩ (by simp) rfl) rfl
                have d15 : V 15 = .int .i64 (k1 : Int) := hI.val 15 _ (hdep ⟨15, .data⟩ (by simp) rfl) rfl
                clear hdep ho hI hL hJ
                try simp only [fill, slotOf, List.size_toArray, List.length_cons, List.length_nil, Nat.reduceAdd, List.getElem?_toArray, List.getElem?_cons_zero, List.getElem?_cons_succ, Option.bind_some, Act.put, List.setIfInBounds_toArray, List.set_cons_zero, List.set_cons_succ] at hK ⊢
                rw [d11, d15] at hK ⊢
                go_simp
                exact hK (.pointer (some ⟨rb, ro + k1 * 9, none⟩)) _ (HI9.out.put 16 _ (by decide) (fun v h => Option.some.inj h)) _ rfl
              · obtain rfl := Option.some.inj ho.symm
                have d16 : V 16 = .pointer (some ⟨rb, ro + k1 * 9, none⟩) := hI.val 16 _ (hdep ⟨16, .data⟩ (by simp) rfl) rfl
                clear hdep ho hI hL hJ
                try simp only [fill, slotOf, List.size_toArray, List.length_cons, List.length_nil, Nat.reduceAdd, List.getElem?_toArray, List.getElem?_cons_zero, List.getElem?_cons_succ, Option.bind_some, Act.put, List.setIfInBounds_toArray, List.set_cons_zero, List.set_cons_succ] at hK ⊢
                rw [d16] at hK ⊢
                go_simp
                exact hK (.pointer (some ⟨rb, ro + k1 * 9, none⟩)) _ (HI9.out.put 17 _ (by decide) (fun v h => Option.some.inj h)) _ rfl
              · obtain rfl := Option.some.inj ho.symm
                have d17 : V 17 = .pointer (some ⟨rb, ro + k1 * 9, none⟩) := hI.val 17 _ (hdep ⟨17, .data⟩ (by simp) rfl) rfl
                clear hdep ho hI hL hJ
                try simp only [fill, slotOf, List.size_toArray, List.length_cons, List.length_nil, Nat.reduceAdd, List.getElem?_toArray, List.getElem?_cons_zero, List.getElem?_cons_succ, Option.bind_some, Act.put, List.setIfInBounds_toArray, List.set_cons_zero, List.set_cons_succ] at hK ⊢
                rw [d17] at hK ⊢
                go_simp
                exact hK (.pointer (some ⟨rb, ro + k1 * 9 + 1, none⟩)) _ (HI9.out.put 18 _ (by decide) (fun v h => Option.some.inj h)) _ rfl
              · obtain rfl := Option.some.inj ho.symm
                have d18 : V 18 = .pointer (some ⟨rb, ro + k1 * 9 + 1, none⟩) := hI.val 18 _ (hdep ⟨18, .data⟩ (by simp) rfl) rfl
                have e1 : w9.cell? ⟨rb, ro + k1 * 9 + 1, none⟩ = some (.int .i64 f1.r.time) := (hJ.cell (p := ⟨rb, ro + k1 * 9 + 1, none⟩) hrbl2).trans b1'
                clear hdep ho hI hL hJ
                try simp only [fill, slotOf, List.size_toArray, List.length_cons, List.length_nil, Nat.reduceAdd, List.getElem?_toArray, List.getElem?_cons_zero, List.getElem?_cons_succ, Option.bind_some, Act.put, List.setIfInBounds_toArray, List.set_cons_zero, List.set_cons_succ] at hK ⊢
                rw [d18] at hK ⊢
                go_simp
                exact hK (.int .i64 f1.r.time) _ (HI9.out.put 19 _ (by decide) (fun v h => Option.some.inj h)) _ rfl
              · obtain rfl := Option.some.inj ho.symm
                have d1 : V 1 = .int .i64 gw := hI.val 1 _ (hdep ⟨1, .data⟩ (by simp) rfl) rfl
                have d3 : V 3 = .string gpt := hI.val 3 _ (hdep ⟨3, .data⟩ (by simp) rfl) rfl
                have d9 : V 9 = .int .i64 f0.r.time := hI.val 9 _ (hdep ⟨9, .data⟩ (by simp) rfl) rfl
                have d19 : V 19 = .int .i64 f1.r.time := hI.val 19 _ (hdep ⟨19, .data⟩ (by simp) rfl) rfl
                clear hdep ho hI hL hJ
                try simp only [fill, slotOf, List.size_toArray, List.length_cons, List.length_nil, Nat.reduceAdd, List.getElem?_toArray, List.getElem?_cons_zero, List.getElem?_cons_succ, Option.bind_some, Act.put, List.setIfInBounds_toArray, List.set_cons_zero, List.set_cons_succ] at hK ⊢
                rw [d1, d3, d9, d19] at hK ⊢
                go_simp
                exact hK (.agg #[.string { data := #[] }, .int .i64 gw, .string gpt, .int .i64 f0.r.time, .int .i64 f1.r.time, .int .i64 0, .int .i64 0, .int .u32 0, .int .i64 0]) _ (HI9.out.put 20 _ (by decide) (fun v h => Option.some.inj h)) _ rfl
              · obtain rfl := Option.some.inj ho.symm
                have HL9 := Lib.hid hL
                have e9 := hI.sa hL
                clear hdep ho hI hL hJ
                subst e9
                try simp only [fill, slotOf, List.size_toArray, List.length_cons, List.length_nil, Nat.reduceAdd, List.getElem?_toArray, List.getElem?_cons_zero, List.getElem?_cons_succ, Option.bind_some, Act.put, List.setIfInBounds_toArray, List.set_cons_zero, List.set_cons_succ] at hK ⊢
                go_simp
                exact hK (.pointer (some ⟨wg.heap.size, 0, none⟩)) _ (HI9.out.puta (by decide) HL9.out _ (fun v h => Option.some.inj h)) _ rfl
              · obtain rfl := Option.some.inj ho.symm
                have d20 : V 20 = .agg #[.string { data := #[] }, .int .i64 gw, .string gpt, .int .i64 f0.r.time, .int .i64 f1.r.time, .int .i64 0, .int .i64 0, .int .u32 0, .int .i64 0] := hI.val 20 _ (hdep ⟨20, .data⟩ (by simp) rfl) rfl
                have d21 : V 21 = .pointer (some ⟨wg.heap.size, 0, none⟩) := hI.val 21 _ (hdep ⟨21, .data⟩ (by simp) rfl) rfl
                have la : L9 21 = true := hdep ⟨21, .data⟩ (by simp) rfl
                have HLA := Lib.hid la
                have e9 := hI.sb la hL
                clear hdep ho hI hL hJ la
                subst e9
                try simp only [fill, slotOf, List.size_toArray, List.length_cons, List.length_nil, Nat.reduceAdd, List.getElem?_toArray, List.getElem?_cons_zero, List.getElem?_cons_succ, Option.bind_some, Act.put, List.setIfInBounds_toArray, List.set_cons_zero, List.set_cons_succ] at hK ⊢
                rw [d20, d21] at hK ⊢
                go_simp
                exact hK undef _ (HI9.out.puts HLA.out _ (fun v h => by cases h)) _ rfl
            · intro L9 V w9 hI hall
              have k21 : V 21 = .pointer (some ⟨wg.heap.size, 0, none⟩) := hI.val 21 _ (hall 21 (by decide)) rfl
              have e9 := hI.sc (hall 22 (by decide))
              clear hI hall
              subst e9
              simp only [fill, slotOf, List.size_toArray, List.length_cons, List.length_nil, Nat.reduceAdd, List.getElem?_toArray, List.getElem?_cons_zero, List.getElem?_cons_succ, Option.bind_some, Act.put, List.setIfInBounds_toArray, List.set_cons_zero, List.set_cons_succ]
              rw [k21]
              clear k21
              obtain ⟨we, hwe⟩ : ∃ we, we = (wg.alloc (.cells #[.string { data := #[] }, .int .i64 gw, .string gpt, .int .i64 f0.r.time, .int .i64 f1.r.time, .int .i64 0, .int .i64 0, .int .u32 0, .int .i64 0] 85)).drew := ⟨_, rfl⟩
              obtain ⟨be, hbe⟩ : ∃ be, be = wg.heap.size := ⟨_, rfl⟩
              have heb : we.heap[be]? = some (.cells #[.string { data := #[] }, .int .i64 gw, .string gpt, .int .i64 f0.r.time, .int .i64 f1.r.time, .int .i64 0, .int .i64 0, .int .u32 0, .int .i64 0] 85 (0, 0)) := by rw [hwe, hbe]; exact heap_alloc_new wg _
              have hbel : Below wg.heap.size wg we := by rw [hwe]; exact ((Below.refl _ _).alloc (Nat.le_refl _) _).drew
              have HEB := Lib.hid heb
              have HEL := Lib.hid (Array.getElem?_eq_some_iff.1 heb).1
              have HBE := Lib.hid (HBG.out.trans (hbel.mono HBG.out.size))
              have HGRE := Lib.hid (HGRG.out.kept hbel)
              have u2e : we.cell? ⟨bg, 2, none⟩ = some (.slice (some ⟨rb, ro, none⟩) gn gc) := cell_blk ((hbel.block bg HGBL.out).trans HGBLK.out) rfl
              rw [← hwe, ← hbe]
              clear u0 u1 u2 b0 b1' hwe hbe heb hbel hbgl hrbl2 hkw hk1n hk1p
              go_wp2_with fail
              go_loopw [15, 82] (fun s15 s82 wq => ∃ j : Nat, j ≤ gn ∧ s82 = .int .i64 (j : Int) ∧ Hid (Below we.heap.size we wq)) (fun _ s82 _ => gn - (intOf s82).toNat)
              case atStart => exact ⟨0, by omega, rfl, Lib.hid (Below.refl _ _)⟩
              case round =>
                clear u2e
                obtain ⟨j, hjn, rfl, HBQ⟩ := hrel
                rename World => wq
                have HBEQ := Lib.hid (HBE.out.trans (HBQ.out.mono HBE.out.size))
                by_cases hjl : j < gn
                · have hjli : (j : Int) < (gn : Int) := by omega
                  have hrk := HGRE.out.kept HBQ.out
                  obtain ⟨b9, o9, he9, hb9l, hcell9⟩ := hrk.cells (by omega)
                  cases he9
                  obtain ⟨x, hx⟩ : ∃ x, x = grs.getD j row0 := ⟨_, rfl⟩
                  obtain ⟨d0, d1, d2, d3, d4, d5, d6, d7, d8⟩ := RowsAt.nine hcell9 hjl hx
                  have hlab := hrk.labs x (by rw [hx]; exact row_mem (by rw [hrk.len]; exact hjl))
                  obtain ⟨wx, hwx⟩ : ∃ wx, wx = wq.alloc (.cells #[.int .i64 x.r.kind, .int .i64 x.r.time, .slice x.r.la x.r.ln x.r.lc, .string x.r.text, .int .i64 x.r.value, .bool x.r.null, .int .i64 x.who, .int .i64 x.sq, .int .i64 x.pl] 62) := ⟨_, rfl⟩
                  have hbx : Below wq.heap.size wq wx := by rw [hwx]; exact (Below.refl _ _).alloc (Nat.le_refl _) _
                  have HLX := Lib.hid (hlab.kept hbx)
                  have HBQX := Lib.hid (HBQ.out.trans (hbx.mono HBQ.out.size))
                  have HB4X := Lib.hid (HBEQ.out.trans (hbx.mono HBEQ.out.size))
                  have HBX := Lib.hid (HB4.out.trans (HB4X.out.mono HB4.out.size))
                  have HWX := Lib.hid hwx
                  have HXE := Lib.hid hx
                  have hqs : (wq.alloc (.cells #[.int .i64 x.r.kind, .int .i64 x.r.time, .slice x.r.la x.r.ln x.r.lc, .string x.r.text, .int .i64 x.r.value, .bool x.r.null, .int .i64 x.who, .int .i64 x.sq, .int .i64 x.pl] 62)).cell? ⟨bq, 0, none⟩ = some (.int .i64 fr) ∧ (wq.alloc (.cells #[.int .i64 x.r.kind, .int .i64 x.r.time, .slice x.r.la x.r.ln x.r.lc, .string x.r.text, .int .i64 x.r.value, .bool x.r.null, .int .i64 x.who, .int .i64 x.sq, .int .i64 x.pl] 62)).cell? ⟨bq, 1, none⟩ = some (.int .i64 to) ∧ (wq.alloc (.cells #[.int .i64 x.r.kind, .int .i64 x.r.time, .slice x.r.la x.r.ln x.r.lc, .string x.r.text, .int .i64 x.r.value, .bool x.r.null, .int .i64 x.who, .int .i64 x.sq, .int .i64 x.pl] 62)).cell? ⟨bq, 2, none⟩ = some (.slice a n c) ∧ (wq.alloc (.cells #[.int .i64 x.r.kind, .int .i64 x.r.time, .slice x.r.la x.r.ln x.r.lc, .string x.r.text, .int .i64 x.r.value, .bool x.r.null, .int .i64 x.who, .int .i64 x.sq, .int .i64 x.pl] 62)).cell? ⟨bq, 3, none⟩ = some (.int .i64 lim) ∧ (wq.alloc (.cells #[.int .i64 x.r.kind, .int .i64 x.r.time, .slice x.r.la x.r.ln x.r.lc, .string x.r.text, .int .i64 x.r.value, .bool x.r.null, .int .i64 x.who, .int .i64 x.sq, .int .i64 x.pl] 62)).cell? ⟨bq, 4, none⟩ = some (.bool tx) := by rw [← hwx]; exact HQ.out wx HBX.out
                  obtain ⟨q0, q1, q2, q3, q4⟩ := hqs
                  clear hrk hcell9 hx hlab hwx hbx hb9l
                  go_wp2_with fail
                  rw [← HWX.out]
                  refine (qKeeps_any (HM.out.kept HBX.out) HLX.out).mono ?_
                  rintro e w6 ⟨rfl, hb6⟩
                  have HB6 := Lib.hid (HBQX.out.trans (hb6.mono HBQX.out.size))
                  have HBX6 := Lib.hid (HBX.out.trans (hb6.mono HBX.out.size))
                  have HB46 := Lib.hid (HB4X.out.trans (hb6.mono HB4X.out.size))
                  clear q0 q1 q2 q3 q4 d0 d1 d2 d3 d4 d5 d6 d7 d8 hb6
                  cases hkq : (qRight (⟨fr, to, ms, lim, tx⟩ : QP) && keepS (⟨fr, to, ms, lim, tx⟩ : QP) x.says) with
                  | false =>
                    clear hkq
                    go_wp2_with fail
                    go_roundw
                    case rel => exact ⟨j + 1, by omega, by go_num, HB6⟩
                    case measure => simp [intOf]; omega
                  | true =>
                    have HWT := Lib.hid (show wantsB (⟨fr, to, ms, lim, tx⟩ : QP) f0.r.time f1.r.time gpt = true from by
                      rw [Bool.and_eq_true] at hkq
                      exact HWANT.out _ j hjl hkq.1 (by rw [← HXE.out]; exact hkq.2))
                    clear hkq
                    obtain ⟨q0, q1, q2, q3, q4⟩ := HQ.out w6 HBX6.out
                    have hb9 := (HB6.out.block be HEL.out).trans HEB.out
                    have e0 : w6.cell? ⟨be, 0, none⟩ = some (.string { data := #[] }) := cell_blk hb9 rfl
                    have e1 : w6.cell? ⟨be, 1, none⟩ = some (.int .i64 gw) := cell_blk hb9 rfl
                    have e2 : w6.cell? ⟨be, 2, none⟩ = some (.string gpt) := cell_blk hb9 rfl
                    have e3 : w6.cell? ⟨be, 3, none⟩ = some (.int .i64 f0.r.time) := cell_blk hb9 rfl
                    have e4 : w6.cell? ⟨be, 4, none⟩ = some (.int .i64 f1.r.time) := cell_blk hb9 rfl
                    have e5 : w6.cell? ⟨be, 5, none⟩ = some (.int .i64 0) := cell_blk hb9 rfl
                    have e6 : w6.cell? ⟨be, 6, none⟩ = some (.int .i64 0) := cell_blk hb9 rfl
                    have e7 : w6.cell? ⟨be, 7, none⟩ = some (.int .u32 0) := cell_blk hb9 rfl
                    have e8 : w6.cell? ⟨be, 8, none⟩ = some (.int .i64 0) := cell_blk hb9 rfl
                    clear hb9
                    go_wp2_with fail
                    refine (wants_any (HM.out.kept HBX6.out) { data := #[] } gpt gw f0.r.time f1.r.time 0 0 0 0 HPS.out mx (HMX.out _ HBX6.out)).mono ?_
                    rintro e w7 ⟨rfl, hb7⟩
                    rw [HWT.out]
                    have HB7 := Lib.hid (HB6.out.trans (hb7.mono HB6.out.size))
                    clear q0 q1 q2 q3 q4 e0 e1 e2 e3 e4 e5 e6 e7 e8 hb7
                    go_wp2_with fail
                    go_roundw
                    case rel => exact ⟨j + 1, by omega, by go_num, HB7⟩
                    case measure => simp [intOf]; omega
                · obtain rfl : j = gn := by omega
                  clear hjl
                  go_wp2_with fail
                  go_roundw
                  case rel => exact ⟨i + 1, by omega, by go_num, HBEQ⟩
                  case measure => simp [intOf]; omega
          · obtain rfl : i = n' := by omega
            clear hilt
            go_wp2_with fail
            go_ret
            exact ⟨rfl, HBW.out.trans ((HB4.out.trans (HBR.out.mono HB4.out.size)).mono HBW.out.size)⟩
end Go.Proofs.Ytjbljplgkbnpmaa
