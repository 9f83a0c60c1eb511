/- The law RecordGathers, walked. Written by genrecgath.py. -/
import Derived.Test.YtjbljplgkbnpmaaRecGathK
import Derived.Laws.Cover1
import Derived.Deep.CutRange
namespace Go.Proofs.Ytjbljplgkbnpmaa
open Go.ChangeShapes Go.WideShapes Go.Deep Go.RowKit LabPlain RecPlain Gath Stab
set_option linter.unusedVariables false

theorem flat_take {gs : List GV} {i : Nat} (hi : i < gs.length) : (gs.take (i + 1)).flatMap GV.rows = (gs.take i).flatMap GV.rows ++ gs[i].rows := by
  rw [List.take_add_one, List.getElem?_eq_getElem hi, List.flatMap_append]
  simp [Option.toList]
theorem flat_le (gs : List GV) (i : Nat) : ((gs.take i).flatMap GV.rows).length ≤ (gs.flatMap GV.rows).length := by
  conv => rhs; rw [← List.take_append_drop i gs]
  rw [List.flatMap_append, List.length_append]
  omega
theorem wf_bounds {x : Int} (h : (Lit.int .i64 x).wf = true) : -9223372036854775808 ≤ x ∧ x ≤ 9223372036854775807 := by
  simpa [Lit.wf, IntKind.min, IntKind.max, IntKind.signed, IntKind.bits] using h
theorem ltK_cases {a b : Pl} (h : ltK a b = true) : a.1 < b.1 ∨ (a.1 = b.1 ∧ ltB a.2 b.2 = true) := by
  unfold ltK at h
  simpa only [Bool.or_eq_true, decide_eq_true_eq, Bool.and_eq_true] using h
theorem ltB_geq {a b : ByteArray} (h : ltB a b = true) : Op.bytesLess b.toList a.toList = false ∧ (a.toList == b.toList) = false ∧ (b.toList == a.toList) = false ∧ Op.bytesLess a.toList b.toList = true := by
  have h1 := leq_not b a
  have h0 : Op.bytesLess a.toList b.toList = true := h
  rw [show ltB a b = true from h] at h1
  simp only [Bool.not_true, Bool.or_eq_false_iff] at h1
  refine ⟨h1.1, ?_, h1.2, h0⟩
  have := h1.2
  rw [beq_eq_false_iff_ne] at this ⊢
  exact fun e => this e.symm

set_option maxRecDepth 100000 in
set_option maxHeartbeats 8000000 in
theorem record_gathers (a : Option Addr) (n c : Nat) (l : List RowV) (win : Int) (b : Option Addr) (m d : Nat) (ss : List ByteArray) (w : World) (h : RowsAt w a n c l) (hwf : (Lit.int .i64 win).wf = true) (h' : StrsAt w b m d ss) :
    Calls Try.prog 11 #[.slice a n c, .int .i64 win, .slice b m d] w fun e w' => e = .returned (.bool true) ∧ Below w.heap.size w w' := by
  have hwb := wf_bounds hwf
  have hcap := h.cap
  have hcm := h.capm
  have HH := Lib.hid h
  have HS := Lib.hid h'
  have HL := Lib.hid h.len
  have HWB := Lib.hid hwb
  clear h h' hwf hwb
  by_cases c1 : (60 : Int) < (n : Int)
  case pos =>
    go_enter Try.func11, Try.ntmps11
    go_wp2_with fail
    refine (lives9_any _).mono ?_
    rintro e w2 ⟨rfl, hb2⟩
    have HB2 := Lib.hid hb2
    clear hb2
    go_wp2_with fail
    refine (lives9_any _).mono ?_
    rintro e w3 ⟨rfl, hb3⟩
    have HB3 := Lib.hid (HB2.out.trans (hb3.mono HB2.out.size))
    clear hb3
    go_wp2_with fail
    go_ret
    exact ⟨rfl, HB3.out⟩
  by_cases c2 : (20 : Int) < (m : Int)
  case pos =>
    go_enter Try.func11, Try.ntmps11
    go_wp2_with fail
    refine (lives9_any _).mono ?_
    rintro e w2 ⟨rfl, hb2⟩
    have HB2 := Lib.hid hb2
    clear hb2
    go_wp2_with fail
    refine (lives9_any _).mono ?_
    rintro e w3 ⟨rfl, hb3⟩
    have HB3 := Lib.hid (HB2.out.trans (hb3.mono HB2.out.size))
    clear hb3
    go_wp2_with fail
    go_ret
    exact ⟨rfl, HB3.out⟩
  by_cases c3 : win < 1
  case pos =>
    go_enter Try.func11, Try.ntmps11
    go_wp2_with fail
    refine (lives9_any _).mono ?_
    rintro e w2 ⟨rfl, hb2⟩
    have HB2 := Lib.hid hb2
    clear hb2
    go_wp2_with fail
    refine (lives9_any _).mono ?_
    rintro e w3 ⟨rfl, hb3⟩
    have HB3 := Lib.hid (HB2.out.trans (hb3.mono HB2.out.size))
    clear hb3
    go_wp2_with fail
    go_ret
    exact ⟨rfl, HB3.out⟩
  have HWIN := Lib.hid (show 1 ≤ win from by omega)
  have hw0 : ¬ win = 0 := by omega
  have hn60 : n ≤ 60 := by omega
  have HN60 := Lib.hid hn60
  clear hn60
  go_enter Try.func11, Try.ntmps11
  go_wp2_with fail
  refine (lives9_any _).mono ?_
  rintro e w2 ⟨rfl, hb2⟩
  have HB2 := Lib.hid hb2
  clear hb2
  go_wp2_with fail
  refine (rrows_right (HH.out.kept HB2.out)).mono ?_
  rintro e w3 ⟨r3, rfl, hr3, hb3⟩
  have HB3 := Lib.hid (HB2.out.trans (hb3.mono HB2.out.size))
  have HR3 := Lib.hid hr3
  clear hb3 hr3
  cases r3 with
  | false =>
    go_wp2_with fail
    refine (lives9_any _).mono ?_
    rintro e w4 ⟨rfl, hb4⟩
    have HB4 := Lib.hid (HB3.out.trans (hb4.mono HB3.out.size))
    clear hb4
    go_wp2_with fail
    go_ret
    exact ⟨rfl, HB4.out⟩
  | true =>
    have HREC := Lib.hid (HR3.out rfl)
    go_wp2_with fail
    refine (split_any (HH.out.kept HB3.out) (by have := HN60.out; omega) (HS.out.kept HB3.out) HWIN.out HWB.out.2).mono ?_
    rintro e w4 ⟨a', n', c', l1, rs, gs, rfl, hso⟩
    have HSO := Lib.hid hso
    have HB4 := Lib.hid (HB3.out.trans (hso.bel.mono HB3.out.size))
    have HAT := Lib.hid hso.at'
    have HGL := Lib.hid hso.at'.len
    have hgc := hso.at'.cap
    have hgcm := hso.at'.capm
    have HTOT := Lib.hid (show (gs.flatMap GV.rows).length = n from by rw [hso.all.length_eq]; exact hso.len)
    have HSETS := Lib.hid (hso.sets HREC.out)
    have HO0 := Lib.hid (World.ownsRow_nil w4 w4.heap.size 62 9)
    have HB0 := Lib.hid (Below.refl w4.heap.size w4)
    clear hso
    go_wp2_with fail
    go_loopw [7, 9, 11, 41, 90] (fun s7 s9 s11 s41 s90 wr => ∃ (i t cp : Nat) (ag : Option Addr), i ≤ n' ∧ s41 = .int .i64 (i : Int) ∧ s7 = .slice ag t cp ∧ Hid (t = ((gs.take i).flatMap GV.rows).length) ∧ Hid (wr.ownsRow w4.heap.size 62 9 (.slice ag t cp) t (rcells ((gs.take i).flatMap GV.rows))) ∧ Hid (Below w4.heap.size w4 wr)) (fun _ _ _ s41 _ _ => n' - (intOf s41).toNat)
    case atStart => exact ⟨0, 0, 0, none, by omega, rfl, rfl, Lib.hid rfl, HO0, HB0⟩
    case round =>
      clear HO0 HB0
      obtain ⟨i, t, cp, ag, hin, rfl, rfl, HT, HO, HB⟩ := hrel
      rename World => wr
      by_cases hlt : i < n'
      · have hlti : (i : Int) < (n' : Int) := by omega
        have hgk := HAT.out.kept HB.out
        obtain ⟨gb, go, rfl, hgbl, hgcell⟩ := hgk.cells (by omega)
        have hil : i < gs.length := by rw [HGL.out]; exact hlt
        obtain ⟨g, hg⟩ : ∃ g, g = gs.getD i grp0 := ⟨_, rfl⟩
        have hgm0 : g ∈ gs := by rw [hg]; exact grp_mem hil
        have hge0 : g = gs[i] := by rw [hg]; simp [hil]
        obtain ⟨gp, gw, gpt, ga, gn, gc, grs⟩ := g
        have hgm : (⟨gp, gw, gpt, ga, gn, gc, grs⟩ : GV) ∈ gs := hgm0
        obtain ⟨z0, z1, z2⟩ := GrpsAt.three hgcell hlt hg
        simp only at z0 z1 z2
        have hgr : RowsAt wr ga gn gc grs := hgk.rows _ hgm
        have hrow : grs = rs.filter (fun x => decide (plS win ss x = (gw, gpt))) ∧ grs ≠ [] := HSO.out.row hgm
        have hgn0 : gn ≠ 0 := fun e => hrow.2 (List.eq_nil_of_length_eq_zero (by rw [hgr.len]; exact e))
        have hge : (⟨gp, gw, gpt, ga, gn, gc, grs⟩ : GV) = gs[i] := hge0
        have hsum : t + gn ≤ n := by
          have h1 := flat_take hil
          have h2 := flat_le gs (i + 1)
          rw [h1, List.length_append, HTOT.out, ← HT.out, ← hge] at h2
          have h3 : (⟨gp, gw, gpt, ga, gn, gc, grs⟩ : GV).rows.length = gn := hgr.len
          rw [h3] at h2
          exact h2
        have HSUM := Lib.hid hsum
        have HFT := Lib.hid (show (gs.take (i + 1)).flatMap GV.rows = (gs.take i).flatMap GV.rows ++ grs from by have h1 := flat_take hil; rw [← hge] at h1; exact h1)
        have HGM := Lib.hid hgm
        have HGR := Lib.hid hgr
        have HGN0 := Lib.hid hgn0
        have hq0 : ((gn : Int) == 0) = false := by rw [beq_eq_false_iff_ne]; omega
        obtain ⟨wg, hwg⟩ : ∃ wg, wg = wr.alloc (.cells #[.int .i64 gw, .string gpt, .slice ga gn gc] 72) := ⟨_, rfl⟩
        obtain ⟨bg, hbg⟩ : ∃ bg, bg = wr.heap.size := ⟨_, rfl⟩
        have hblk : wg.heap[bg]? = some (.cells #[.int .i64 gw, .string gpt, .slice ga gn gc] 72 (0, 0)) := by rw [hwg, hbg]; exact heap_alloc_new wr _
        have hbwg : Below wr.heap.size wr wg := by rw [hwg]; exact (Below.refl _ _).alloc (Nat.le_refl _) _
        have HBLK := Lib.hid hblk
        have HBWG := Lib.hid hbwg
        have u0 : wg.cell? ⟨bg, 0, none⟩ = some (.int .i64 gw) := cell_blk hblk rfl
        have u1 : wg.cell? ⟨bg, 1, none⟩ = some (.string gpt) := cell_blk hblk rfl
        have u2 : wg.cell? ⟨bg, 2, none⟩ = some (.slice ga gn gc) := cell_blk hblk rfl
        have HUP := Lib.hid (show ∀ q, q < i → ltK (gs.getD q grp0).key (gw, gpt) = true from fun q hq => by
          have h1 := List.pairwise_iff_getElem.1 HSO.out.up q i (by omega) hil hq
          rw [← hge] at h1
          have e : gs.getD q grp0 = gs[q]'(by omega) := by simp [show q < gs.length by omega]
          rw [e]; exact h1)
        have HOG := Lib.hid (own_below HO.out hbwg)
        have HBG := Lib.hid (HB.out.trans (hbwg.mono HB.out.size))
        have HWG := Lib.hid hwg
        have HBGE := Lib.hid hbg
        have hcells : ∀ q, q < i → wg.cell? ⟨gb, go + q * 3, none⟩ = some (.int .i64 (gs.getD q grp0).win) ∧ wg.cell? ⟨gb, go + q * 3 + 1, none⟩ = some (.string (gs.getD q grp0).part) := fun q hq => by
          obtain ⟨y0, y1, _⟩ := GrpsAt.three hgcell (show q < n' by omega) (rfl : gs.getD q grp0 = gs.getD q grp0)
          exact ⟨(hbwg.cell (p := ⟨gb, go + q * 3, none⟩) hgbl).trans y0, (hbwg.cell (p := ⟨gb, go + q * 3 + 1, none⟩) hgbl).trans y1⟩
        have HCEL := Lib.hid hcells
        clear hgk hgcell hg hgm hgr hrow hgn0 hge hsum hgm0 hge0 hwg hbg hblk hbwg hcells hil hgbl
        go_upto_region 8 with fail
        rw [← HWG.out, ← HBGE.out]
        clear z0 z1 z2
        go_cut [9, 10, 41, 86] from 41 to 134 (fun s9 s10 s41 s86 wc => s9 = .int .i64 (i : Int) ∧ s10 = .pointer (some ⟨bg, 0, none⟩) ∧ s41 = .int .i64 (i : Int) ∧ s86 = .bool false ∧ Hid (Below wg.heap.size wg wc))
        case first =>
          by_cases hi0 : i = 0
          · have hz : ¬ (0 : Int) < (i : Int) := by omega
            have hz2 : ¬ 0 < i := by omega
            have HI0 := Lib.hid hi0
            clear hi0
            go_quiet (fail)
            go_wp2_with fail
            go_meet
            exact ⟨rfl, rfl, rfl, rfl, Lib.hid ⟨rfl, rfl, rfl, Nat.le_refl _, fun _ _ => rfl⟩⟩
          · obtain ⟨q1, hq1⟩ : ∃ q1, q1 + 1 = i := ⟨i - 1, by omega⟩
            have hup := HUP.out q1 (by omega)
            have hce := HCEL.out q1 (by omega)
            obtain ⟨pw, hpw⟩ : ∃ pw, pw = (gs.getD q1 grp0).win := ⟨_, rfl⟩
            obtain ⟨pp, hpp⟩ : ∃ pp, pp = (gs.getD q1 grp0).part := ⟨_, rfl⟩
            have y0 := hce.1
            have y1 := hce.2
            rw [← hpw] at y0
            rw [← hpp] at y1
            have hup2 : pw < gw ∨ (pw = gw ∧ ltB pp gpt = true) := by rw [hpw, hpp]; exact ltK_cases hup
            have hz : (0 : Int) < (i : Int) := by omega
            have hz2 : 0 < i := by omega
            have hiw : IntKind.i64.wrap ((i : Int) - 1) = (q1 : Int) := by rw [IntKind.wrap_i64]; omega
            have hq1n : (q1 : Int) < (n' : Int) := by omega
            have hq1p : (0 : Int) ≤ (q1 : Int) := by omega
            have HI0 := Lib.hid hi0
            clear hup hce hpw hpp hi0 hq1
            rcases hup2 with hlt2 | ⟨heq2, hlt2⟩
            · have f1 : ¬ gw < pw := by omega
              have f2 : (pw == gw) = false := by rw [beq_eq_false_iff_ne]; omega
              clear hlt2
              go_quiet (fail)
              go_wp2_with fail
              go_meet
              exact ⟨rfl, rfl, rfl, rfl, Lib.hid ⟨rfl, rfl, rfl, Nat.le_refl _, fun _ _ => rfl⟩⟩
            · subst heq2
              obtain ⟨b1, b2, b3, b4⟩ := ltB_geq hlt2
              have f1 : ¬ pw < pw := by omega
              have f2 : (pw == pw) = true := by simp
              clear hlt2
              go_quiet (fail)
              go_wp2_with fail
              go_meet
              exact ⟨rfl, rfl, rfl, rfl, Lib.hid ⟨rfl, rfl, rfl, Nat.le_refl _, fun _ _ => rfl⟩⟩
        case rest =>
          obtain ⟨rfl, rfl, rfl, rfl, HBC⟩ := hcut
          have hbc9 := (HBC.out.block bg (Array.getElem?_eq_some_iff.1 HBLK.out).1).trans HBLK.out
          have uc2 : wc.cell? ⟨bg, 2, none⟩ = some (.slice ga gn gc) := cell_blk hbc9 rfl
          clear hbc9 u0 u1 u2
          go_wp2_with fail
          have HBW0 := HBC
          go_loopw [11, 90] (fun s11 s90 wq => ∃ k : Nat, k ≤ gn ∧ s90 = .int .i64 (k : Int) ∧ Hid (Below wg.heap.size wg wq)) (fun _ s90 _ => gn - (intOf s90).toNat)
          case atStart => exact ⟨0, by omega, rfl, HBW0⟩
          case round =>
            clear HBW0
            obtain ⟨k, hkn, rfl, HBW⟩ := hrel
            rename World => wq
            by_cases hkt : k < gn
            · have hkti : (k : Int) < (gn : Int) := by omega
              have hrk := (HGR.out.kept HBWG.out).kept HBW.out
              obtain ⟨rb, ro, rfl, hrbl, hrcell⟩ := hrk.cells (by omega)
              obtain ⟨x, hx⟩ : ∃ x, x = grs.getD k row0 := ⟨_, rfl⟩
              obtain ⟨d0, d1, d2, d3, d4, d5, d6, d7, d8⟩ := RowsAt.nine hrcell hkt hx
              have hkl : k < grs.length := by rw [hrk.len]; exact hkt
              have hxm : x ∈ grs := by rw [hx]; exact row_mem hkl
              have hkey : x ∈ rs ∧ x.r.time.tdiv win = gw ∧ ptext x.r.labs ss = gpt := HSO.out.key HGM.out hxm
              have hlab := hrk.labs x hxm
              have hfit := hrk.fits x hxm
              have hset := HSETS.out x hkey.1
              have hsz := set_len hset
              obtain ⟨wx, hwx⟩ : ∃ wx, wx = wq.alloc (.cells #[.int .i64 x.r.kind, .int .i64 x.r.time, .slice x.r.la x.r.ln x.r.lc, .string x.r.text, .int .i64 x.r.value, .bool x.r.null, .int .i64 x.who, .int .i64 x.sq, .int .i64 x.pl] 62) := ⟨_, rfl⟩
              obtain ⟨bx, hbx⟩ : ∃ bx, bx = wq.heap.size := ⟨_, rfl⟩
              have hbwx : Below wq.heap.size wq wx := by rw [hwx]; exact (Below.refl _ _).alloc (Nat.le_refl _) _
              have hxblk : wx.heap[bx]? = some (.cells #[.int .i64 x.r.kind, .int .i64 x.r.time, .slice x.r.la x.r.ln x.r.lc, .string x.r.text, .int .i64 x.r.value, .bool x.r.null, .int .i64 x.who, .int .i64 x.sq, .int .i64 x.pl] 62 (0, 0)) := by rw [hwx, hbx]; exact heap_alloc_new wq _
              have HXB := Lib.hid hxblk
              have HBXL := Lib.hid (Array.getElem?_eq_some_iff.1 hxblk).1
              have hbgq := (HBW.out.block bg (Array.getElem?_eq_some_iff.1 HBLK.out).1).trans HBLK.out
              have hbgx := (hbwx.block bg (Array.getElem?_eq_some_iff.1 hbgq).1).trans hbgq
              have HGBX := Lib.hid hbgx
              have HBGL := Lib.hid (Array.getElem?_eq_some_iff.1 hbgx).1
              have HBGX := Lib.hid (HBW.out.trans (hbwx.mono HBW.out.size))
              have HBX4 := Lib.hid (HBG.out.trans (HBGX.out.mono HBG.out.size))
              have HPART := Lib.hid (show ∀ w9, Below wx.heap.size wx w9 → Calls Try.prog 27 #[.slice x.r.la x.r.ln x.r.lc, .slice b m d] w9 fun e w' => ∃ ap cpp, e = .returned (.slice ap (partTo x.r.labs ss x.r.labs.length).length cpp) ∧ LabsAt w' ap (partTo x.r.labs ss x.r.labs.length).length cpp (partTo x.r.labs ss x.r.labs.length) ∧ Below w9.heap.size w9 w' from fun w9 hb9 => by
                have h1 := rpart_any ((hlab.kept hbwx).kept hb9) (((HS.out.kept HB4.out).kept HBX4.out).kept hb9) (by rw [← hlab.len]; omega)
                rw [← hlab.len] at h1 ⊢
                exact h1)
              have HISP := Lib.hid (part_set hset ss)
              have HPTX := Lib.hid (show textOf (partTo x.r.labs ss x.r.labs.length) = gpt from by
                have h1 := hkey.2.2
                unfold ptext at h1
                rw [if_pos (part_set hset ss)] at h1
                exact h1)
              have hqd : IntKind.i64.wrap (x.r.time.tdiv win) = gw := by rw [tdiv_wrap hfit.1.2.1 HWIN.out]; exact hkey.2.1
              have hqd2 : x.r.time.tdiv win = gw := hkey.2.1
              have hqw : IntKind.i64.wrap gw = gw := by
                have h1 := tdiv_fits hfit.1.2.1 HWIN.out
                rw [hqd2] at h1
                exact wrap_id h1.1 h1.2
              have SPM := Lib.hid (show ∀ (w w' : World), Below w.heap.size w w' → ∀ u, (fun (u : Value) (w : World) => ∃ ap cpp, u = .slice ap (partTo x.r.labs ss x.r.labs.length).length cpp ∧ LabsAt w ap (partTo x.r.labs ss x.r.labs.length).length cpp (partTo x.r.labs ss x.r.labs.length)) u w → (fun (u : Value) (w : World) => ∃ ap cpp, u = .slice ap (partTo x.r.labs ss x.r.labs.length).length cpp ∧ LabsAt w ap (partTo x.r.labs ss x.r.labs.length).length cpp (partTo x.r.labs ss x.r.labs.length)) u w' from fun w w' hb u ⟨ap, cpp, e1, e2⟩ => ⟨ap, cpp, e1, e2.kept hb⟩)
              have HGC2 := Lib.hid (show ∀ w9, Below wx.heap.size wx w9 → w9.cell? ⟨bg, 2, none⟩ = some (.slice (some ⟨rb, ro, none⟩) gn gc) from fun w9 hb9 => by
                exact cell_blk ((hb9.block bg (Array.getElem?_eq_some_iff.1 hbgx).1).trans hbgx) (i := 2) (u := .slice (some ⟨rb, ro, none⟩) gn gc) rfl)
              have HWX := Lib.hid hwx
              have HBXE := Lib.hid hbx
              by_cases hk0 : k = 0
              · have hz : ¬ (0 : Int) < (k : Int) := by omega
                have hkd : decide ((0 : Int) < (k : Int)) = false := decide_eq_false hz
                have hkd2 : decide (0 < k) = false := decide_eq_false (by omega)
                have hkd3 : decide (k = 0) = true := decide_eq_true hk0
                have HK0 := Lib.hid hk0
                clear hk0
                clear hrk hrcell hx hkl hxm hkey hlab hfit hset hsz hwx hbx hbwx hxblk hbgq hbgx
                go_wp2_with fail
                rw [← HWX.out, ← HBXE.out]
                refine wp_region_fill (by kernel_rfl) (by kernel_rfl) (by kernel_rfl) (Below wx.heap.size wx) (FV (fun j => match j with | 0 => some (.pointer (some ⟨bx, 0, none⟩)) | 1 => some (.pointer (some ⟨bx, 1, none⟩)) | 2 => some (.int .i64 x.r.time) | 3 => some (.int .i64 win) | 4 => some (.int .i64 gw) | 5 => some (.pointer (some ⟨bg, 0, none⟩)) | 6 => some (.int .i64 gw) | 7 => some (.bool false) | 8 => some (.bool false) | 9 => some (.pointer (some ⟨bx, 0, none⟩)) | 10 => some (.pointer (some ⟨bx, 2, none⟩)) | 11 => some (.slice x.r.la x.r.ln x.r.lc) | 12 => some (.slice b m d) | 13 => none | 14 => some (.string gpt) | 15 => some (.pointer (some ⟨bg, 1, none⟩)) | 16 => some (.string gpt) | 17 => some (.bool false) | 18 => some (.bool false) | 19 => some (.bool false) | 20 => some (.int .i64 (k : Int)) | 21 => some (.bool false) | 22 => some (.bool false) | 23 => some (undef) | 24 => some (undef) | 25 => some (undef) | 26 => some (undef) | 27 => some (undef) | 28 => some (undef) | 29 => some (undef) | 30 => some (undef) | 31 => some (undef) | 32 => some (.bool false) | 33 => some (.bool false) | _ => none) (fun (u : Value) (w : World) => ∃ ap cpp, u = .slice ap (partTo x.r.labs ss x.r.labs.length).length cpp ∧ LabsAt w ap (partTo x.r.labs ss x.r.labs.length).length cpp (partTo x.r.labs ss x.r.labs.length))) (Below.refl _ _).drew ?_ ?_
                · intro i9 o ho V w9 K hJ hdep hK
                  have HJ := Lib.hid hJ
                  simp only [fill, slotOf, List.size_toArray, List.length_cons, List.length_nil, Nat.reduceAdd, List.getElem?_toArray, List.getElem?_cons_zero, List.getElem?_cons_succ, Option.bind_some, Act.put, List.setIfInBounds_toArray, List.set_cons_zero, List.set_cons_succ] at hK ⊢
                  have hin : i9 < 34 := (Array.getElem?_eq_some_iff.1 ho).1
                  have hcs : i9 = 0 ∨ i9 = 1 ∨ i9 = 2 ∨ i9 = 3 ∨ i9 = 4 ∨ i9 = 5 ∨ i9 = 6 ∨ i9 = 7 ∨ i9 = 8 ∨ i9 = 9 ∨ i9 = 10 ∨ i9 = 11 ∨ i9 = 12 ∨ i9 = 13 ∨ i9 = 14 ∨ i9 = 15 ∨ i9 = 16 ∨ i9 = 17 ∨ i9 = 18 ∨ i9 = 19 ∨ i9 = 20 ∨ i9 = 21 ∨ i9 = 22 ∨ i9 = 23 ∨ i9 = 24 ∨ i9 = 25 ∨ i9 = 26 ∨ i9 = 27 ∨ i9 = 28 ∨ i9 = 29 ∨ i9 = 30 ∨ i9 = 31 ∨ i9 = 32 ∨ i9 = 33 := by omega
                  clear hin
                  rcases hcs with rfl | rfl | rfl | rfl | rfl | rfl | rfl | rfl | rfl | rfl | rfl | rfl | rfl | rfl | rfl | rfl | rfl | rfl | rfl | rfl | rfl | rfl | rfl | rfl | rfl | rfl | rfl | rfl | rfl | rfl | rfl | rfl | rfl | rfl
                  · obtain rfl := Option.some.inj ho.symm
                    clear hdep ho hJ
                    try simp only [fill, slotOf, List.size_toArray, List.length_cons, List.length_nil, Nat.reduceAdd, List.getElem?_toArray, List.getElem?_cons_zero, List.getElem?_cons_succ, Option.bind_some, Act.put, List.setIfInBounds_toArray, List.set_cons_zero, List.set_cons_succ] at hK ⊢
                    go_simp
                    exact hK (.pointer (some ⟨bx, 0, none⟩)) _ HJ.out rfl (fun j y h => h) _ rfl
                  · obtain rfl := Option.some.inj ho.symm
                    have d0 : V 0 = .pointer (some ⟨bx, 0, none⟩) := hdep ⟨0, .data⟩ (by simp) rfl
                    clear hdep ho hJ
                    try simp only [fill, slotOf, List.size_toArray, List.length_cons, List.length_nil, Nat.reduceAdd, List.getElem?_toArray, List.getElem?_cons_zero, List.getElem?_cons_succ, Option.bind_some, Act.put, List.setIfInBounds_toArray, List.set_cons_zero, List.set_cons_succ] at hK ⊢
                    rw [d0] at hK ⊢
                    go_simp
                    exact hK (.pointer (some ⟨bx, 1, none⟩)) _ HJ.out rfl (fun j y h => h) _ rfl
                  · obtain rfl := Option.some.inj ho.symm
                    have d1 : V 1 = .pointer (some ⟨bx, 1, none⟩) := hdep ⟨1, .data⟩ (by simp) rfl
                    have e1 : w9.cell? ⟨bx, 1, none⟩ = some (.int .i64 x.r.time) := cell_blk ((hJ.block bx HBXL.out).trans HXB.out) rfl
                    clear hdep ho hJ
                    try simp only [fill, slotOf, List.size_toArray, List.length_cons, List.length_nil, Nat.reduceAdd, List.getElem?_toArray, List.getElem?_cons_zero, List.getElem?_cons_succ, Option.bind_some, Act.put, List.setIfInBounds_toArray, List.set_cons_zero, List.set_cons_succ] at hK ⊢
                    rw [d1] at hK ⊢
                    go_simp
                    exact hK (.int .i64 x.r.time) _ HJ.out rfl (fun j y h => h) _ rfl
                  · obtain rfl := Option.some.inj ho.symm
                    clear hdep ho hJ
                    try simp only [fill, slotOf, List.size_toArray, List.length_cons, List.length_nil, Nat.reduceAdd, List.getElem?_toArray, List.getElem?_cons_zero, List.getElem?_cons_succ, Option.bind_some, Act.put, List.setIfInBounds_toArray, List.set_cons_zero, List.set_cons_succ] at hK ⊢
                    go_simp
                    exact hK (.int .i64 win) _ HJ.out rfl (fun j y h => h) _ rfl
                  · obtain rfl := Option.some.inj ho.symm
                    have d2 : V 2 = .int .i64 x.r.time := hdep ⟨2, .data⟩ (by simp) rfl
                    have d3 : V 3 = .int .i64 win := hdep ⟨3, .data⟩ (by simp) rfl
                    clear hdep ho hJ
                    try simp only [fill, slotOf, List.size_toArray, List.length_cons, List.length_nil, Nat.reduceAdd, List.getElem?_toArray, List.getElem?_cons_zero, List.getElem?_cons_succ, Option.bind_some, Act.put, List.setIfInBounds_toArray, List.set_cons_zero, List.set_cons_succ] at hK ⊢
                    rw [d2, d3] at hK ⊢
                    go_simp
                    refine hK (.int .i64 gw) _ HJ.out rfl (fun j y h => h) _ ?_
                    first | rfl | (rw [hqw]; rfl) | (simp only [hqw]; rfl)
                  · obtain rfl := Option.some.inj ho.symm
                    clear hdep ho hJ
                    try simp only [fill, slotOf, List.size_toArray, List.length_cons, List.length_nil, Nat.reduceAdd, List.getElem?_toArray, List.getElem?_cons_zero, List.getElem?_cons_succ, Option.bind_some, Act.put, List.setIfInBounds_toArray, List.set_cons_zero, List.set_cons_succ] at hK ⊢
                    go_simp
                    exact hK (.pointer (some ⟨bg, 0, none⟩)) _ HJ.out rfl (fun j y h => h) _ rfl
                  · obtain rfl := Option.some.inj ho.symm
                    have d5 : V 5 = .pointer (some ⟨bg, 0, none⟩) := hdep ⟨5, .data⟩ (by simp) rfl
                    have e1 : w9.cell? ⟨bg, 0, none⟩ = some (.int .i64 gw) := cell_blk ((hJ.block bg HBGL.out).trans HGBX.out) rfl
                    clear hdep ho hJ
                    try simp only [fill, slotOf, List.size_toArray, List.length_cons, List.length_nil, Nat.reduceAdd, List.getElem?_toArray, List.getElem?_cons_zero, List.getElem?_cons_succ, Option.bind_some, Act.put, List.setIfInBounds_toArray, List.set_cons_zero, List.set_cons_succ] at hK ⊢
                    rw [d5] at hK ⊢
                    go_simp
                    exact hK (.int .i64 gw) _ HJ.out rfl (fun j y h => h) _ rfl
                  · obtain rfl := Option.some.inj ho.symm
                    have d4 : V 4 = .int .i64 gw := hdep ⟨4, .data⟩ (by simp) rfl
                    have d6 : V 6 = .int .i64 gw := hdep ⟨6, .data⟩ (by simp) rfl
                    have e1 : (gw != gw) = false := by simp
                    clear hdep ho hJ
                    try simp only [fill, slotOf, List.size_toArray, List.length_cons, List.length_nil, Nat.reduceAdd, List.getElem?_toArray, List.getElem?_cons_zero, List.getElem?_cons_succ, Option.bind_some, Act.put, List.setIfInBounds_toArray, List.set_cons_zero, List.set_cons_succ] at hK ⊢
                    rw [d4, d6] at hK ⊢
                    go_simp
                    exact hK (.bool false) _ HJ.out rfl (fun j y h => h) _ rfl
                  · obtain rfl := Option.some.inj ho.symm
                    have d7 : V 7 = .bool false := hdep ⟨7, .data⟩ (by simp) rfl
                    clear hdep ho hJ
                    try simp only [fill, slotOf, List.size_toArray, List.length_cons, List.length_nil, Nat.reduceAdd, List.getElem?_toArray, List.getElem?_cons_zero, List.getElem?_cons_succ, Option.bind_some, Act.put, List.setIfInBounds_toArray, List.set_cons_zero, List.set_cons_succ] at hK ⊢
                    rw [d7] at hK ⊢
                    go_simp
                    exact hK (.bool false) _ HJ.out rfl (fun j y h => h) _ rfl
                  · obtain rfl := Option.some.inj ho.symm
                    have d8 : V 8 = .bool false := hdep ⟨8, .guard⟩ (by simp) rfl
                    clear hdep ho hJ
                    try simp only [fill, slotOf, List.size_toArray, List.length_cons, List.length_nil, Nat.reduceAdd, List.getElem?_toArray, List.getElem?_cons_zero, List.getElem?_cons_succ, Option.bind_some, Act.put, List.setIfInBounds_toArray, List.set_cons_zero, List.set_cons_succ] at hK ⊢
                    rw [d8] at hK ⊢
                    go_simp
                    exact hK (.pointer (some ⟨bx, 0, none⟩)) _ HJ.out rfl (fun j y h => h) _ rfl
                  · obtain rfl := Option.some.inj ho.symm
                    have d9 : V 9 = .pointer (some ⟨bx, 0, none⟩) := hdep ⟨9, .data⟩ (by simp) rfl
                    have d8 : V 8 = .bool false := hdep ⟨8, .guard⟩ (by simp) rfl
                    clear hdep ho hJ
                    try simp only [fill, slotOf, List.size_toArray, List.length_cons, List.length_nil, Nat.reduceAdd, List.getElem?_toArray, List.getElem?_cons_zero, List.getElem?_cons_succ, Option.bind_some, Act.put, List.setIfInBounds_toArray, List.set_cons_zero, List.set_cons_succ] at hK ⊢
                    rw [d9, d8] at hK ⊢
                    go_simp
                    exact hK (.pointer (some ⟨bx, 2, none⟩)) _ HJ.out rfl (fun j y h => h) _ rfl
                  · obtain rfl := Option.some.inj ho.symm
                    have d10 : V 10 = .pointer (some ⟨bx, 2, none⟩) := hdep ⟨10, .data⟩ (by simp) rfl
                    have d8 : V 8 = .bool false := hdep ⟨8, .guard⟩ (by simp) rfl
                    have e1 : w9.cell? ⟨bx, 2, none⟩ = some (.slice x.r.la x.r.ln x.r.lc) := cell_blk ((hJ.block bx HBXL.out).trans HXB.out) rfl
                    clear hdep ho hJ
                    try simp only [fill, slotOf, List.size_toArray, List.length_cons, List.length_nil, Nat.reduceAdd, List.getElem?_toArray, List.getElem?_cons_zero, List.getElem?_cons_succ, Option.bind_some, Act.put, List.setIfInBounds_toArray, List.set_cons_zero, List.set_cons_succ] at hK ⊢
                    rw [d10, d8] at hK ⊢
                    go_simp
                    exact hK (.slice x.r.la x.r.ln x.r.lc) _ HJ.out rfl (fun j y h => h) _ rfl
                  · obtain rfl := Option.some.inj ho.symm
                    have d8 : V 8 = .bool false := hdep ⟨8, .guard⟩ (by simp) rfl
                    clear hdep ho hJ
                    try simp only [fill, slotOf, List.size_toArray, List.length_cons, List.length_nil, Nat.reduceAdd, List.getElem?_toArray, List.getElem?_cons_zero, List.getElem?_cons_succ, Option.bind_some, Act.put, List.setIfInBounds_toArray, List.set_cons_zero, List.set_cons_succ] at hK ⊢
                    rw [d8] at hK ⊢
                    go_simp
                    exact hK (.slice b m d) _ HJ.out rfl (fun j y h => h) _ rfl
                  · obtain rfl := Option.some.inj ho.symm
                    have d11 : V 11 = .slice x.r.la x.r.ln x.r.lc := hdep ⟨11, .data⟩ (by simp) rfl
                    have d12 : V 12 = .slice b m d := hdep ⟨12, .data⟩ (by simp) rfl
                    have d8 : V 8 = .bool false := hdep ⟨8, .guard⟩ (by simp) rfl
                    clear hdep ho hJ
                    try simp only [fill, slotOf, List.size_toArray, List.length_cons, List.length_nil, Nat.reduceAdd, List.getElem?_toArray, List.getElem?_cons_zero, List.getElem?_cons_succ, Option.bind_some, Act.put, List.setIfInBounds_toArray, List.set_cons_zero, List.set_cons_succ] at hK ⊢
                    rw [d11, d12, d8] at hK ⊢
                    go_simp
                    refine (HPART.out w9 HJ.out).mono ?_
                    rintro e w8 ⟨ap, cpp, rfl, hlp, hb8⟩
                    exact hK (.slice ap (partTo x.r.labs ss x.r.labs.length).length cpp) _ (HJ.out.trans (hb8.mono HJ.out.size)) ⟨ap, cpp, rfl, hlp⟩ (FV.mono (SPM.out _ _ hb8)) _ rfl
                  · have hoo := Option.some.inj ho.symm
                    obtain ⟨ap, cpp, eV, hlp⟩ : ∃ ap cpp, V 13 = .slice ap (partTo x.r.labs ss x.r.labs.length).length cpp ∧ LabsAt w9 ap (partTo x.r.labs ss x.r.labs.length).length cpp (partTo x.r.labs ss x.r.labs.length) := hdep ⟨13, .data⟩ (by rw [hoo]; simp) rfl
                    have HTX := rtext_any hlp HISP.out
                    rw [HPTX.out] at HTX
                    have HTX := Lib.hid HTX
                    subst hoo
                    have d8 : V 8 = .bool false := hdep ⟨8, .guard⟩ (by simp) rfl
                    clear hdep ho hJ hlp
                    try simp only [fill, slotOf, List.size_toArray, List.length_cons, List.length_nil, Nat.reduceAdd, List.getElem?_toArray, List.getElem?_cons_zero, List.getElem?_cons_succ, Option.bind_some, Act.put, List.setIfInBounds_toArray, List.set_cons_zero, List.set_cons_succ] at hK ⊢
                    rw [d8, eV] at hK ⊢
                    go_simp
                    refine (HTX.out).mono ?_
                    rintro e w8 ⟨rfl, hb8⟩
                    exact hK (.string gpt) _ (HJ.out.trans (hb8.mono HJ.out.size)) rfl (FV.mono (SPM.out _ _ hb8)) _ rfl
                  · obtain rfl := Option.some.inj ho.symm
                    have d8 : V 8 = .bool false := hdep ⟨8, .guard⟩ (by simp) rfl
                    clear hdep ho hJ
                    try simp only [fill, slotOf, List.size_toArray, List.length_cons, List.length_nil, Nat.reduceAdd, List.getElem?_toArray, List.getElem?_cons_zero, List.getElem?_cons_succ, Option.bind_some, Act.put, List.setIfInBounds_toArray, List.set_cons_zero, List.set_cons_succ] at hK ⊢
                    rw [d8] at hK ⊢
                    go_simp
                    exact hK (.pointer (some ⟨bg, 1, none⟩)) _ HJ.out rfl (fun j y h => h) _ rfl
                  · obtain rfl := Option.some.inj ho.symm
                    have d15 : V 15 = .pointer (some ⟨bg, 1, none⟩) := hdep ⟨15, .data⟩ (by simp) rfl
                    have d8 : V 8 = .bool false := hdep ⟨8, .guard⟩ (by simp) rfl
                    have e1 : w9.cell? ⟨bg, 1, none⟩ = some (.string gpt) := cell_blk ((hJ.block bg HBGL.out).trans HGBX.out) rfl
                    clear hdep ho hJ
                    try simp only [fill, slotOf, List.size_toArray, List.length_cons, List.length_nil, Nat.reduceAdd, List.getElem?_toArray, List.getElem?_cons_zero, List.getElem?_cons_succ, Option.bind_some, Act.put, List.setIfInBounds_toArray, List.set_cons_zero, List.set_cons_succ] at hK ⊢
                    rw [d15, d8] at hK ⊢
                    go_simp
                    exact hK (.string gpt) _ HJ.out rfl (fun j y h => h) _ rfl
                  · obtain rfl := Option.some.inj ho.symm
                    have d14 : V 14 = .string gpt := hdep ⟨14, .data⟩ (by simp) rfl
                    have d16 : V 16 = .string gpt := hdep ⟨16, .data⟩ (by simp) rfl
                    have d8 : V 8 = .bool false := hdep ⟨8, .guard⟩ (by simp) rfl
                    have e1 : (gpt.toList == gpt.toList) = true := by simp
                    clear hdep ho hJ
                    try simp only [fill, slotOf, List.size_toArray, List.length_cons, List.length_nil, Nat.reduceAdd, List.getElem?_toArray, List.getElem?_cons_zero, List.getElem?_cons_succ, Option.bind_some, Act.put, List.setIfInBounds_toArray, List.set_cons_zero, List.set_cons_succ] at hK ⊢
                    rw [d14, d16, d8] at hK ⊢
                    go_simp
                    exact hK (.bool false) _ HJ.out rfl (fun j y h => h) _ rfl
                  · obtain rfl := Option.some.inj ho.symm
                    have d8 : V 8 = .bool false := hdep ⟨8, .data⟩ (by simp) rfl
                    have d17 : V 17 = .bool false := hdep ⟨17, .data⟩ (by simp) rfl
                    clear hdep ho hJ
                    try simp only [fill, slotOf, List.size_toArray, List.length_cons, List.length_nil, Nat.reduceAdd, List.getElem?_toArray, List.getElem?_cons_zero, List.getElem?_cons_succ, Option.bind_some, Act.put, List.setIfInBounds_toArray, List.set_cons_zero, List.set_cons_succ] at hK ⊢
                    rw [d8, d17] at hK ⊢
                    go_simp
                    exact hK (.bool false) _ HJ.out rfl (fun j y h => h) _ rfl
                  · obtain rfl := Option.some.inj ho.symm
                    have d18 : V 18 = .bool false := hdep ⟨18, .data⟩ (by simp) rfl
                    clear hdep ho hJ
                    try simp only [fill, slotOf, List.size_toArray, List.length_cons, List.length_nil, Nat.reduceAdd, List.getElem?_toArray, List.getElem?_cons_zero, List.getElem?_cons_succ, Option.bind_some, Act.put, List.setIfInBounds_toArray, List.set_cons_zero, List.set_cons_succ] at hK ⊢
                    rw [d18] at hK ⊢
                    go_simp
                    exact hK (.bool false) _ HJ.out rfl (fun j y h => h) _ rfl
                  · obtain rfl := Option.some.inj ho.symm
                    have d19 : V 19 = .bool false := hdep ⟨19, .guard⟩ (by simp) rfl
                    clear hdep ho hJ
                    try simp only [fill, slotOf, List.size_toArray, List.length_cons, List.length_nil, Nat.reduceAdd, List.getElem?_toArray, List.getElem?_cons_zero, List.getElem?_cons_succ, Option.bind_some, Act.put, List.setIfInBounds_toArray, List.set_cons_zero, List.set_cons_succ] at hK ⊢
                    rw [d19] at hK ⊢
                    go_simp
                    exact hK (.int .i64 (k : Int)) _ HJ.out rfl (fun j y h => h) _ rfl
                  · obtain rfl := Option.some.inj ho.symm
                    have d20 : V 20 = .int .i64 (k : Int) := hdep ⟨20, .data⟩ (by simp) rfl
                    have d19 : V 19 = .bool false := hdep ⟨19, .guard⟩ (by simp) rfl
                    clear hdep ho hJ
                    try simp only [fill, slotOf, List.size_toArray, List.length_cons, List.length_nil, Nat.reduceAdd, List.getElem?_toArray, List.getElem?_cons_zero, List.getElem?_cons_succ, Option.bind_some, Act.put, List.setIfInBounds_toArray, List.set_cons_zero, List.set_cons_succ] at hK ⊢
                    rw [d20, d19] at hK ⊢
                    go_simp
                    refine hK (.bool false) _ HJ.out rfl (fun j y h => h) _ ?_
                    first | rfl | (rw [hkd]; rfl) | (rw [hkd2]; rfl)
                  · obtain rfl := Option.some.inj ho.symm
                    have d21 : V 21 = .bool false := hdep ⟨21, .data⟩ (by simp) rfl
                    have d19 : V 19 = .bool false := hdep ⟨19, .guard⟩ (by simp) rfl
                    clear hdep ho hJ
                    try simp only [fill, slotOf, List.size_toArray, List.length_cons, List.length_nil, Nat.reduceAdd, List.getElem?_toArray, List.getElem?_cons_zero, List.getElem?_cons_succ, Option.bind_some, Act.put, List.setIfInBounds_toArray, List.set_cons_zero, List.set_cons_succ] at hK ⊢
                    rw [d21, d19] at hK ⊢
                    go_simp
                    exact hK (.bool false) _ HJ.out rfl (fun j y h => h) _ rfl
                  · obtain rfl := Option.some.inj ho.symm
                    have d22 : V 22 = .bool false := hdep ⟨22, .guard⟩ (by simp) rfl
                    clear hdep ho hJ
                    try simp only [fill, slotOf, List.size_toArray, List.length_cons, List.length_nil, Nat.reduceAdd, List.getElem?_toArray, List.getElem?_cons_zero, List.getElem?_cons_succ, Option.bind_some, Act.put, List.setIfInBounds_toArray, List.set_cons_zero, List.set_cons_succ] at hK ⊢
                    rw [d22] at hK ⊢
                    go_simp
                    exact hK (undef) _ HJ.out rfl (fun j y h => h) _ rfl
                  · obtain rfl := Option.some.inj ho.symm
                    have d22 : V 22 = .bool false := hdep ⟨22, .guard⟩ (by simp) rfl
                    clear hdep ho hJ
                    try simp only [fill, slotOf, List.size_toArray, List.length_cons, List.length_nil, Nat.reduceAdd, List.getElem?_toArray, List.getElem?_cons_zero, List.getElem?_cons_succ, Option.bind_some, Act.put, List.setIfInBounds_toArray, List.set_cons_zero, List.set_cons_succ] at hK ⊢
                    rw [d22] at hK ⊢
                    go_simp
                    exact hK (undef) _ HJ.out rfl (fun j y h => h) _ rfl
                  · obtain rfl := Option.some.inj ho.symm
                    have d22 : V 22 = .bool false := hdep ⟨22, .guard⟩ (by simp) rfl
                    clear hdep ho hJ
                    try simp only [fill, slotOf, List.size_toArray, List.length_cons, List.length_nil, Nat.reduceAdd, List.getElem?_toArray, List.getElem?_cons_zero, List.getElem?_cons_succ, Option.bind_some, Act.put, List.setIfInBounds_toArray, List.set_cons_zero, List.set_cons_succ] at hK ⊢
                    rw [d22] at hK ⊢
                    go_simp
                    exact hK (undef) _ HJ.out rfl (fun j y h => h) _ rfl
                  · obtain rfl := Option.some.inj ho.symm
                    have d22 : V 22 = .bool false := hdep ⟨22, .guard⟩ (by simp) rfl
                    clear hdep ho hJ
                    try simp only [fill, slotOf, List.size_toArray, List.length_cons, List.length_nil, Nat.reduceAdd, List.getElem?_toArray, List.getElem?_cons_zero, List.getElem?_cons_succ, Option.bind_some, Act.put, List.setIfInBounds_toArray, List.set_cons_zero, List.set_cons_succ] at hK ⊢
                    rw [d22] at hK ⊢
                    go_simp
                    exact hK (undef) _ HJ.out rfl (fun j y h => h) _ rfl
                  · obtain rfl := Option.some.inj ho.symm
                    have d22 : V 22 = .bool false := hdep ⟨22, .guard⟩ (by simp) rfl
                    clear hdep ho hJ
                    try simp only [fill, slotOf, List.size_toArray, List.length_cons, List.length_nil, Nat.reduceAdd, List.getElem?_toArray, List.getElem?_cons_zero, List.getElem?_cons_succ, Option.bind_some, Act.put, List.setIfInBounds_toArray, List.set_cons_zero, List.set_cons_succ] at hK ⊢
                    rw [d22] at hK ⊢
                    go_simp
                    exact hK (undef) _ HJ.out rfl (fun j y h => h) _ rfl
                  · obtain rfl := Option.some.inj ho.symm
                    have d22 : V 22 = .bool false := hdep ⟨22, .guard⟩ (by simp) rfl
                    clear hdep ho hJ
                    try simp only [fill, slotOf, List.size_toArray, List.length_cons, List.length_nil, Nat.reduceAdd, List.getElem?_toArray, List.getElem?_cons_zero, List.getElem?_cons_succ, Option.bind_some, Act.put, List.setIfInBounds_toArray, List.set_cons_zero, List.set_cons_succ] at hK ⊢
                    rw [d22] at hK ⊢
                    go_simp
                    exact hK (undef) _ HJ.out rfl (fun j y h => h) _ rfl
                  · obtain rfl := Option.some.inj ho.symm
                    have d22 : V 22 = .bool false := hdep ⟨22, .guard⟩ (by simp) rfl
                    clear hdep ho hJ
                    try simp only [fill, slotOf, List.size_toArray, List.length_cons, List.length_nil, Nat.reduceAdd, List.getElem?_toArray, List.getElem?_cons_zero, List.getElem?_cons_succ, Option.bind_some, Act.put, List.setIfInBounds_toArray, List.set_cons_zero, List.set_cons_succ] at hK ⊢
                    rw [d22] at hK ⊢
                    go_simp
                    exact hK (undef) _ HJ.out rfl (fun j y h => h) _ rfl
                  · obtain rfl := Option.some.inj ho.symm
                    have d22 : V 22 = .bool false := hdep ⟨22, .guard⟩ (by simp) rfl
                    clear hdep ho hJ
                    try simp only [fill, slotOf, List.size_toArray, List.length_cons, List.length_nil, Nat.reduceAdd, List.getElem?_toArray, List.getElem?_cons_zero, List.getElem?_cons_succ, Option.bind_some, Act.put, List.setIfInBounds_toArray, List.set_cons_zero, List.set_cons_succ] at hK ⊢
                    rw [d22] at hK ⊢
                    go_simp
                    exact hK (undef) _ HJ.out rfl (fun j y h => h) _ rfl
                  · obtain rfl := Option.some.inj ho.symm
                    have d22 : V 22 = .bool false := hdep ⟨22, .guard⟩ (by simp) rfl
                    clear hdep ho hJ
                    try simp only [fill, slotOf, List.size_toArray, List.length_cons, List.length_nil, Nat.reduceAdd, List.getElem?_toArray, List.getElem?_cons_zero, List.getElem?_cons_succ, Option.bind_some, Act.put, List.setIfInBounds_toArray, List.set_cons_zero, List.set_cons_succ] at hK ⊢
                    rw [d22] at hK ⊢
                    go_simp
                    exact hK (undef) _ HJ.out rfl (fun j y h => h) _ rfl
                  · obtain rfl := Option.some.inj ho.symm
                    have d22 : V 22 = .bool false := hdep ⟨22, .data⟩ (by simp) rfl
                    have d31 : V 31 = undef := hdep ⟨31, .data⟩ (by simp) rfl
                    have d19 : V 19 = .bool false := hdep ⟨19, .guard⟩ (by simp) rfl
                    clear hdep ho hJ
                    try simp only [fill, slotOf, List.size_toArray, List.length_cons, List.length_nil, Nat.reduceAdd, List.getElem?_toArray, List.getElem?_cons_zero, List.getElem?_cons_succ, Option.bind_some, Act.put, List.setIfInBounds_toArray, List.set_cons_zero, List.set_cons_succ] at hK ⊢
                    rw [d22, d31, d19] at hK ⊢
                    go_simp
                    exact hK (.bool false) _ HJ.out rfl (fun j y h => h) _ rfl
                  · obtain rfl := Option.some.inj ho.symm
                    have d19 : V 19 = .bool false := hdep ⟨19, .data⟩ (by simp) rfl
                    have d32 : V 32 = .bool false := hdep ⟨32, .data⟩ (by simp) rfl
                    clear hdep ho hJ
                    try simp only [fill, slotOf, List.size_toArray, List.length_cons, List.length_nil, Nat.reduceAdd, List.getElem?_toArray, List.getElem?_cons_zero, List.getElem?_cons_succ, Option.bind_some, Act.put, List.setIfInBounds_toArray, List.set_cons_zero, List.set_cons_succ] at hK ⊢
                    rw [d19, d32] at hK ⊢
                    go_simp
                    exact hK (.bool false) _ HJ.out rfl (fun j y h => h) _ rfl
                · intro V w9 hJ hall
                  have dL : V 33 = .bool false := hall 33 (by decide)
                  have HJ9 := Lib.hid hJ
                  clear hall hJ
                  simp only [fill, slotOf, List.size_toArray, List.length_cons, List.length_nil, Nat.reduceAdd, List.getElem?_toArray, List.getElem?_cons_zero, List.getElem?_cons_succ, Option.bind_some, Act.put, List.setIfInBounds_toArray, List.set_cons_zero, List.set_cons_succ]
                  rw [dL]
                  clear dL
                  have HB9 := Lib.hid (HBX4.out.trans (HJ9.out.mono HBX4.out.size))
                  have hgn60 : gn ≤ 60 := by have := HSUM.out; have := HN60.out; omega
                  have HBW9 := Lib.hid (HBGX.out.trans (HJ9.out.mono HBGX.out.size))
                  go_wp2_with fail
                  go_roundw
                  case rel => exact ⟨k + 1, by omega, by go_num, HBW9⟩
                  case measure => simp [intOf]; omega
              · obtain ⟨k1, hk1⟩ : ∃ k1, k1 + 1 = k := ⟨k - 1, by omega⟩
                obtain ⟨y, hy⟩ : ∃ y, y = grs.getD k1 row0 := ⟨_, rfl⟩
                have hy9 := RowsAt.nine hrcell (show k1 < gn by omega) hy
                have HYC := Lib.hid (show ∀ w9, Below wx.heap.size wx w9 → w9.cell? ⟨rb, ro + k1 * 9, none⟩ = some (.int .i64 y.r.kind) ∧ w9.cell? ⟨rb, ro + k1 * 9 + 1, none⟩ = some (.int .i64 y.r.time) ∧ w9.cell? ⟨rb, ro + k1 * 9 + 2, none⟩ = some (.slice y.r.la y.r.ln y.r.lc) ∧ w9.cell? ⟨rb, ro + k1 * 9 + 3, none⟩ = some (.string y.r.text) ∧ w9.cell? ⟨rb, ro + k1 * 9 + 4, none⟩ = some (.int .i64 y.r.value) ∧ w9.cell? ⟨rb, ro + k1 * 9 + 5, none⟩ = some (.bool y.r.null) ∧ w9.cell? ⟨rb, ro + k1 * 9 + 6, none⟩ = some (.int .i64 y.who) ∧ w9.cell? ⟨rb, ro + k1 * 9 + 7, none⟩ = some (.int .i64 y.sq) ∧ w9.cell? ⟨rb, ro + k1 * 9 + 8, none⟩ = some (.int .i64 y.pl) from fun w9 hb9 => by
                  have hl2 : rb < wx.heap.size := Nat.lt_of_lt_of_le hrbl hbwx.size
                  have hc : ∀ q u, wq.cell? ⟨rb, q, none⟩ = some u → w9.cell? ⟨rb, q, none⟩ = some u := fun q u hq => (hb9.cell (p := ⟨rb, q, none⟩) hl2).trans ((hbwx.cell (p := ⟨rb, q, none⟩) hrbl).trans hq)
                  obtain ⟨t0, t1, t2, t3, t4, t5, t6, t7, t8⟩ := hy9
                  exact ⟨hc _ _ t0, hc _ _ t1, hc _ _ t2, hc _ _ t3, hc _ _ t4, hc _ _ t5, hc _ _ t6, hc _ _ t7, hc _ _ t8⟩)
                have HORD := Lib.hid (show decide (0 < cmpRow y x) = false from decide_eq_false (by rw [hy, hx]; exact HSO.out.order HGM.out (by omega) (show k < grs.length from hkl)))
                have hkp : (0 : Int) < (k : Int) := by omega
                have hkd : decide ((0 : Int) < (k : Int)) = true := decide_eq_true hkp
                have hkd2 : decide (0 < k) = true := decide_eq_true (by omega)
                have hkn9 : 0 < k := by omega
                have hkw : IntKind.i64.wrap ((k : Int) - 1) = (k1 : Int) := by have := HSUM.out; have := HN60.out; rw [IntKind.wrap_i64]; omega
                have hk1n : (k1 : Int) < (gn : Int) := by omega
                have hk1p : (0 : Int) ≤ (k1 : Int) := by omega
                have hkz : ¬ k = 0 := hk0
                clear hrk hrcell hx hkl hxm hkey hlab hfit hset hsz hwx hbx hbwx hxblk hbgq hbgx hy hy9 hk1
                go_wp2_with fail
                rw [← HWX.out, ← HBXE.out]
                refine wp_region_fill (by kernel_rfl) (by kernel_rfl) (by kernel_rfl) (Below wx.heap.size wx) (FV (fun j => match j with | 0 => some (.pointer (some ⟨bx, 0, none⟩)) | 1 => some (.pointer (some ⟨bx, 1, none⟩)) | 2 => some (.int .i64 x.r.time) | 3 => some (.int .i64 win) | 4 => some (.int .i64 gw) | 5 => some (.pointer (some ⟨bg, 0, none⟩)) | 6 => some (.int .i64 gw) | 7 => some (.bool false) | 8 => some (.bool false) | 9 => some (.pointer (some ⟨bx, 0, none⟩)) | 10 => some (.pointer (some ⟨bx, 2, none⟩)) | 11 => some (.slice x.r.la x.r.ln x.r.lc) | 12 => some (.slice b m d) | 13 => none | 14 => some (.string gpt) | 15 => some (.pointer (some ⟨bg, 1, none⟩)) | 16 => some (.string gpt) | 17 => some (.bool false) | 18 => some (.bool false) | 19 => some (.bool false) | 20 => some (.int .i64 (k : Int)) | 21 => some (.bool true) | 22 => some (.bool true) | 23 => some (.pointer (some ⟨bg, 2, none⟩)) | 24 => some (.slice (some ⟨rb, ro, none⟩) gn gc) | 25 => some (.int .i64 (k : Int)) | 26 => some (.int .i64 (k1 : Int)) | 27 => some (.pointer (some ⟨rb, ro + k1 * 9, none⟩)) | 28 => some (.agg #[.int .i64 y.r.kind, .int .i64 y.r.time, .slice y.r.la y.r.ln y.r.lc, .string y.r.text, .int .i64 y.r.value, .bool y.r.null, .int .i64 y.who, .int .i64 y.sq, .int .i64 y.pl]) | 29 => some (.agg #[.int .i64 x.r.kind, .int .i64 x.r.time, .slice x.r.la x.r.ln x.r.lc, .string x.r.text, .int .i64 x.r.value, .bool x.r.null, .int .i64 x.who, .int .i64 x.sq, .int .i64 x.pl]) | 30 => some (.int .i64 (cmpRow y x)) | 31 => some (.bool false) | 32 => some (.bool false) | 33 => some (.bool false) | _ => none) (fun (u : Value) (w : World) => ∃ ap cpp, u = .slice ap (partTo x.r.labs ss x.r.labs.length).length cpp ∧ LabsAt w ap (partTo x.r.labs ss x.r.labs.length).length cpp (partTo x.r.labs ss x.r.labs.length))) (Below.refl _ _).drew ?_ ?_
                · intro i9 o ho V w9 K hJ hdep hK
                  have HJ := Lib.hid hJ
                  simp only [fill, slotOf, List.size_toArray, List.length_cons, List.length_nil, Nat.reduceAdd, List.getElem?_toArray, List.getElem?_cons_zero, List.getElem?_cons_succ, Option.bind_some, Act.put, List.setIfInBounds_toArray, List.set_cons_zero, List.set_cons_succ] at hK ⊢
                  have hin : i9 < 34 := (Array.getElem?_eq_some_iff.1 ho).1
                  have hcs : i9 = 0 ∨ i9 = 1 ∨ i9 = 2 ∨ i9 = 3 ∨ i9 = 4 ∨ i9 = 5 ∨ i9 = 6 ∨ i9 = 7 ∨ i9 = 8 ∨ i9 = 9 ∨ i9 = 10 ∨ i9 = 11 ∨ i9 = 12 ∨ i9 = 13 ∨ i9 = 14 ∨ i9 = 15 ∨ i9 = 16 ∨ i9 = 17 ∨ i9 = 18 ∨ i9 = 19 ∨ i9 = 20 ∨ i9 = 21 ∨ i9 = 22 ∨ i9 = 23 ∨ i9 = 24 ∨ i9 = 25 ∨ i9 = 26 ∨ i9 = 27 ∨ i9 = 28 ∨ i9 = 29 ∨ i9 = 30 ∨ i9 = 31 ∨ i9 = 32 ∨ i9 = 33 := by omega
                  clear hin
                  rcases hcs with rfl | rfl | rfl | rfl | rfl | rfl | rfl | rfl | rfl | rfl | rfl | rfl | rfl | rfl | rfl | rfl | rfl | rfl | rfl | rfl | rfl | rfl | rfl | rfl | rfl | rfl | rfl | rfl | rfl | rfl | rfl | rfl | rfl | rfl
                  · obtain rfl := Option.some.inj ho.symm
                    clear hdep ho hJ
                    try simp only [fill, slotOf, List.size_toArray, List.length_cons, List.length_nil, Nat.reduceAdd, List.getElem?_toArray, List.getElem?_cons_zero, List.getElem?_cons_succ, Option.bind_some, Act.put, List.setIfInBounds_toArray, List.set_cons_zero, List.set_cons_succ] at hK ⊢
                    go_simp
                    exact hK (.pointer (some ⟨bx, 0, none⟩)) _ HJ.out rfl (fun j y h => h) _ rfl
                  · obtain rfl := Option.some.inj ho.symm
                    have d0 : V 0 = .pointer (some ⟨bx, 0, none⟩) := hdep ⟨0, .data⟩ (by simp) rfl
                    clear hdep ho hJ
                    try simp only [fill, slotOf, List.size_toArray, List.length_cons, List.length_nil, Nat.reduceAdd, List.getElem?_toArray, List.getElem?_cons_zero, List.getElem?_cons_succ, Option.bind_some, Act.put, List.setIfInBounds_toArray, List.set_cons_zero, List.set_cons_succ] at hK ⊢
                    rw [d0] at hK ⊢
                    go_simp
                    exact hK (.pointer (some ⟨bx, 1, none⟩)) _ HJ.out rfl (fun j y h => h) _ rfl
                  · obtain rfl := Option.some.inj ho.symm
                    have d1 : V 1 = .pointer (some ⟨bx, 1, none⟩) := hdep ⟨1, .data⟩ (by simp) rfl
                    have e1 : w9.cell? ⟨bx, 1, none⟩ = some (.int .i64 x.r.time) := cell_blk ((hJ.block bx HBXL.out).trans HXB.out) rfl
                    clear hdep ho hJ
                    try simp only [fill, slotOf, List.size_toArray, List.length_cons, List.length_nil, Nat.reduceAdd, List.getElem?_toArray, List.getElem?_cons_zero, List.getElem?_cons_succ, Option.bind_some, Act.put, List.setIfInBounds_toArray, List.set_cons_zero, List.set_cons_succ] at hK ⊢
                    rw [d1] at hK ⊢
                    go_simp
                    exact hK (.int .i64 x.r.time) _ HJ.out rfl (fun j y h => h) _ rfl
                  · obtain rfl := Option.some.inj ho.symm
                    clear hdep ho hJ
                    try simp only [fill, slotOf, List.size_toArray, List.length_cons, List.length_nil, Nat.reduceAdd, List.getElem?_toArray, List.getElem?_cons_zero, List.getElem?_cons_succ, Option.bind_some, Act.put, List.setIfInBounds_toArray, List.set_cons_zero, List.set_cons_succ] at hK ⊢
                    go_simp
                    exact hK (.int .i64 win) _ HJ.out rfl (fun j y h => h) _ rfl
                  · obtain rfl := Option.some.inj ho.symm
                    have d2 : V 2 = .int .i64 x.r.time := hdep ⟨2, .data⟩ (by simp) rfl
                    have d3 : V 3 = .int .i64 win := hdep ⟨3, .data⟩ (by simp) rfl
                    clear hdep ho hJ
                    try simp only [fill, slotOf, List.size_toArray, List.length_cons, List.length_nil, Nat.reduceAdd, List.getElem?_toArray, List.getElem?_cons_zero, List.getElem?_cons_succ, Option.bind_some, Act.put, List.setIfInBounds_toArray, List.set_cons_zero, List.set_cons_succ] at hK ⊢
                    rw [d2, d3] at hK ⊢
                    go_simp
                    refine hK (.int .i64 gw) _ HJ.out rfl (fun j y h => h) _ ?_
                    first | rfl | (rw [hqw]; rfl) | (simp only [hqw]; rfl)
                  · obtain rfl := Option.some.inj ho.symm
                    clear hdep ho hJ
                    try simp only [fill, slotOf, List.size_toArray, List.length_cons, List.length_nil, Nat.reduceAdd, List.getElem?_toArray, List.getElem?_cons_zero, List.getElem?_cons_succ, Option.bind_some, Act.put, List.setIfInBounds_toArray, List.set_cons_zero, List.set_cons_succ] at hK ⊢
                    go_simp
                    exact hK (.pointer (some ⟨bg, 0, none⟩)) _ HJ.out rfl (fun j y h => h) _ rfl
                  · obtain rfl := Option.some.inj ho.symm
                    have d5 : V 5 = .pointer (some ⟨bg, 0, none⟩) := hdep ⟨5, .data⟩ (by simp) rfl
                    have e1 : w9.cell? ⟨bg, 0, none⟩ = some (.int .i64 gw) := cell_blk ((hJ.block bg HBGL.out).trans HGBX.out) rfl
                    clear hdep ho hJ
                    try simp only [fill, slotOf, List.size_toArray, List.length_cons, List.length_nil, Nat.reduceAdd, List.getElem?_toArray, List.getElem?_cons_zero, List.getElem?_cons_succ, Option.bind_some, Act.put, List.setIfInBounds_toArray, List.set_cons_zero, List.set_cons_succ] at hK ⊢
                    rw [d5] at hK ⊢
                    go_simp
                    exact hK (.int .i64 gw) _ HJ.out rfl (fun j y h => h) _ rfl
                  · obtain rfl := Option.some.inj ho.symm
                    have d4 : V 4 = .int .i64 gw := hdep ⟨4, .data⟩ (by simp) rfl
                    have d6 : V 6 = .int .i64 gw := hdep ⟨6, .data⟩ (by simp) rfl
                    have e1 : (gw != gw) = false := by simp
                    clear hdep ho hJ
                    try simp only [fill, slotOf, List.size_toArray, List.length_cons, List.length_nil, Nat.reduceAdd, List.getElem?_toArray, List.getElem?_cons_zero, List.getElem?_cons_succ, Option.bind_some, Act.put, List.setIfInBounds_toArray, List.set_cons_zero, List.set_cons_succ] at hK ⊢
                    rw [d4, d6] at hK ⊢
                    go_simp
                    exact hK (.bool false) _ HJ.out rfl (fun j y h => h) _ rfl
                  · obtain rfl := Option.some.inj ho.symm
                    have d7 : V 7 = .bool false := hdep ⟨7, .data⟩ (by simp) rfl
                    clear hdep ho hJ
                    try simp only [fill, slotOf, List.size_toArray, List.length_cons, List.length_nil, Nat.reduceAdd, List.getElem?_toArray, List.getElem?_cons_zero, List.getElem?_cons_succ, Option.bind_some, Act.put, List.setIfInBounds_toArray, List.set_cons_zero, List.set_cons_succ] at hK ⊢
                    rw [d7] at hK ⊢
                    go_simp
                    exact hK (.bool false) _ HJ.out rfl (fun j y h => h) _ rfl
                  · obtain rfl := Option.some.inj ho.symm
                    have d8 : V 8 = .bool false := hdep ⟨8, .guard⟩ (by simp) rfl
                    clear hdep ho hJ
                    try simp only [fill, slotOf, List.size_toArray, List.length_cons, List.length_nil, Nat.reduceAdd, List.getElem?_toArray, List.getElem?_cons_zero, List.getElem?_cons_succ, Option.bind_some, Act.put, List.setIfInBounds_toArray, List.set_cons_zero, List.set_cons_succ] at hK ⊢
                    rw [d8] at hK ⊢
                    go_simp
                    exact hK (.pointer (some ⟨bx, 0, none⟩)) _ HJ.out rfl (fun j y h => h) _ rfl
                  · obtain rfl := Option.some.inj ho.symm
                    have d9 : V 9 = .pointer (some ⟨bx, 0, none⟩) := hdep ⟨9, .data⟩ (by simp) rfl
                    have d8 : V 8 = .bool false := hdep ⟨8, .guard⟩ (by simp) rfl
                    clear hdep ho hJ
                    try simp only [fill, slotOf, List.size_toArray, List.length_cons, List.length_nil, Nat.reduceAdd, List.getElem?_toArray, List.getElem?_cons_zero, List.getElem?_cons_succ, Option.bind_some, Act.put, List.setIfInBounds_toArray, List.set_cons_zero, List.set_cons_succ] at hK ⊢
                    rw [d9, d8] at hK ⊢
                    go_simp
                    exact hK (.pointer (some ⟨bx, 2, none⟩)) _ HJ.out rfl (fun j y h => h) _ rfl
                  · obtain rfl := Option.some.inj ho.symm
                    have d10 : V 10 = .pointer (some ⟨bx, 2, none⟩) := hdep ⟨10, .data⟩ (by simp) rfl
                    have d8 : V 8 = .bool false := hdep ⟨8, .guard⟩ (by simp) rfl
                    have e1 : w9.cell? ⟨bx, 2, none⟩ = some (.slice x.r.la x.r.ln x.r.lc) := cell_blk ((hJ.block bx HBXL.out).trans HXB.out) rfl
                    clear hdep ho hJ
                    try simp only [fill, slotOf, List.size_toArray, List.length_cons, List.length_nil, Nat.reduceAdd, List.getElem?_toArray, List.getElem?_cons_zero, List.getElem?_cons_succ, Option.bind_some, Act.put, List.setIfInBounds_toArray, List.set_cons_zero, List.set_cons_succ] at hK ⊢
                    rw [d10, d8] at hK ⊢
                    go_simp
                    exact hK (.slice x.r.la x.r.ln x.r.lc) _ HJ.out rfl (fun j y h => h) _ rfl
                  · obtain rfl := Option.some.inj ho.symm
                    have d8 : V 8 = .bool false := hdep ⟨8, .guard⟩ (by simp) rfl
                    clear hdep ho hJ
                    try simp only [fill, slotOf, List.size_toArray, List.length_cons, List.length_nil, Nat.reduceAdd, List.getElem?_toArray, List.getElem?_cons_zero, List.getElem?_cons_succ, Option.bind_some, Act.put, List.setIfInBounds_toArray, List.set_cons_zero, List.set_cons_succ] at hK ⊢
                    rw [d8] at hK ⊢
                    go_simp
                    exact hK (.slice b m d) _ HJ.out rfl (fun j y h => h) _ rfl
                  · obtain rfl := Option.some.inj ho.symm
                    have d11 : V 11 = .slice x.r.la x.r.ln x.r.lc := hdep ⟨11, .data⟩ (by simp) rfl
                    have d12 : V 12 = .slice b m d := hdep ⟨12, .data⟩ (by simp) rfl
                    have d8 : V 8 = .bool false := hdep ⟨8, .guard⟩ (by simp) rfl
                    clear hdep ho hJ
                    try simp only [fill, slotOf, List.size_toArray, List.length_cons, List.length_nil, Nat.reduceAdd, List.getElem?_toArray, List.getElem?_cons_zero, List.getElem?_cons_succ, Option.bind_some, Act.put, List.setIfInBounds_toArray, List.set_cons_zero, List.set_cons_succ] at hK ⊢
                    rw [d11, d12, d8] at hK ⊢
                    go_simp
                    refine (HPART.out w9 HJ.out).mono ?_
                    rintro e w8 ⟨ap, cpp, rfl, hlp, hb8⟩
                    exact hK (.slice ap (partTo x.r.labs ss x.r.labs.length).length cpp) _ (HJ.out.trans (hb8.mono HJ.out.size)) ⟨ap, cpp, rfl, hlp⟩ (FV.mono (SPM.out _ _ hb8)) _ rfl
                  · have hoo := Option.some.inj ho.symm
                    obtain ⟨ap, cpp, eV, hlp⟩ : ∃ ap cpp, V 13 = .slice ap (partTo x.r.labs ss x.r.labs.length).length cpp ∧ LabsAt w9 ap (partTo x.r.labs ss x.r.labs.length).length cpp (partTo x.r.labs ss x.r.labs.length) := hdep ⟨13, .data⟩ (by rw [hoo]; simp) rfl
                    have HTX := rtext_any hlp HISP.out
                    rw [HPTX.out] at HTX
                    have HTX := Lib.hid HTX
                    subst hoo
                    have d8 : V 8 = .bool false := hdep ⟨8, .guard⟩ (by simp) rfl
                    clear hdep ho hJ hlp
                    try simp only [fill, slotOf, List.size_toArray, List.length_cons, List.length_nil, Nat.reduceAdd, List.getElem?_toArray, List.getElem?_cons_zero, List.getElem?_cons_succ, Option.bind_some, Act.put, List.setIfInBounds_toArray, List.set_cons_zero, List.set_cons_succ] at hK ⊢
                    rw [d8, eV] at hK ⊢
                    go_simp
                    refine (HTX.out).mono ?_
                    rintro e w8 ⟨rfl, hb8⟩
                    exact hK (.string gpt) _ (HJ.out.trans (hb8.mono HJ.out.size)) rfl (FV.mono (SPM.out _ _ hb8)) _ rfl
                  · obtain rfl := Option.some.inj ho.symm
                    have d8 : V 8 = .bool false := hdep ⟨8, .guard⟩ (by simp) rfl
                    clear hdep ho hJ
                    try simp only [fill, slotOf, List.size_toArray, List.length_cons, List.length_nil, Nat.reduceAdd, List.getElem?_toArray, List.getElem?_cons_zero, List.getElem?_cons_succ, Option.bind_some, Act.put, List.setIfInBounds_toArray, List.set_cons_zero, List.set_cons_succ] at hK ⊢
                    rw [d8] at hK ⊢
                    go_simp
                    exact hK (.pointer (some ⟨bg, 1, none⟩)) _ HJ.out rfl (fun j y h => h) _ rfl
                  · obtain rfl := Option.some.inj ho.symm
                    have d15 : V 15 = .pointer (some ⟨bg, 1, none⟩) := hdep ⟨15, .data⟩ (by simp) rfl
                    have d8 : V 8 = .bool false := hdep ⟨8, .guard⟩ (by simp) rfl
                    have e1 : w9.cell? ⟨bg, 1, none⟩ = some (.string gpt) := cell_blk ((hJ.block bg HBGL.out).trans HGBX.out) rfl
                    clear hdep ho hJ
                    try simp only [fill, slotOf, List.size_toArray, List.length_cons, List.length_nil, Nat.reduceAdd, List.getElem?_toArray, List.getElem?_cons_zero, List.getElem?_cons_succ, Option.bind_some, Act.put, List.setIfInBounds_toArray, List.set_cons_zero, List.set_cons_succ] at hK ⊢
                    rw [d15, d8] at hK ⊢
                    go_simp
                    exact hK (.string gpt) _ HJ.out rfl (fun j y h => h) _ rfl
                  · obtain rfl := Option.some.inj ho.symm
                    have d14 : V 14 = .string gpt := hdep ⟨14, .data⟩ (by simp) rfl
                    have d16 : V 16 = .string gpt := hdep ⟨16, .data⟩ (by simp) rfl
                    have d8 : V 8 = .bool false := hdep ⟨8, .guard⟩ (by simp) rfl
                    have e1 : (gpt.toList == gpt.toList) = true := by simp
                    clear hdep ho hJ
                    try simp only [fill, slotOf, List.size_toArray, List.length_cons, List.length_nil, Nat.reduceAdd, List.getElem?_toArray, List.getElem?_cons_zero, List.getElem?_cons_succ, Option.bind_some, Act.put, List.setIfInBounds_toArray, List.set_cons_zero, List.set_cons_succ] at hK ⊢
                    rw [d14, d16, d8] at hK ⊢
                    go_simp
                    exact hK (.bool false) _ HJ.out rfl (fun j y h => h) _ rfl
                  · obtain rfl := Option.some.inj ho.symm
                    have d8 : V 8 = .bool false := hdep ⟨8, .data⟩ (by simp) rfl
                    have d17 : V 17 = .bool false := hdep ⟨17, .data⟩ (by simp) rfl
                    clear hdep ho hJ
                    try simp only [fill, slotOf, List.size_toArray, List.length_cons, List.length_nil, Nat.reduceAdd, List.getElem?_toArray, List.getElem?_cons_zero, List.getElem?_cons_succ, Option.bind_some, Act.put, List.setIfInBounds_toArray, List.set_cons_zero, List.set_cons_succ] at hK ⊢
                    rw [d8, d17] at hK ⊢
                    go_simp
                    exact hK (.bool false) _ HJ.out rfl (fun j y h => h) _ rfl
                  · obtain rfl := Option.some.inj ho.symm
                    have d18 : V 18 = .bool false := hdep ⟨18, .data⟩ (by simp) rfl
                    clear hdep ho hJ
                    try simp only [fill, slotOf, List.size_toArray, List.length_cons, List.length_nil, Nat.reduceAdd, List.getElem?_toArray, List.getElem?_cons_zero, List.getElem?_cons_succ, Option.bind_some, Act.put, List.setIfInBounds_toArray, List.set_cons_zero, List.set_cons_succ] at hK ⊢
                    rw [d18] at hK ⊢
                    go_simp
                    exact hK (.bool false) _ HJ.out rfl (fun j y h => h) _ rfl
                  · obtain rfl := Option.some.inj ho.symm
                    have d19 : V 19 = .bool false := hdep ⟨19, .guard⟩ (by simp) rfl
                    clear hdep ho hJ
                    try simp only [fill, slotOf, List.size_toArray, List.length_cons, List.length_nil, Nat.reduceAdd, List.getElem?_toArray, List.getElem?_cons_zero, List.getElem?_cons_succ, Option.bind_some, Act.put, List.setIfInBounds_toArray, List.set_cons_zero, List.set_cons_succ] at hK ⊢
                    rw [d19] at hK ⊢
                    go_simp
                    exact hK (.int .i64 (k : Int)) _ HJ.out rfl (fun j y h => h) _ rfl
                  · obtain rfl := Option.some.inj ho.symm
                    have d20 : V 20 = .int .i64 (k : Int) := hdep ⟨20, .data⟩ (by simp) rfl
                    have d19 : V 19 = .bool false := hdep ⟨19, .guard⟩ (by simp) rfl
                    clear hdep ho hJ
                    try simp only [fill, slotOf, List.size_toArray, List.length_cons, List.length_nil, Nat.reduceAdd, List.getElem?_toArray, List.getElem?_cons_zero, List.getElem?_cons_succ, Option.bind_some, Act.put, List.setIfInBounds_toArray, List.set_cons_zero, List.set_cons_succ] at hK ⊢
                    rw [d20, d19] at hK ⊢
                    go_simp
                    refine hK (.bool true) _ HJ.out rfl (fun j y h => h) _ ?_
                    first | rfl | (rw [hkd]; rfl) | (rw [hkd2]; rfl)
                  · obtain rfl := Option.some.inj ho.symm
                    have d21 : V 21 = .bool true := hdep ⟨21, .data⟩ (by simp) rfl
                    have d19 : V 19 = .bool false := hdep ⟨19, .guard⟩ (by simp) rfl
                    clear hdep ho hJ
                    try simp only [fill, slotOf, List.size_toArray, List.length_cons, List.length_nil, Nat.reduceAdd, List.getElem?_toArray, List.getElem?_cons_zero, List.getElem?_cons_succ, Option.bind_some, Act.put, List.setIfInBounds_toArray, List.set_cons_zero, List.set_cons_succ] at hK ⊢
                    rw [d21, d19] at hK ⊢
                    go_simp
                    exact hK (.bool true) _ HJ.out rfl (fun j y h => h) _ rfl
                  · obtain rfl := Option.some.inj ho.symm
                    have d22 : V 22 = .bool true := hdep ⟨22, .guard⟩ (by simp) rfl
                    clear hdep ho hJ
                    try simp only [fill, slotOf, List.size_toArray, List.length_cons, List.length_nil, Nat.reduceAdd, List.getElem?_toArray, List.getElem?_cons_zero, List.getElem?_cons_succ, Option.bind_some, Act.put, List.setIfInBounds_toArray, List.set_cons_zero, List.set_cons_succ] at hK ⊢
                    rw [d22] at hK ⊢
                    go_simp
                    exact hK (.pointer (some ⟨bg, 2, none⟩)) _ HJ.out rfl (fun j y h => h) _ rfl
                  · obtain rfl := Option.some.inj ho.symm
                    have d23 : V 23 = .pointer (some ⟨bg, 2, none⟩) := hdep ⟨23, .data⟩ (by simp) rfl
                    have d22 : V 22 = .bool true := hdep ⟨22, .guard⟩ (by simp) rfl
                    have e1 : w9.cell? ⟨bg, 2, none⟩ = some (.slice (some ⟨rb, ro, none⟩) gn gc) := HGC2.out w9 HJ.out
                    clear hdep ho hJ
                    try simp only [fill, slotOf, List.size_toArray, List.length_cons, List.length_nil, Nat.reduceAdd, List.getElem?_toArray, List.getElem?_cons_zero, List.getElem?_cons_succ, Option.bind_some, Act.put, List.setIfInBounds_toArray, List.set_cons_zero, List.set_cons_succ] at hK ⊢
                    rw [d23, d22] at hK ⊢
                    go_simp
                    exact hK (.slice (some ⟨rb, ro, none⟩) gn gc) _ HJ.out rfl (fun j y h => h) _ rfl
                  · obtain rfl := Option.some.inj ho.symm
                    have d22 : V 22 = .bool true := hdep ⟨22, .guard⟩ (by simp) rfl
                    clear hdep ho hJ
                    try simp only [fill, slotOf, List.size_toArray, List.length_cons, List.length_nil, Nat.reduceAdd, List.getElem?_toArray, List.getElem?_cons_zero, List.getElem?_cons_succ, Option.bind_some, Act.put, List.setIfInBounds_toArray, List.set_cons_zero, List.set_cons_succ] at hK ⊢
                    rw [d22] at hK ⊢
                    go_simp
                    exact hK (.int .i64 (k : Int)) _ HJ.out rfl (fun j y h => h) _ rfl
                  · obtain rfl := Option.some.inj ho.symm
                    have d25 : V 25 = .int .i64 (k : Int) := hdep ⟨25, .data⟩ (by simp) rfl
                    have d22 : V 22 = .bool true := hdep ⟨22, .guard⟩ (by simp) rfl
                    clear hdep ho hJ
                    try simp only [fill, slotOf, List.size_toArray, List.length_cons, List.length_nil, Nat.reduceAdd, List.getElem?_toArray, List.getElem?_cons_zero, List.getElem?_cons_succ, Option.bind_some, Act.put, List.setIfInBounds_toArray, List.set_cons_zero, List.set_cons_succ] at hK ⊢
                    rw [d25, d22] at hK ⊢
                    go_simp
                    exact hK (.int .i64 (k1 : Int)) _ HJ.out rfl (fun j y h => h) _ rfl
                  · obtain rfl := Option.some.inj ho.symm
                    have d24 : V 24 = .slice (some ⟨rb, ro, none⟩) gn gc := hdep ⟨24, .data⟩ (by simp) rfl
                    have d26 : V 26 = .int .i64 (k1 : Int) := hdep ⟨26, .data⟩ (by simp) rfl
                    have d22 : V 22 = .bool true := hdep ⟨22, .guard⟩ (by simp) rfl
                    clear hdep ho hJ
                    try simp only [fill, slotOf, List.size_toArray, List.length_cons, List.length_nil, Nat.reduceAdd, List.getElem?_toArray, List.getElem?_cons_zero, List.getElem?_cons_succ, Option.bind_some, Act.put, List.setIfInBounds_toArray, List.set_cons_zero, List.set_cons_succ] at hK ⊢
                    rw [d24, d26, d22] at hK ⊢
                    go_simp
                    exact hK (.pointer (some ⟨rb, ro + k1 * 9, none⟩)) _ HJ.out rfl (fun j y h => h) _ rfl
                  · obtain rfl := Option.some.inj ho.symm
                    have d27 : V 27 = .pointer (some ⟨rb, ro + k1 * 9, none⟩) := hdep ⟨27, .data⟩ (by simp) rfl
                    have d22 : V 22 = .bool true := hdep ⟨22, .guard⟩ (by simp) rfl
                    have hq := HYC.out w9 HJ.out
                    have e0 := hq.1
                    have e1 := hq.2.1
                    have e2 := hq.2.2.1
                    have e3 := hq.2.2.2.1
                    have e4 := hq.2.2.2.2.1
                    have e5 := hq.2.2.2.2.2.1
                    have e6 := hq.2.2.2.2.2.2.1
                    have e7 := hq.2.2.2.2.2.2.2.1
                    have e8 := hq.2.2.2.2.2.2.2.2
                    clear hq
                    clear hdep ho hJ
                    try simp only [fill, slotOf, List.size_toArray, List.length_cons, List.length_nil, Nat.reduceAdd, List.getElem?_toArray, List.getElem?_cons_zero, List.getElem?_cons_succ, Option.bind_some, Act.put, List.setIfInBounds_toArray, List.set_cons_zero, List.set_cons_succ] at hK ⊢
                    rw [d27, d22] at hK ⊢
                    go_simp
                    exact hK (.agg #[.int .i64 y.r.kind, .int .i64 y.r.time, .slice y.r.la y.r.ln y.r.lc, .string y.r.text, .int .i64 y.r.value, .bool y.r.null, .int .i64 y.who, .int .i64 y.sq, .int .i64 y.pl]) _ HJ.out rfl (fun j y h => h) _ rfl
                  · obtain rfl := Option.some.inj ho.symm
                    have d22 : V 22 = .bool true := hdep ⟨22, .guard⟩ (by simp) rfl
                    have hxb := (hJ.block bx HBXL.out).trans HXB.out
                    have e0 : w9.cell? ⟨bx, 0, none⟩ = some (.int .i64 x.r.kind) := cell_blk hxb rfl
                    have e1 : w9.cell? ⟨bx, 1, none⟩ = some (.int .i64 x.r.time) := cell_blk hxb rfl
                    have e2 : w9.cell? ⟨bx, 2, none⟩ = some (.slice x.r.la x.r.ln x.r.lc) := cell_blk hxb rfl
                    have e3 : w9.cell? ⟨bx, 3, none⟩ = some (.string x.r.text) := cell_blk hxb rfl
                    have e4 : w9.cell? ⟨bx, 4, none⟩ = some (.int .i64 x.r.value) := cell_blk hxb rfl
                    have e5 : w9.cell? ⟨bx, 5, none⟩ = some (.bool x.r.null) := cell_blk hxb rfl
                    have e6 : w9.cell? ⟨bx, 6, none⟩ = some (.int .i64 x.who) := cell_blk hxb rfl
                    have e7 : w9.cell? ⟨bx, 7, none⟩ = some (.int .i64 x.sq) := cell_blk hxb rfl
                    have e8 : w9.cell? ⟨bx, 8, none⟩ = some (.int .i64 x.pl) := cell_blk hxb rfl
                    clear hdep ho hJ hxb
                    try simp only [fill, slotOf, List.size_toArray, List.length_cons, List.length_nil, Nat.reduceAdd, List.getElem?_toArray, List.getElem?_cons_zero, List.getElem?_cons_succ, Option.bind_some, Act.put, List.setIfInBounds_toArray, List.set_cons_zero, List.set_cons_succ] at hK ⊢
                    rw [d22] at hK ⊢
                    go_simp
                    exact hK (.agg #[.int .i64 x.r.kind, .int .i64 x.r.time, .slice x.r.la x.r.ln x.r.lc, .string x.r.text, .int .i64 x.r.value, .bool x.r.null, .int .i64 x.who, .int .i64 x.sq, .int .i64 x.pl]) _ HJ.out rfl (fun j y h => h) _ rfl
                  · obtain rfl := Option.some.inj ho.symm
                    have d28 : V 28 = .agg #[.int .i64 y.r.kind, .int .i64 y.r.time, .slice y.r.la y.r.ln y.r.lc, .string y.r.text, .int .i64 y.r.value, .bool y.r.null, .int .i64 y.who, .int .i64 y.sq, .int .i64 y.pl] := hdep ⟨28, .data⟩ (by simp) rfl
                    have d29 : V 29 = .agg #[.int .i64 x.r.kind, .int .i64 x.r.time, .slice x.r.la x.r.ln x.r.lc, .string x.r.text, .int .i64 x.r.value, .bool x.r.null, .int .i64 x.who, .int .i64 x.sq, .int .i64 x.pl] := hdep ⟨29, .data⟩ (by simp) rfl
                    have d22 : V 22 = .bool true := hdep ⟨22, .guard⟩ (by simp) rfl
                    clear hdep ho hJ
                    try simp only [fill, slotOf, List.size_toArray, List.length_cons, List.length_nil, Nat.reduceAdd, List.getElem?_toArray, List.getElem?_cons_zero, List.getElem?_cons_succ, Option.bind_some, Act.put, List.setIfInBounds_toArray, List.set_cons_zero, List.set_cons_succ] at hK ⊢
                    rw [d28, d29, d22] at hK ⊢
                    go_simp
                    refine (compare_any y x _).mono ?_
                    rintro e w8 ⟨rfl, hb8⟩
                    exact hK (.int .i64 (cmpRow y x)) _ (HJ.out.trans (hb8.mono HJ.out.size)) rfl (FV.mono (SPM.out _ _ hb8)) _ rfl
                  · obtain rfl := Option.some.inj ho.symm
                    have d30 : V 30 = .int .i64 (cmpRow y x) := hdep ⟨30, .data⟩ (by simp) rfl
                    have d22 : V 22 = .bool true := hdep ⟨22, .guard⟩ (by simp) rfl
                    have e1 := HORD.out
                    clear hdep ho hJ
                    try simp only [fill, slotOf, List.size_toArray, List.length_cons, List.length_nil, Nat.reduceAdd, List.getElem?_toArray, List.getElem?_cons_zero, List.getElem?_cons_succ, Option.bind_some, Act.put, List.setIfInBounds_toArray, List.set_cons_zero, List.set_cons_succ] at hK ⊢
                    rw [d30, d22] at hK ⊢
                    go_simp
                    exact hK (.bool false) _ HJ.out rfl (fun j y h => h) _ rfl
                  · obtain rfl := Option.some.inj ho.symm
                    have d22 : V 22 = .bool true := hdep ⟨22, .data⟩ (by simp) rfl
                    have d31 : V 31 = .bool false := hdep ⟨31, .data⟩ (by simp) rfl
                    have d19 : V 19 = .bool false := hdep ⟨19, .guard⟩ (by simp) rfl
                    clear hdep ho hJ
                    try simp only [fill, slotOf, List.size_toArray, List.length_cons, List.length_nil, Nat.reduceAdd, List.getElem?_toArray, List.getElem?_cons_zero, List.getElem?_cons_succ, Option.bind_some, Act.put, List.setIfInBounds_toArray, List.set_cons_zero, List.set_cons_succ] at hK ⊢
                    rw [d22, d31, d19] at hK ⊢
                    go_simp
                    exact hK (.bool false) _ HJ.out rfl (fun j y h => h) _ rfl
                  · obtain rfl := Option.some.inj ho.symm
                    have d19 : V 19 = .bool false := hdep ⟨19, .data⟩ (by simp) rfl
                    have d32 : V 32 = .bool false := hdep ⟨32, .data⟩ (by simp) rfl
                    clear hdep ho hJ
                    try simp only [fill, slotOf, List.size_toArray, List.length_cons, List.length_nil, Nat.reduceAdd, List.getElem?_toArray, List.getElem?_cons_zero, List.getElem?_cons_succ, Option.bind_some, Act.put, List.setIfInBounds_toArray, List.set_cons_zero, List.set_cons_succ] at hK ⊢
                    rw [d19, d32] at hK ⊢
                    go_simp
                    exact hK (.bool false) _ HJ.out rfl (fun j y h => h) _ rfl
                · intro V w9 hJ hall
                  have dL : V 33 = .bool false := hall 33 (by decide)
                  have HJ9 := Lib.hid hJ
                  clear hall hJ
                  simp only [fill, slotOf, List.size_toArray, List.length_cons, List.length_nil, Nat.reduceAdd, List.getElem?_toArray, List.getElem?_cons_zero, List.getElem?_cons_succ, Option.bind_some, Act.put, List.setIfInBounds_toArray, List.set_cons_zero, List.set_cons_succ]
                  rw [dL]
                  clear dL
                  have HB9 := Lib.hid (HBX4.out.trans (HJ9.out.mono HBX4.out.size))
                  have hgn60 : gn ≤ 60 := by have := HSUM.out; have := HN60.out; omega
                  have HBW9 := Lib.hid (HBGX.out.trans (HJ9.out.mono HBGX.out.size))
                  go_wp2_with fail
                  go_roundw
                  case rel => exact ⟨k + 1, by omega, by go_num, HBW9⟩
                  case measure => simp [intOf]; omega
            · obtain rfl : gn = k := by omega
              have HBQ := Lib.hid (HBG.out.trans (HBW.out.mono HBG.out.size))
              have HOQ := Lib.hid (own_below HOG.out HBW.out)
              have HGQ := Lib.hid ((HGR.out.kept HBWG.out).kept HBW.out)
              have hbgq := (HBW.out.block bg (Array.getElem?_eq_some_iff.1 HBLK.out).1).trans HBLK.out
              have v2 : wq.cell? ⟨bg, 2, none⟩ = some (.slice ga gn gc) := cell_blk hbgq rfl
              have ht60 := HN60.out
              have hsum := HSUM.out
              have hbq := HBQ.out.size
              clear hkt hbgq
              go_wp2_with (at_builtin; refine wpList_append_rows rfl (.tmp 130) (.tmp 132) rfl w4.heap.size _ t _ rfl HOQ.out ga gn gc grs rfl HGQ.out (by omega) hbq ?_)
              intro v7 w7 ho7 hg7 _
              obtain ⟨a7, c7, rfl⟩ : ∃ a7 c7, v7 = .slice a7 (t + gn) c7 := by
                obtain ⟨g7, c7, e7⟩ := own_some2 ho7 (by have := HGN0.out; omega)
                exact ⟨_, c7, e7⟩
              have HO7 := Lib.hid (show w7.ownsRow w4.heap.size 62 9 (.slice a7 (t + gn) c7) (t + gn) (rcells ((gs.take (i + 1)).flatMap GV.rows)) from by rw [HFT.out]; exact ho7)
              have HT7 := Lib.hid (show t + gn = ((gs.take (i + 1)).flatMap GV.rows).length from by rw [HFT.out, List.length_append, ← HT.out, HGR.out.len])
              have HB7 := Lib.hid (below_own HBQ.out HOQ.out hg7 (Nat.le_refl _) hbq)
              clear ho7 hg7
              go_wp2_with fail
              go_roundw
              case rel => exact ⟨i + 1, t + gn, c7, _, by omega, by go_num, rfl, HT7, HO7, HB7⟩
              case measure => simp [intOf]; omega
      · obtain rfl : n' = i := by omega
        have hfin := HTOT.out
        have ho := HO.out
        have ht := HT.out
        rw [List.take_of_length_le (by rw [HGL.out]; exact Nat.le_refl _)] at ho ht
        have htn : t = n := by rw [ht]; exact hfin
        have HTN := Lib.hid htn
        have hallm : ∀ x ∈ gs.flatMap GV.rows, ∃ g ∈ gs, x ∈ g.rows := fun x hx => List.mem_flatMap.1 hx
        have hat9 : RowsAt wr ag t cp (gs.flatMap GV.rows) := rows_of_own ho ht.symm (fun x hx => by
          obtain ⟨g, hg, hxg⟩ := hallm x hx
          exact (HAT.out.rows g hg).fits x hxg) (fun x hx => by
          obtain ⟨g, hg, hxg⟩ := hallm x hx
          exact ((HAT.out.rows g hg).labs x hxg).kept HB.out)
        have HAT9 := Lib.hid hat9
        have HB9 := Lib.hid (HB4.out.trans (HB.out.mono HB4.out.size))
        have hcap9 := hat9.cap
        have hcapm9 := hat9.capm
        clear hlt hfin ho ht hallm hat9 htn
        go_wp2_with fail
        refine (sort_any HAT9.out (by have := HTN.out; have := HN60.out; omega)).mono ?_
        rintro e w5 ⟨a5, c5, p1, p2, rfl, hat5, hs5, hst5, hb5⟩
        have HB5 := Lib.hid (HB9.out.trans (hb5.mono HB9.out.size))
        have HA5 := Lib.hid hat5
        have HS5 := Lib.hid hs5
        have HT5 := Lib.hid hst5
        clear hat5 hs5 hst5 hb5
        go_wp2_with fail
        refine (sort_any (HH.out.kept HB5.out) (by have := HN60.out; omega)).mono ?_
        rintro e w6 ⟨a6, c6, q1, q2, rfl, hat6, hs6, hst6, hb6⟩
        have HB6 := Lib.hid (HB5.out.trans (hb6.mono HB5.out.size))
        have HA56 := Lib.hid (HA5.out.kept hb6)
        have HA6 := Lib.hid hat6
        have HS6 := Lib.hid hs6
        have HT6 := Lib.hid hst6
        clear hat6 hs6 hst6 hb6
        go_wp2_with fail
        refine (samerows_any HA56.out HA6.out).mono ?_
        rintro e w7 ⟨rfl, hb7⟩
        have HB7 := Lib.hid (HB6.out.trans (hb7.mono HB6.out.size))
        have HGS := Lib.hid (show NoTwin l n → sameRs p2 q2 = true from fun hno => gathered_same HSO.out HL.out hno (m := t) (by rw [HTOT.out, HTN.out]) HS5.out HT5.out HA5.out.len HS6.out HT6.out HA6.out.len)
        clear hb7
        cases hsr : sameRs p2 q2 with
        | true =>
          go_wp2_with fail
          go_ret
          exact ⟨rfl, HB7.out⟩
        | false =>
          have hnt : ¬ NoTwin l n := fun hno => by rw [HGS.out hno] at hsr; cases hsr
          have HNT := Lib.hid hnt
          have htn2 : ((t : Int) == (n : Int)) = true := by rw [HTN.out]; simp
          clear hsr hnt
          go_wp2_with fail
          refine (rtwins_any (HH.out.kept HB7.out)).mono ?_
          rintro e w8 ⟨r8, rfl, hr8, hb8⟩
          have HB8 := Lib.hid (HB7.out.trans (hb8.mono HB7.out.size))
          cases r8 with
          | false => exact absurd (hr8 rfl) HNT.out
          | true =>
            clear hr8 hb8
            go_wp2_with fail
            go_ret
            exact ⟨rfl, HB8.out⟩
end Go.Proofs.Ytjbljplgkbnpmaa
