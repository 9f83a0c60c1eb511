/- record.Split, walked: rows are gathered by their places. Written by genspwalk.py. -/
import Derived.Test.YtjbljplgkbnpmaaSp
namespace Go.Proofs.Ytjbljplgkbnpmaa
open Go.ChangeShapes Go.WideShapes Go.Deep Go.RowKit LabPlain RecPlain Gath Stab
set_option linter.unusedVariables false

theorem grp_info : (Try.prog.info? 125).map (fun i => (i.zero, i.size, i.bytes)) = some (some (.pointer none), 1, 8) := by kernel_rfl
theorem take_snoc {rs : List RowV} {k : Nat} {x : RowV} (hk : k < rs.length) (hx : x = rs.getD k row0) : rs.take (k + 1) = rs.take k ++ [x] := by
  rw [List.take_add_one, hx, List.getElem?_eq_getElem hk]
  simp [List.getD_eq_getElem?_getD, hk]
theorem tdiv_fits {t win : Int} (ht : -9223372036854775808 ≤ t ∧ t ≤ 9223372036854775807) (hw : 1 ≤ win) : -9223372036854775808 ≤ t.tdiv win ∧ t.tdiv win ≤ 9223372036854775807 := by
  rcases Int.le_total 0 t with h | h
  · have h1 : t.tdiv win ≤ t := by rw [Int.tdiv_eq_ediv_of_nonneg h]; exact Int.ediv_le_self _ h
    have h2 : 0 ≤ t.tdiv win := Int.tdiv_nonneg h (by omega)
    omega
  · obtain ⟨s, rfl⟩ : ∃ s, t = -s := ⟨-t, by omega⟩
    rw [Int.neg_tdiv]
    have h0 : 0 ≤ s := by omega
    have h1 : s.tdiv win ≤ s := by rw [Int.tdiv_eq_ediv_of_nonneg h0]; exact Int.ediv_le_self _ h0
    have h2 : 0 ≤ s.tdiv win := Int.tdiv_nonneg h0 (by omega)
    omega
theorem wrap_id {x : Int} (h1 : -9223372036854775808 ≤ x) (h2 : x ≤ 9223372036854775807) : IntKind.i64.wrap x = x := by
  rw [IntKind.wrap_i64]; omega
theorem tdiv_wrap {t win : Int} (ht : -9223372036854775808 ≤ t ∧ t ≤ 9223372036854775807) (hw : 1 ≤ win) : IntKind.i64.wrap (t.tdiv win) = t.tdiv win := by
  have h2 := tdiv_fits ht hw
  exact wrap_id h2.1 h2.2

/-- what a split answers -/
structure SplitOut (w w' : World) (a' : Option Addr) (n' c' : Nat) (win : Int) (ss : List ByteArray) (l l1 rs : List RowV) (gs : List GV) (n : Nat) : Prop where
  at' : GrpsAt w' a' n' c' gs
  inv : Gath.Inv (plS win ss) (gs.map GV.pair) rs
  up : gs.Pairwise fun a b => ltK a.key b.key = true
  len : rs.length = n
  says : ∀ j, j < n → (atL l1 j).says = (atL l j).says
  stab : Stable ltR (atL l1) (atL rs) n
  bel : Below w.heap.size w w'
set_option maxRecDepth 100000 in
set_option maxHeartbeats 4000000 in
theorem split_any {w : World} {a b : Option Addr} {n c m d : Nat} {l : List RowV} {ss : List ByteArray} {win : Int} (h : RowsAt w a n c l) (hn : n ≤ 1000) (h' : StrsAt w b m d ss) (hw1 : 1 ≤ win) (hw2 : win ≤ 9223372036854775807) :
    Calls Try.prog 47 #[.slice a n c, .int .i64 win, .slice b m d] w fun e w' => ∃ a' n' c' l1 rs gs, e = .returned (.slice a' n' c') ∧ SplitOut w w' a' n' c' win ss l l1 rs gs n := by
  obtain ⟨i0, hi, hz0, hz1, hz2⟩ := info_parts row_info
  obtain ⟨j0, gi, gz0, gz1, gz2⟩ := info_parts grp_info
  obtain ⟨k0, pi, pz0, pz1, pz2⟩ := info_parts group_info
  have HW1 := Lib.hid hw1
  have HW2 := Lib.hid hw2
  have hwi : ¬ win < 1 := by omega
  have hw0 : ¬ win = 0 := by omega
  have HH := Lib.hid h
  have HS := Lib.hid h'
  have hcap := h.cap
  have hcm := h.capm
  clear h h' hw1 hw2
  have hmm := @run_makeMap Try.prog
  go_enter Try.func47, Try.ntmps47
  go_wp2_with fail
  obtain ⟨w0, hw0'⟩ : ∃ w0, w0 = w.alloc (.map #[] 0) := ⟨_, rfl⟩
  obtain ⟨M, hM⟩ : ∃ M, M = w.heap.size := ⟨_, rfl⟩
  have hb0 : Below w.heap.size w w0 := by rw [hw0']; exact (Below.refl _ _).alloc (Nat.le_refl _) _
  have hm0 : MapG w0 M 0 (fun _ => none) := by rw [hw0', hM]; exact MapG.made w
  rw [← hw0', ← hM]
  have HB0 := Lib.hid hb0
  have HM0 := Lib.hid hm0
  have HMW := Lib.hid hM
  clear hb0 hm0 hM hw0'
  refine (sort_new (HH.out.kept HB0.out) (by omega)).mono ?_
  rintro e w3 ⟨c', l1, rs, he, hcn, hnew, hsays, hst, hb3⟩
  rw [hcn] at he hnew
  subst he
  clear hcn
  obtain ⟨g3, hg3⟩ : ∃ g3, g3 = w0.heap.size := ⟨_, rfl⟩
  rw [← hg3] at hnew ⊢
  clear hg3
  have HNEW := Lib.hid hnew
  have HSY := Lib.hid hsays
  have HST := Lib.hid hst
  have hm3 := HM0.out.below hb3
  obtain ⟨es3, cl3, hM3⟩ := hm3.obj
  have HOM := Lib.hid hM3
  have hs3 := HB0.out.size
  have hM1 : M < w0.heap.size := HM0.out.lt
  have HI0 := Lib.hid (show SpI w w3 w3 M 0 0 none 0 (plS win ss) rs [] from ⟨rfl, Nat.le_refl _, World.ownsRow_nil _ _ _ _, hm3, GrpsOwn.nil _ _, Gath.Inv.nil _, HB0.out.trans (hb3.mono HB0.out.size), Bel1.refl _ _ _, (fun g hg => by cases hg)⟩)
  have hwM : w.heap.size ≤ M := by have := HMW.out; omega
  have hM3lt : M < w3.heap.size := Nat.lt_of_lt_of_le hM1 hb3.size
  have HWM := Lib.hid hwM
  have HM3L := Lib.hid hM3lt
  have h3s := Nat.le_trans HB0.out.size hb3.size
  have H3S := Lib.hid h3s
  clear hnew hsays hst hb3 hm3 hM3 hs3 hM1 hwM hM3lt h3s
  go_wp2_with fail
  go_loopw [8, 23] (fun s8 s23 wr => ∃ (k m cp : Nat) (a : Option Addr) (gs : List GV), k ≤ n ∧ s23 = .int .i64 (k : Int) ∧ s8 = .slice a m cp ∧ Hid (SpI w w3 wr M k m a cp (plS win ss) rs gs)) (fun _ s23 _ => n - (intOf s23).toNat)
  case atStart => exact ⟨0, 0, 0, none, [], by omega, rfl, rfl, HI0⟩
  case round =>
    clear HI0
    obtain ⟨k, m', cp, ag, gs, hk, rfl, rfl, HI⟩ := hrel
    rename World => wr
    by_cases hkn : k < n
    · have hkp := HNEW.out.rows.keep1 HI.out.bel1 HOM.out
      obtain ⟨b1, off, e0, hlt, hcell⟩ := hkp.cells (by omega)
      simp only [Option.some.injEq, Addr.mk.injEq, and_true] at e0
      obtain ⟨rfl, rfl⟩ := e0
      have hlab := hkp.labs _ (row_mem (l := rs) (i := k) (by have := HNEW.out.rows.len; omega))
      have hfit := hkp.fits _ (row_mem (l := rs) (i := k) (by have := HNEW.out.rows.len; omega))
      obtain ⟨r, hr⟩ : ∃ r, r = rs.getD k row0 := ⟨_, rfl⟩
      obtain ⟨d0, d1, d2, d3, d4, d5, d6, d7, d8⟩ := RowsAt.nine hcell hkn hr
      have HR := Lib.hid hr
      rw [← hr] at hlab hfit
      clear hr hcell hkp
      obtain ⟨⟨kd, tm, la, ln, lc, L, tx, v, nl⟩, mk, sq, pl⟩ := r
      simp only [Nat.zero_add] at d0 d1 d2 d3 d4 d5 d6 d7 d8 hlab
      obtain rfl : L.length = ln := hlab.len
      obtain ⟨wx, hwx⟩ : ∃ wx, wx = wr.alloc (.cells #[.int .i64 kd, .int .i64 tm, .slice la L.length lc, .string tx, .int .i64 v, .bool nl, .int .i64 mk, .int .i64 sq, .int .i64 pl] 62) := ⟨_, rfl⟩
      obtain ⟨bx, hbx⟩ : ∃ bx, bx = wr.heap.size := ⟨_, rfl⟩
      have hbwx : Below wr.heap.size wr wx := by rw [hwx]; exact (Below.refl _ _).alloc (Nat.le_refl _) _
      have hblk : wx.heap[bx]? = some (.cells #[.int .i64 kd, .int .i64 tm, .slice la L.length lc, .string tx, .int .i64 v, .bool nl, .int .i64 mk, .int .i64 sq, .int .i64 pl] 62 (0, 0)) := by rw [hwx, hbx]; exact heap_alloc_new wr _
      have hc2 : wx.cell? ⟨bx, 2, none⟩ = some (.slice la L.length lc) := cell_blk hblk rfl
      have hsr := HI.out.bel1.size
      have hPART := part_big (hlab.kept hbwx) ((HS.out.kept HI.out.bel).kept hbwx) hfit.1.2.2.2.2
      have HPART := Lib.hid hPART
      have HXB := Lib.hid hblk
      have HBX := Lib.hid hbx
      have HWX := Lib.hid hwx
      have HBWX := Lib.hid hbwx
      have HFIT := Lib.hid hfit
      have HSR := Lib.hid hsr
      clear hblk hbx hwx hbwx hfit hPART hlab hsr
      go_wp2_with fail
      rw [← HWX.out, ← HBX.out]
      refine HPART.out.mono ?_
      rintro e w4 ⟨a4, c4, rfl, hl4, hb4, _⟩
      have HT4 := Lib.hid (ptxt_any hl4)
      have HB4 := Lib.hid hb4
      clear hl4 hb4
      go_wp2_with fail
      refine HT4.out.mono ?_
      rintro e w5 ⟨er, rfl, hb5⟩
      obtain ⟨pt, hpt⟩ : ∃ pt, pt = ptext L ss := ⟨_, rfl⟩
      obtain ⟨q, hq⟩ : ∃ q, q = tm.tdiv win := ⟨_, rfl⟩
      rw [← hpt]
      have hb45 := HB4.out.trans (hb5.mono HB4.out.size)
      have HB5 := Lib.hid hb45
      have x0 : w5.heap[bx]? = some (.cells #[.int .i64 kd, .int .i64 tm, .slice la L.length lc, .string tx, .int .i64 v, .bool nl, .int .i64 mk, .int .i64 sq, .int .i64 pl] 62 (0, 0)) := (hb45.block bx (Array.getElem?_eq_some_iff.1 HXB.out).1).trans HXB.out
      have HX5 := Lib.hid x0
      have c1 : w5.cell? ⟨bx, 1, none⟩ = some (.int .i64 tm) := cell_blk x0 rfl
      have hqw : IntKind.i64.wrap (tm.tdiv win) = q := by
        rw [hq]
        exact tdiv_wrap HFIT.out.1.2.1 HW1.out
      have hok : okPl (q, pt) := ⟨by rw [hq]; exact tdiv_fits HFIT.out.1.2.1 HW1.out, by have := ptext_size L ss; show pt.size ≤ _; rw [hpt]; omega⟩
      have HOK := Lib.hid hok
      have HPT := Lib.hid hpt
      have HQ := Lib.hid hq
      have hbr5 := HBWX.out.trans (hb45.mono HBWX.out.size)
      have hby : Below wr.heap.size wr (w5.alloc (.cells #[.int .i64 q, .string pt] 124)) := hbr5.alloc hbr5.size _
      have hybk := heap_alloc_new w5 (.cells #[.int .i64 q, .string pt] 124)
      have hxbk : (w5.alloc (.cells #[.int .i64 q, .string pt] 124)).heap[bx]? = some (.cells #[.int .i64 kd, .int .i64 tm, .slice la L.length lc, .string tx, .int .i64 v, .bool nl, .int .i64 mk, .int .i64 sq, .int .i64 pl] 62 (0, 0)) := (((Below.refl w5.heap.size w5).alloc (Nat.le_refl _) _).block bx (Array.getElem?_eq_some_iff.1 x0).1).trans x0
      have hmap := HI.out.map.below hby
      have hown := HI.out.own.below hby
      have hrow := own_below HI.out.row hby
      have hbel := HI.out.bel.trans (hby.mono HI.out.bel.size)
      have hbel1 := HI.out.bel1.below (hby.mono HSR.out)
      by_cases hex : ∃ j, ∃ hj : j < gs.length, gs[j].key = (q, pt)
      · obtain ⟨j, hj, hkey⟩ := hex
        obtain ⟨g, hg⟩ : ∃ g, gs[j] = g := ⟨_, rfl⟩
        have hl1 : (Instr.lookup 121 (.map (some M)) (.agg #[.int .i64 q, .string pt]) false).run Try.prog (w5.alloc (.cells #[.int .i64 q, .string pt] 124)) = .ok (.pointer (some ⟨g.p, 0, none⟩)) (w5.alloc (.cells #[.int .i64 q, .string pt] 124)) := by
          have e := hmap.look (k := (q, pt)) hok
          have e2 := lookG_at hj (keys_ne HI.out.inv)
          rw [hkey, hg] at e2
          rw [e2] at e
          exact e
        have HMD := Lib.hid (show Mid w w3 (w5.alloc (.cells #[.int .i64 q, .string pt] 124)) M k gs from ⟨hmap.mono (Nat.le_succ k), hown, keys_ne HI.out.inv, hbel, hbel1, HI.out.few⟩)
        have HG := Lib.hid (show ∃ hj : j < gs.length, gs[j] = g from ⟨hj, hg⟩)
        have HKEY := Lib.hid (show g.key = (q, pt) from by rw [← hg]; exact hkey)
        have HYS := Lib.hid hybk
        have HXS := Lib.hid hxbk
        have HROW := Lib.hid hrow
        have HBXN := Lib.hid (show some bx ≠ g.v.ownBlock from fun e => by
          have h2 := ((HI.out.own.own g (by rw [← hg]; exact List.getElem_mem hj)).1.lt bx e.symm).2
          rw [HBX.out] at h2; omega)
        have HINV := Lib.hid (show ∀ a9 c9, Gath.Inv (plS win ss) ((gs.set j (g.more a9 c9 (⟨⟨kd, tm, la, L.length, lc, L, tx, v, nl⟩, mk, sq, pl⟩ : RowV))).map GV.pair) (rs.take (k + 1)) from fun a9 c9 => by
          have hgp : (gs.map GV.pair)[j]? = some g.pair := by rw [List.getElem?_map, List.getElem?_eq_getElem hj, hg]; rfl
          have h2 := HI.out.inv.old hgp (x := (⟨⟨kd, tm, la, L.length, lc, L, tx, v, nl⟩, mk, sq, pl⟩ : RowV)) (by show plS win ss _ = g.key; rw [← hg, hkey]; unfold plS; rw [hq, hpt])
          rw [List.map_set]
          rw [take_snoc (by have := HNEW.out.rows.len; omega) HR.out]
          exact h2)
        clear hb5 hb45 x0 hpt hq hbr5 hby hybk hxbk hmap hown hrow hbel hbel1 hok hkey hg hj
        go_wp2_with fail
        obtain ⟨wS, hwS⟩ : ∃ wS, wS = w5.alloc (.cells #[.int .i64 q, .string pt] 124) := ⟨_, rfl⟩
        obtain ⟨by', hby'⟩ : ∃ b, b = w5.heap.size := ⟨_, rfl⟩
        rw [← hwS] at HMD HXS HYS HROW
        rw [← hby'] at HYS
        rw [← hwS, ← hby']
        clear hwS hby' hl1 c1 hqw
        obtain ⟨GS, hGS⟩ : ∃ GS, GS = gs := ⟨_, rfl⟩
        rw [← hGS] at HMD HG HROW HINV
        have HGS := Lib.hid hGS
        clear hGS
        have lx : bx < wS.heap.size := (Array.getElem?_eq_some_iff.1 HXS.out).1
        have ly : by' < wS.heap.size := (Array.getElem?_eq_some_iff.1 HYS.out).1
        have hgm : g ∈ GS := by rw [← HG.out.2]; exact List.getElem_mem _
        have gb := (HMD.out.own.blk g hgm).2
        obtain ⟨P, hP⟩ : ∃ P, P = g.p := ⟨_, rfl⟩
        rw [← hP] at gb
        have lp : P < wS.heap.size := (Array.getElem?_eq_some_iff.1 gb).1
        have hgo := (HMD.out.own.own g hgm).1
        have hno : ∀ b, (∀ cs, wS.heap[b]? ≠ some (.cells cs 62 (0, 0))) → some b ≠ g.v.ownBlock := fun b hb e => by
          obtain ⟨cs, hcs⟩ := own_blk hgo e.symm
          exact hb cs hcs
        have hblt : ∀ b, g.v.ownBlock = some b → w3.heap.size ≤ b := fun b hb => (hgo.lt b hb).1
        have hbx3 : some bx ≠ g.v.ownBlock ∧ bx ≠ P := ⟨HBXN.out, fun e => by
          have h1 := HXS.out
          rw [e, gb] at h1
          have h2 := (Obj.cells.injEq .. ▸ Option.some.inj h1)
          have h3 : (72 : TypeId) = 62 := h2.2.1
          exact absurd h3 (by decide)⟩
        have hby3 : some by' ≠ g.v.ownBlock ∧ by' ≠ P := ⟨hno by' (fun cs e => by
          rw [HYS.out] at e
          have h2 := (Obj.cells.injEq .. ▸ Option.some.inj e)
          have h3 : (124 : TypeId) = 62 := h2.2.1
          exact absurd h3 (by decide)), fun e => by
          have h1 := HYS.out
          rw [e, gb] at h1
          have h2 := (Obj.cells.injEq .. ▸ Option.some.inj h1)
          have h3 : (72 : TypeId) = 124 := h2.2.1
          exact absurd h3 (by decide)⟩
        have hM3 : some M ≠ g.v.ownBlock ∧ M ≠ P := by
          obtain ⟨es, cl, hms⟩ := HMD.out.map.obj
          refine ⟨hno M (fun cs e => by rw [hms] at e; cases e), fun e => ?_⟩
          rw [e, gb] at hms; cases hms
        have e2 : lookG GS (q, pt) = some P := by
          have := lookG_at HG.out.1 HMD.out.keys
          rw [HG.out.2, HKEY.out] at this
          rw [hP]; exact this
        have HE2 := Lib.hid e2
        have HAX := Lib.hid (show ∀ L7 V7 w9, SpR wS w3.heap.size M P q pt g (⟨⟨kd, tm, la, L.length, lc, L, tx, v, nl⟩, mk, sq, pl⟩ : RowV) L7 V7 w9 → w9.heap[bx]? = some (.cells #[.int .i64 kd, .int .i64 tm, .slice la L.length lc, .string tx, .int .i64 v, .bool nl, .int .i64 mk, .int .i64 sq, .int .i64 pl] 62 (0, 0)) from fun L7 V7 w9 h => (h.keep lx hbx3.1 hbx3.2).trans HXS.out)
        have HAY := Lib.hid (show ∀ L7 V7 w9, SpR wS w3.heap.size M P q pt g (⟨⟨kd, tm, la, L.length, lc, L, tx, v, nl⟩, mk, sq, pl⟩ : RowV) L7 V7 w9 → w9.heap[by']? = some (.cells #[.int .i64 q, .string pt] 124 (0, 0)) from fun L7 V7 w9 h => (h.keep ly hby3.1 hby3.2).trans HYS.out)
        have HAM := Lib.hid (show ∀ L7 V7 w9, SpR wS w3.heap.size M P q pt g (⟨⟨kd, tm, la, L.length, lc, L, tx, v, nl⟩, mk, sq, pl⟩ : RowV) L7 V7 w9 → (Instr.lookup 121 (.map (some M)) (.agg #[.int .i64 q, .string pt]) false).run Try.prog w9 = .ok (.pointer (some ⟨P, 0, none⟩)) w9 from fun L7 V7 w9 h => by
          have e := (HMD.out.map.same (h.keep HMD.out.map.lt hM3.1 hM3.2)).look (k := (q, pt)) HOK.out
          rw [HE2.out] at e
          exact e)
        have HGB := Lib.hid gb
        have HP := Lib.hid hP
        have HGO := Lib.hid hgo
        have HTYP := Lib.hid (show some P ≠ g.v.ownBlock from hno P (fun cs e => by
          rw [gb] at e
          have h2 := (Obj.cells.injEq .. ▸ Option.some.inj e)
          have h3 : (72 : TypeId) = 62 := h2.2.1
          exact absurd h3 (by decide)))
        have hgn : g.n ≤ 1000 := by have := HMD.out.few g hgm; omega
        have hbase := HMD.out.bel1.size
        have HBASE := Lib.hid hbase
        have HGM := Lib.hid hgm
        have HLP := Lib.hid lp
        clear gb hgm hP hgo hno hblt hbx3 hby3 hM3 e2 lx ly lp hbase
        refine wp_region_inv (by kernel_rfl) (by kernel_rfl) (by kernel_rfl) (SpR wS w3.heap.size M P q pt g (⟨⟨kd, tm, la, L.length, lc, L, tx, v, nl⟩, mk, sq, pl⟩ : RowV)) (fun V => SpR.start V) ?_ ?_
        · intro j9 o ho L9 V w9 K hI hL hdep hK
          have HI := Lib.hid hI
          have hin : j9 < 15 := (Array.getElem?_eq_some_iff.1 ho).1
          have hcs : j9 = 0 ∨ j9 = 1 ∨ j9 = 2 ∨ j9 = 3 ∨ j9 = 4 ∨ j9 = 5 ∨ j9 = 6 ∨ j9 = 7 ∨ j9 = 8 ∨ j9 = 9 ∨ j9 = 10 ∨ j9 = 11 ∨ j9 = 12 ∨ j9 = 13 ∨ j9 = 14 := by omega
          clear hin
          rcases hcs with rfl | rfl | rfl | rfl | rfl | rfl | rfl | rfl | rfl | rfl | rfl | rfl | rfl | rfl | rfl
          · obtain rfl := Option.some.inj ho.symm
            clear hdep ho hI hL
            try simp only [fill, slotOf, List.size_toArray, List.length_cons, List.length_nil, Nat.reduceAdd, List.getElem?_toArray, List.getElem?_cons_zero, List.getElem?_cons_succ, Option.bind_some, Act.put, List.setIfInBounds_toArray, List.set_cons_zero, List.set_cons_succ] at hK ⊢
            go_simp
            exact hK (.map (some M)) _ (HI.out.put 0 _ (by decide) rfl) _ rfl
          · obtain rfl := Option.some.inj ho.symm
            have r0 : w9.cell? ⟨by', 0, none⟩ = some (.int .i64 q) := cell_blk (HAY.out _ _ _ hI) rfl
            have r1 : w9.cell? ⟨by', 1, none⟩ = some (.string pt) := cell_blk (HAY.out _ _ _ hI) rfl
            clear hdep ho hI hL
            try simp only [fill, slotOf, List.size_toArray, List.length_cons, List.length_nil, Nat.reduceAdd, List.getElem?_toArray, List.getElem?_cons_zero, List.getElem?_cons_succ, Option.bind_some, Act.put, List.setIfInBounds_toArray, List.set_cons_zero, List.set_cons_succ] at hK ⊢
            go_simp
            exact hK (.agg #[.int .i64 q, .string pt]) _ (HI.out.put 1 _ (by decide) rfl) _ rfl
          · obtain rfl := Option.some.inj ho.symm
            have d0 : V 0 = .map (some M) := hI.val 0 (hdep ⟨0, .data⟩ (by simp) rfl)
            have d1 : V 1 = .agg #[.int .i64 q, .string pt] := hI.val 1 (hdep ⟨1, .data⟩ (by simp) rfl)
            have lk := HAM.out _ _ _ hI
            clear hdep ho hI hL
            try simp only [fill, slotOf, List.size_toArray, List.length_cons, List.length_nil, Nat.reduceAdd, List.getElem?_toArray, List.getElem?_cons_zero, List.getElem?_cons_succ, Option.bind_some, Act.put, List.setIfInBounds_toArray, List.set_cons_zero, List.set_cons_succ] at hK ⊢
            rw [d0, d1] at hK ⊢
            go_simp
            exact hK (.pointer (some ⟨P, 0, none⟩)) _ (HI.out.put 2 _ (by decide) rfl) _ rfl
          · obtain rfl := Option.some.inj ho.symm
            clear hdep ho hI hL
            try simp only [fill, slotOf, List.size_toArray, List.length_cons, List.length_nil, Nat.reduceAdd, List.getElem?_toArray, List.getElem?_cons_zero, List.getElem?_cons_succ, Option.bind_some, Act.put, List.setIfInBounds_toArray, List.set_cons_zero, List.set_cons_succ] at hK ⊢
            go_simp
            exact hK (.map (some M)) _ (HI.out.put 3 _ (by decide) rfl) _ rfl
          · obtain rfl := Option.some.inj ho.symm
            have r0 : w9.cell? ⟨by', 0, none⟩ = some (.int .i64 q) := cell_blk (HAY.out _ _ _ hI) rfl
            have r1 : w9.cell? ⟨by', 1, none⟩ = some (.string pt) := cell_blk (HAY.out _ _ _ hI) rfl
            clear hdep ho hI hL
            try simp only [fill, slotOf, List.size_toArray, List.length_cons, List.length_nil, Nat.reduceAdd, List.getElem?_toArray, List.getElem?_cons_zero, List.getElem?_cons_succ, Option.bind_some, Act.put, List.setIfInBounds_toArray, List.set_cons_zero, List.set_cons_succ] at hK ⊢
            go_simp
            exact hK (.agg #[.int .i64 q, .string pt]) _ (HI.out.put 4 _ (by decide) rfl) _ rfl
          · obtain rfl := Option.some.inj ho.symm
            have d3 : V 3 = .map (some M) := hI.val 3 (hdep ⟨3, .data⟩ (by simp) rfl)
            have d4 : V 4 = .agg #[.int .i64 q, .string pt] := hI.val 4 (hdep ⟨4, .data⟩ (by simp) rfl)
            have lk := HAM.out _ _ _ hI
            clear hdep ho hI hL
            try simp only [fill, slotOf, List.size_toArray, List.length_cons, List.length_nil, Nat.reduceAdd, List.getElem?_toArray, List.getElem?_cons_zero, List.getElem?_cons_succ, Option.bind_some, Act.put, List.setIfInBounds_toArray, List.set_cons_zero, List.set_cons_succ] at hK ⊢
            rw [d3, d4] at hK ⊢
            go_simp
            exact hK (.pointer (some ⟨P, 0, none⟩)) _ (HI.out.put 5 _ (by decide) rfl) _ rfl
          · obtain rfl := Option.some.inj ho.symm
            have d5 : V 5 = .pointer (some ⟨P, 0, none⟩) := hI.val 5 (hdep ⟨5, .data⟩ (by simp) rfl)
            clear hdep ho hI hL
            try simp only [fill, slotOf, List.size_toArray, List.length_cons, List.length_nil, Nat.reduceAdd, List.getElem?_toArray, List.getElem?_cons_zero, List.getElem?_cons_succ, Option.bind_some, Act.put, List.setIfInBounds_toArray, List.set_cons_zero, List.set_cons_succ] at hK ⊢
            rw [d5] at hK ⊢
            go_simp
            exact hK (.pointer (some ⟨P, 0, none⟩)) _ (HI.out.put 6 _ (by decide) rfl) _ rfl
          · obtain rfl := Option.some.inj ho.symm
            have d6 : V 6 = .pointer (some ⟨P, 0, none⟩) := hI.val 6 (hdep ⟨6, .data⟩ (by simp) rfl)
            clear hdep ho hI hL
            try simp only [fill, slotOf, List.size_toArray, List.length_cons, List.length_nil, Nat.reduceAdd, List.getElem?_toArray, List.getElem?_cons_zero, List.getElem?_cons_succ, Option.bind_some, Act.put, List.setIfInBounds_toArray, List.set_cons_zero, List.set_cons_succ] at hK ⊢
            rw [d6] at hK ⊢
            go_simp
            exact hK (.pointer (some ⟨P, 2, none⟩)) _ (HI.out.put 7 _ (by decide) rfl) _ rfl
          · obtain rfl := Option.some.inj ho.symm
            have d7 : V 7 = .pointer (some ⟨P, 2, none⟩) := hI.val 7 (hdep ⟨7, .data⟩ (by simp) rfl)
            have hg9 := ((hI.sA (hI.no11 (.inl hL))).1.block P HLP.out).trans HGB.out
            have cc : w9.cell? ⟨P, 2, none⟩ = some (.slice g.a g.n g.c) := cell_blk hg9 rfl
            clear hdep ho hI hL
            clear hg9
            try simp only [fill, slotOf, List.size_toArray, List.length_cons, List.length_nil, Nat.reduceAdd, List.getElem?_toArray, List.getElem?_cons_zero, List.getElem?_cons_succ, Option.bind_some, Act.put, List.setIfInBounds_toArray, List.set_cons_zero, List.set_cons_succ] at hK ⊢
            rw [d7] at hK ⊢
            go_simp
            exact hK (.slice g.a g.n g.c) _ (HI.out.put 8 _ (by decide) rfl) _ rfl
          · obtain rfl := Option.some.inj ho.symm
            have s0 : w9.cell? ⟨bx, 0, none⟩ = some (.int .i64 kd) := cell_blk (HAX.out _ _ _ hI) rfl
            have s1 : w9.cell? ⟨bx, 1, none⟩ = some (.int .i64 tm) := cell_blk (HAX.out _ _ _ hI) rfl
            have s2 : w9.cell? ⟨bx, 2, none⟩ = some (.slice la L.length lc) := cell_blk (HAX.out _ _ _ hI) rfl
            have s3 : w9.cell? ⟨bx, 3, none⟩ = some (.string tx) := cell_blk (HAX.out _ _ _ hI) rfl
            have s4 : w9.cell? ⟨bx, 4, none⟩ = some (.int .i64 v) := cell_blk (HAX.out _ _ _ hI) rfl
            have s5 : w9.cell? ⟨bx, 5, none⟩ = some (.bool nl) := cell_blk (HAX.out _ _ _ hI) rfl
            have s6 : w9.cell? ⟨bx, 6, none⟩ = some (.int .i64 mk) := cell_blk (HAX.out _ _ _ hI) rfl
            have s7 : w9.cell? ⟨bx, 7, none⟩ = some (.int .i64 sq) := cell_blk (HAX.out _ _ _ hI) rfl
            have s8 : w9.cell? ⟨bx, 8, none⟩ = some (.int .i64 pl) := cell_blk (HAX.out _ _ _ hI) rfl
            clear hdep ho hI hL
            try simp only [fill, slotOf, List.size_toArray, List.length_cons, List.length_nil, Nat.reduceAdd, List.getElem?_toArray, List.getElem?_cons_zero, List.getElem?_cons_succ, Option.bind_some, Act.put, List.setIfInBounds_toArray, List.set_cons_zero, List.set_cons_succ] at hK ⊢
            go_simp
            exact hK (.agg #[.int .i64 kd, .int .i64 tm, .slice la L.length lc, .string tx, .int .i64 v, .bool nl, .int .i64 mk, .int .i64 sq, .int .i64 pl]) _ (HI.out.put 9 _ (by decide) rfl) _ rfl
          · obtain rfl := Option.some.inj ho.symm
            have d9 : V 9 = .agg #[.int .i64 kd, .int .i64 tm, .slice la L.length lc, .string tx, .int .i64 v, .bool nl, .int .i64 mk, .int .i64 sq, .int .i64 pl] := hI.val 9 (hdep ⟨9, .data⟩ (by simp) rfl)
            have HI4 := Lib.hid (hI.put10 hL)
            clear hdep ho hI hL
            try simp only [fill, slotOf, List.size_toArray, List.length_cons, List.length_nil, Nat.reduceAdd, List.getElem?_toArray, List.getElem?_cons_zero, List.getElem?_cons_succ, Option.bind_some, Act.put, List.setIfInBounds_toArray, List.set_cons_zero, List.set_cons_succ] at hK ⊢
            rw [d9] at hK ⊢
            go_simp
            exact hK (.slice (some ⟨w9.heap.size, 0, none⟩) 1 1) _ HI4.out _ rfl
          · have hoo := Option.some.inj ho.symm
            have HL11 := Lib.hid hL
            have d8 : V 8 = .slice g.a g.n g.c := hI.val 8 (hdep ⟨8, .data⟩ (by rw [hoo]; simp) rfl)
            have l8 := hdep ⟨8, .data⟩ (by rw [hoo]; simp) rfl
            have l10 := hdep ⟨10, .data⟩ (by rw [hoo]; simp) rfl
            have hA := hI.sA hL
            obtain ⟨bb, d10, hbb⟩ := hA.2 l10
            have HOW := Lib.hid (own_below HGO.out hA.1)
            have HBB := Lib.hid hbb
            have HAB := Lib.hid hA.1
            have hs9 := hA.1.size
            subst hoo
            clear hdep ho hI hL
            clear hA
            clear hbb
            try simp only [fill, slotOf, List.size_toArray, List.length_cons, List.length_nil, Nat.reduceAdd, List.getElem?_toArray, List.getElem?_cons_zero, List.getElem?_cons_succ, Option.bind_some, Act.put, List.setIfInBounds_toArray, List.set_cons_zero, List.set_cons_succ] at hK ⊢
            rw [d8, d10] at hK ⊢
            refine step_append_own_b (by first | rfl | kernel_rfl) (.tmp 69) (.tmp 71) 58 rfl w3.heap.size 62 i0 _ 9 96 Try.underlying58 hi hz0 hz1 hz2 rfl (by decide) (.slice g.a g.n g.c) g.n (rcells g.rows) (by rfl) HOW.out ⟨bb, 0, none⟩ 1 1 (RowV.cells (⟨⟨kd, tm, la, L.length, lc, L, tx, v, nl⟩, mk, sq, pl⟩ : RowV)) (by rfl) rfl HBB.out (rcells_one _) (by unfold maxLen; omega) (by omega) (Nat.le_trans HBASE.out hs9) ?_
            intro vN wA hownA hgrowA hlocA
            obtain ⟨gN, cN, rfl⟩ := own_some2 hownA (by omega)
            exact hK (.slice (some ⟨gN, 0, none⟩) (g.n + 1) cN) _ (HI.out.put11 HL11.out l8 l10 ⟨_, _, w9.heap.size, rfl, hownA, grown_low HAB.out hgrowA, hlocA, hs9⟩) _ rfl
          · obtain rfl := Option.some.inj ho.symm
            have d2 : V 2 = .pointer (some ⟨P, 0, none⟩) := hI.val 2 (hdep ⟨2, .data⟩ (by simp) rfl)
            clear hdep ho hI hL
            try simp only [fill, slotOf, List.size_toArray, List.length_cons, List.length_nil, Nat.reduceAdd, List.getElem?_toArray, List.getElem?_cons_zero, List.getElem?_cons_succ, Option.bind_some, Act.put, List.setIfInBounds_toArray, List.set_cons_zero, List.set_cons_succ] at hK ⊢
            rw [d2] at hK ⊢
            go_simp
            exact hK (.pointer (some ⟨P, 0, none⟩)) _ (HI.out.put 12 _ (by decide) rfl) _ rfl
          · obtain rfl := Option.some.inj ho.symm
            have d12 : V 12 = .pointer (some ⟨P, 0, none⟩) := hI.val 12 (hdep ⟨12, .data⟩ (by simp) rfl)
            clear hdep ho hI hL
            try simp only [fill, slotOf, List.size_toArray, List.length_cons, List.length_nil, Nat.reduceAdd, List.getElem?_toArray, List.getElem?_cons_zero, List.getElem?_cons_succ, Option.bind_some, Act.put, List.setIfInBounds_toArray, List.set_cons_zero, List.set_cons_succ] at hK ⊢
            rw [d12] at hK ⊢
            go_simp
            exact hK (.pointer (some ⟨P, 2, none⟩)) _ (HI.out.put 13 _ (by decide) rfl) _ rfl
          · have hoo := Option.some.inj ho.symm
            have d13 : V 13 = .pointer (some ⟨P, 2, none⟩) := hI.val 13 (hdep ⟨13, .data⟩ (by rw [hoo]; simp) rfl)
            have l11 := hdep ⟨11, .data⟩ (by rw [hoo]; simp) rfl
            have hB := hI.sB l11 hL
            obtain ⟨aN, cN, BN, d11, ho11, hg11, hlo11, hB11⟩ := hB
            have hg9 := (hg11.block P HLP.out HTYP.out).trans HGB.out
            have cc : w9.cell? ⟨P, 2, none⟩ = some (.slice g.a g.n g.c) := cell_blk hg9 rfl
            have ff : w9.frozen? ⟨P, 2, none⟩ = false := by simp [World.frozen?, hg9]
            have HI4 := Lib.hid (hI.put14 l11 hL undef)
            rw [d11] at HI4
            subst hoo
            clear hdep ho hI hL
            clear ho11
            clear hg11
            clear hlo11
            clear hB11
            clear hg9
            clear l11
            try simp only [fill, slotOf, List.size_toArray, List.length_cons, List.length_nil, Nat.reduceAdd, List.getElem?_toArray, List.getElem?_cons_zero, List.getElem?_cons_succ, Option.bind_some, Act.put, List.setIfInBounds_toArray, List.set_cons_zero, List.set_cons_succ] at hK ⊢
            rw [d13, d11] at hK ⊢
            go_simp
            exact hK (undef) _ HI4.out _ rfl
        · intro L9 V w9 hI hall
          obtain ⟨wA, vN, hStB, hw9⟩ := hI.sC (hall 14 (by decide))
          obtain ⟨aN, cN, BN, rfl, ho11, hg11, hlo11, hB11⟩ := hStB
          have HW9 := Lib.hid hw9
          have HO11 := Lib.hid ho11
          have HG11 := Lib.hid hg11
          have HL11 := Lib.hid hlo11
          have HB11 := Lib.hid hB11
          clear hall hI hw9 ho11 hg11 hlo11 hB11
          simp only [fill, slotOf, List.size_toArray, List.length_cons, List.length_nil, Nat.reduceAdd, List.getElem?_toArray, List.getElem?_cons_zero, List.getElem?_cons_succ, Option.bind_some, Act.put, List.setIfInBounds_toArray, List.set_cons_zero, List.set_cons_succ]
          have hnx := SpI.next HMD.out HROW.out HG.out.1 HG.out.2 (by rw [HGS.out]; exact HI.out.len) (by have := HI.out.lek; omega) HB11.out H3S.out HO11.out HG11.out HL11.out (HINV.out aN cN)
          rw [← HP.out, ← HW9.out] at hnx
          have HNX := Lib.hid hnx
          clear hnx
          go_wp2_with fail
          go_roundw
          case rel => exact ⟨k + 1, m', cp, ag, _, by omega, by go_num, rfl, HNX⟩
          case measure => simp [intOf]; omega
      · have hno : ∀ y ∈ gs, y.key ≠ (q, pt) := fun y hy e => by
          obtain ⟨j, hj, rfl⟩ := List.getElem_of_mem hy
          exact hex ⟨j, hj, e⟩
        have hl1 : (Instr.lookup 121 (.map (some M)) (.agg #[.int .i64 q, .string pt]) false).run Try.prog (w5.alloc (.cells #[.int .i64 q, .string pt] 124)) = .ok (.pointer none) (w5.alloc (.cells #[.int .i64 q, .string pt] 124)) := by
          have e := hmap.look (k := (q, pt)) hok
          rw [lookG_none hno] at e
          exact e
        have HNO := Lib.hid hno
        have HYS := Lib.hid hybk
        have HXS := Lib.hid hxbk
        have HMAP := Lib.hid hmap
        have HOWN := Lib.hid hown
        have HROW := Lib.hid hrow
        have HBEL := Lib.hid hbel
        have HBEL1 := Lib.hid hbel1
        have hbg : Below wr.heap.size wr ((w5.alloc (.cells #[.int .i64 q, .string pt] 124)).alloc (.cells #[.int .i64 q, .string pt, .slice none 0 0] 72)) := hby.alloc hby.size _
        have hsz1 : (w5.alloc (.cells #[.int .i64 q, .string pt] 124)).heap.size = w5.heap.size + 1 := by show (w5.heap.push _).size = _; rw [Array.size_push]
        have hgbk : ((w5.alloc (.cells #[.int .i64 q, .string pt] 124)).alloc (.cells #[.int .i64 q, .string pt, .slice none 0 0] 72)).heap[w5.heap.size + 1]? = some (.cells #[.int .i64 q, .string pt, .slice none 0 0] 72 (0, 0)) := by rw [← hsz1]; exact heap_alloc_new _ _
        have hbyg : Below (w5.alloc (.cells #[.int .i64 q, .string pt] 124)).heap.size (w5.alloc (.cells #[.int .i64 q, .string pt] 124)) ((w5.alloc (.cells #[.int .i64 q, .string pt] 124)).alloc (.cells #[.int .i64 q, .string pt, .slice none 0 0] 72)) := (Below.refl _ _).alloc (Nat.le_refl _) _
        have hyg := (hbyg.block w5.heap.size (by rw [hsz1]; omega)).trans hybk
        have hxg := (hbyg.block bx (Array.getElem?_eq_some_iff.1 hxbk).1).trans hxbk
        have hmapg := HI.out.map.below hbg
        have hobj := hmapg.obj
        have hPr : wr.heap.size ≤ w5.heap.size + 1 := by have := hbr5.size; omega
        obtain ⟨wm, hst, hmapm, hgm⟩ := hmapg.store (k := (q, pt)) hok (w5.heap.size + 1) (by unfold maxLen; omega)
        unfold plv at hst
        have hne : ∀ (b : Nat) (cs : Array Value) (t : TypeId), ((w5.alloc (.cells #[.int .i64 q, .string pt] 124)).alloc (.cells #[.int .i64 q, .string pt, .slice none 0 0] 72)).heap[b]? = some (.cells cs t (0, 0)) → wm.heap[b]? = some (.cells cs t (0, 0)) := fun b cs t hb => (hgm.block b (Array.getElem?_eq_some_iff.1 hb).1 (fun e => by
          obtain ⟨es, cl, hms⟩ := hobj
          rw [Option.some.inj e, hms] at hb; cases hb)).trans hb
        have y0 : wm.cell? ⟨w5.heap.size, 0, none⟩ = some (.int .i64 q) := cell_blk (hne _ _ _ hyg) rfl
        have y1 : wm.cell? ⟨w5.heap.size, 1, none⟩ = some (.string pt) := cell_blk (hne _ _ _ hyg) rfl
        have lkm : (Instr.lookup 121 (.map (some M)) (.agg #[.int .i64 q, .string pt]) false).run Try.prog wm = .ok (.pointer (some ⟨w5.heap.size + 1, 0, none⟩)) wm := by
          have e := hmapm.look (k := (q, pt)) hok
          simpa [plv, ptrV] using e
        have hrg := own_below HI.out.row hbg
        have hrm : wm.ownsRow w3.heap.size 125 1 (.slice ag m' cp) m' (gs.map GV.ptr) := hrg.kept hgm (by
          cases hv : (Value.slice ag m' cp).ownBlock with
          | none => exact .inl rfl
          | some b =>
            refine .inr fun e => ?_
            obtain ⟨cs, hcs⟩ := own_blk hrg hv
            obtain ⟨es, cl, hms⟩ := hobj
            rw [Option.some.inj e, hms] at hcs
            cases hcs)
        have HRMA := Lib.hid (hrm.alloc (.cells #[.pointer (some ⟨w5.heap.size + 1, 0, none⟩)] 125))
        have HRM := Lib.hid hrm
        have hszm : w3.heap.size ≤ wm.heap.size := by have := HI.out.bel1.size; have := hbg.size; have := hgm.size; omega
        have hm9 : m' ≤ 1000 := by have := HI.out.lek; omega
        have HSZM := Lib.hid hszm
        have HBG := Lib.hid hbg
        have HGBK := Lib.hid hgbk
        have HYG := Lib.hid hyg
        have HXG := Lib.hid hxg
        have HOBJ := Lib.hid hobj
        have HPR := Lib.hid hPr
        have HMM := Lib.hid hmapm
        have HGM9 := Lib.hid hgm
        clear hex hno hb5 hb45 x0 hpt hq hbr5 hby hybk hxbk hmap hown hrow hbel hbel1 hok hbg hsz1 hgbk hbyg hyg hxg hmapg hobj hPr hmapm hgm hne hrg hrm hszm
        go_wp2_with (at_builtin; refine wpList_append_own_at _ rfl (.tmp 55) (.tmp 59) 122 rfl w3.heap.size 125 j0 (.pointer none) 1 8 Try.underlying122 gi gz0 gz1 gz2 rfl (by decide) _ m' _ rfl HRMA.out ⟨wm.heap.size, 0, none⟩ 1 1 [.pointer (some ⟨w5.heap.size + 1, 0, none⟩)] rfl rfl (one_src _ _ _) (one_oneCell rfl) (by unfold maxLen; omega) (by omega) (Nat.le_trans HSZM.out (by simp)) ?_)
        intro v9 wS hown9 hgrow9 _ _
        obtain ⟨g9, c9, rfl⟩ := own_some2 hown9 (by omega)
        have h9 : New9 _ wm (wm.alloc (.cells #[.pointer (some ⟨w5.heap.size + 1, 0, none⟩)] 125)) wS M w3.heap.size (.slice ag m' cp) := ⟨HGM9.out, (Below.refl _ _).alloc (Nat.le_refl _) _, ⟨_, _, HRM.out⟩, hgrow9⟩
        have hmid := SpI.mid_new HI.out HBG.out HPR.out HGBK.out HNO.out HMM.out h9 H3S.out HWM.out
        have hys9 := h9.kept HYG.out HOBJ.out (by decide)
        have hxs9 := h9.kept HXG.out HOBJ.out (by decide)
        obtain ⟨by', hby'⟩ : ∃ b, b = w5.heap.size := ⟨_, rfl⟩
        obtain ⟨g, hg⟩ : ∃ g : GV, g = ⟨w5.heap.size + 1, q, pt, none, 0, 0, []⟩ := ⟨_, rfl⟩
        obtain ⟨GS, hGS⟩ : ∃ GS, GS = gs ++ [g] := ⟨_, rfl⟩
        rw [← hg, ← hGS] at hmid
        rw [← hby'] at hys9
        have HMD := Lib.hid hmid
        have HYS := Lib.hid hys9
        have HXS := Lib.hid hxs9
        have HG := Lib.hid (show ∃ hj : gs.length < GS.length, GS[gs.length] = g from ⟨by rw [hGS]; simp, by simp [hGS]⟩)
        have HKEY := Lib.hid (show g.key = (q, pt) from by rw [hg]; rfl)
        have HROW := Lib.hid (show wS.ownsRow w3.heap.size 125 1 (.slice (some ⟨g9, 0, none⟩) (m' + 1) c9) (m' + 1) (GS.map GV.ptr) from by
          rw [hGS, List.map_append, hg]; exact hown9)
        have HBXN := Lib.hid (show some bx ≠ g.v.ownBlock from by rw [hg]; exact fun e => by cases e)
        have HGL := Lib.hid (show GS.length = m' + 1 from by rw [hGS, List.length_append, HI.out.len]; rfl)
        have HINV := Lib.hid (show ∀ a9 c9, Gath.Inv (plS win ss) ((GS.set gs.length (g.more a9 c9 (⟨⟨kd, tm, la, L.length, lc, L, tx, v, nl⟩, mk, sq, pl⟩ : RowV))).map GV.pair) (rs.take (k + 1)) from fun a9 c9 => by
          have hkf : plS win ss (⟨⟨kd, tm, la, L.length, lc, L, tx, v, nl⟩, mk, sq, pl⟩ : RowV) = (q, pt) := by unfold plS; rw [HQ.out, HPT.out]
          have h2 := HI.out.inv.new (x := (⟨⟨kd, tm, la, L.length, lc, L, tx, v, nl⟩, mk, sq, pl⟩ : RowV)) (fun p hp => by
            obtain ⟨y, hy, rfl⟩ := List.mem_map.1 hp
            rw [hkf]; exact HNO.out y hy)
          rw [hkf] at h2
          rw [hGS, List.set_append_right _ _ (Nat.le_refl _), Nat.sub_self, List.map_append, hg]
          rw [take_snoc (by have := HNEW.out.rows.len; omega) HR.out]
          exact h2)
        clear hown9 hgrow9 h9 hmid hys9 hxs9 hg hGS hst y0 y1 lkm c1 hqw hl1
        go_wp2_with fail
        rw [← hby']
        clear hby'
        have lx : bx < wS.heap.size := (Array.getElem?_eq_some_iff.1 HXS.out).1
        have ly : by' < wS.heap.size := (Array.getElem?_eq_some_iff.1 HYS.out).1
        have hgm : g ∈ GS := by rw [← HG.out.2]; exact List.getElem_mem _
        have gb := (HMD.out.own.blk g hgm).2
        obtain ⟨P, hP⟩ : ∃ P, P = g.p := ⟨_, rfl⟩
        rw [← hP] at gb
        have lp : P < wS.heap.size := (Array.getElem?_eq_some_iff.1 gb).1
        have hgo := (HMD.out.own.own g hgm).1
        have hno : ∀ b, (∀ cs, wS.heap[b]? ≠ some (.cells cs 62 (0, 0))) → some b ≠ g.v.ownBlock := fun b hb e => by
          obtain ⟨cs, hcs⟩ := own_blk hgo e.symm
          exact hb cs hcs
        have hblt : ∀ b, g.v.ownBlock = some b → w3.heap.size ≤ b := fun b hb => (hgo.lt b hb).1
        have hbx3 : some bx ≠ g.v.ownBlock ∧ bx ≠ P := ⟨HBXN.out, fun e => by
          have h1 := HXS.out
          rw [e, gb] at h1
          have h2 := (Obj.cells.injEq .. ▸ Option.some.inj h1)
          have h3 : (72 : TypeId) = 62 := h2.2.1
          exact absurd h3 (by decide)⟩
        have hby3 : some by' ≠ g.v.ownBlock ∧ by' ≠ P := ⟨hno by' (fun cs e => by
          rw [HYS.out] at e
          have h2 := (Obj.cells.injEq .. ▸ Option.some.inj e)
          have h3 : (124 : TypeId) = 62 := h2.2.1
          exact absurd h3 (by decide)), fun e => by
          have h1 := HYS.out
          rw [e, gb] at h1
          have h2 := (Obj.cells.injEq .. ▸ Option.some.inj h1)
          have h3 : (72 : TypeId) = 124 := h2.2.1
          exact absurd h3 (by decide)⟩
        have hM3 : some M ≠ g.v.ownBlock ∧ M ≠ P := by
          obtain ⟨es, cl, hms⟩ := HMD.out.map.obj
          refine ⟨hno M (fun cs e => by rw [hms] at e; cases e), fun e => ?_⟩
          rw [e, gb] at hms; cases hms
        have e2 : lookG GS (q, pt) = some P := by
          have := lookG_at HG.out.1 HMD.out.keys
          rw [HG.out.2, HKEY.out] at this
          rw [hP]; exact this
        have HE2 := Lib.hid e2
        have HAX := Lib.hid (show ∀ L7 V7 w9, SpR wS w3.heap.size M P q pt g (⟨⟨kd, tm, la, L.length, lc, L, tx, v, nl⟩, mk, sq, pl⟩ : RowV) L7 V7 w9 → w9.heap[bx]? = some (.cells #[.int .i64 kd, .int .i64 tm, .slice la L.length lc, .string tx, .int .i64 v, .bool nl, .int .i64 mk, .int .i64 sq, .int .i64 pl] 62 (0, 0)) from fun L7 V7 w9 h => (h.keep lx hbx3.1 hbx3.2).trans HXS.out)
        have HAY := Lib.hid (show ∀ L7 V7 w9, SpR wS w3.heap.size M P q pt g (⟨⟨kd, tm, la, L.length, lc, L, tx, v, nl⟩, mk, sq, pl⟩ : RowV) L7 V7 w9 → w9.heap[by']? = some (.cells #[.int .i64 q, .string pt] 124 (0, 0)) from fun L7 V7 w9 h => (h.keep ly hby3.1 hby3.2).trans HYS.out)
        have HAM := Lib.hid (show ∀ L7 V7 w9, SpR wS w3.heap.size M P q pt g (⟨⟨kd, tm, la, L.length, lc, L, tx, v, nl⟩, mk, sq, pl⟩ : RowV) L7 V7 w9 → (Instr.lookup 121 (.map (some M)) (.agg #[.int .i64 q, .string pt]) false).run Try.prog w9 = .ok (.pointer (some ⟨P, 0, none⟩)) w9 from fun L7 V7 w9 h => by
          have e := (HMD.out.map.same (h.keep HMD.out.map.lt hM3.1 hM3.2)).look (k := (q, pt)) HOK.out
          rw [HE2.out] at e
          exact e)
        have HGB := Lib.hid gb
        have HP := Lib.hid hP
        have HGO := Lib.hid hgo
        have HTYP := Lib.hid (show some P ≠ g.v.ownBlock from hno P (fun cs e => by
          rw [gb] at e
          have h2 := (Obj.cells.injEq .. ▸ Option.some.inj e)
          have h3 : (72 : TypeId) = 62 := h2.2.1
          exact absurd h3 (by decide)))
        have hgn : g.n ≤ 1000 := by have := HMD.out.few g hgm; omega
        have hbase := HMD.out.bel1.size
        have HBASE := Lib.hid hbase
        have HGM := Lib.hid hgm
        have HLP := Lib.hid lp
        clear gb hgm hP hgo hno hblt hbx3 hby3 hM3 e2 lx ly lp hbase
        refine wp_region_inv (by kernel_rfl) (by kernel_rfl) (by kernel_rfl) (SpR wS w3.heap.size M P q pt g (⟨⟨kd, tm, la, L.length, lc, L, tx, v, nl⟩, mk, sq, pl⟩ : RowV)) (fun V => SpR.start V) ?_ ?_
        · intro j9 o ho L9 V w9 K hI hL hdep hK
          have HI := Lib.hid hI
          have hin : j9 < 15 := (Array.getElem?_eq_some_iff.1 ho).1
          have hcs : j9 = 0 ∨ j9 = 1 ∨ j9 = 2 ∨ j9 = 3 ∨ j9 = 4 ∨ j9 = 5 ∨ j9 = 6 ∨ j9 = 7 ∨ j9 = 8 ∨ j9 = 9 ∨ j9 = 10 ∨ j9 = 11 ∨ j9 = 12 ∨ j9 = 13 ∨ j9 = 14 := by omega
          clear hin
          rcases hcs with rfl | rfl | rfl | rfl | rfl | rfl | rfl | rfl | rfl | rfl | rfl | rfl | rfl | rfl | rfl
          · obtain rfl := Option.some.inj ho.symm
            clear hdep ho hI hL
            try simp only [fill, slotOf, List.size_toArray, List.length_cons, List.length_nil, Nat.reduceAdd, List.getElem?_toArray, List.getElem?_cons_zero, List.getElem?_cons_succ, Option.bind_some, Act.put, List.setIfInBounds_toArray, List.set_cons_zero, List.set_cons_succ] at hK ⊢
            go_simp
            exact hK (.map (some M)) _ (HI.out.put 0 _ (by decide) rfl) _ rfl
          · obtain rfl := Option.some.inj ho.symm
            have r0 : w9.cell? ⟨by', 0, none⟩ = some (.int .i64 q) := cell_blk (HAY.out _ _ _ hI) rfl
            have r1 : w9.cell? ⟨by', 1, none⟩ = some (.string pt) := cell_blk (HAY.out _ _ _ hI) rfl
            clear hdep ho hI hL
            try simp only [fill, slotOf, List.size_toArray, List.length_cons, List.length_nil, Nat.reduceAdd, List.getElem?_toArray, List.getElem?_cons_zero, List.getElem?_cons_succ, Option.bind_some, Act.put, List.setIfInBounds_toArray, List.set_cons_zero, List.set_cons_succ] at hK ⊢
            go_simp
            exact hK (.agg #[.int .i64 q, .string pt]) _ (HI.out.put 1 _ (by decide) rfl) _ rfl
          · obtain rfl := Option.some.inj ho.symm
            have d0 : V 0 = .map (some M) := hI.val 0 (hdep ⟨0, .data⟩ (by simp) rfl)
            have d1 : V 1 = .agg #[.int .i64 q, .string pt] := hI.val 1 (hdep ⟨1, .data⟩ (by simp) rfl)
            have lk := HAM.out _ _ _ hI
            clear hdep ho hI hL
            try simp only [fill, slotOf, List.size_toArray, List.length_cons, List.length_nil, Nat.reduceAdd, List.getElem?_toArray, List.getElem?_cons_zero, List.getElem?_cons_succ, Option.bind_some, Act.put, List.setIfInBounds_toArray, List.set_cons_zero, List.set_cons_succ] at hK ⊢
            rw [d0, d1] at hK ⊢
            go_simp
            exact hK (.pointer (some ⟨P, 0, none⟩)) _ (HI.out.put 2 _ (by decide) rfl) _ rfl
          · obtain rfl := Option.some.inj ho.symm
            clear hdep ho hI hL
            try simp only [fill, slotOf, List.size_toArray, List.length_cons, List.length_nil, Nat.reduceAdd, List.getElem?_toArray, List.getElem?_cons_zero, List.getElem?_cons_succ, Option.bind_some, Act.put, List.setIfInBounds_toArray, List.set_cons_zero, List.set_cons_succ] at hK ⊢
            go_simp
            exact hK (.map (some M)) _ (HI.out.put 3 _ (by decide) rfl) _ rfl
          · obtain rfl := Option.some.inj ho.symm
            have r0 : w9.cell? ⟨by', 0, none⟩ = some (.int .i64 q) := cell_blk (HAY.out _ _ _ hI) rfl
            have r1 : w9.cell? ⟨by', 1, none⟩ = some (.string pt) := cell_blk (HAY.out _ _ _ hI) rfl
            clear hdep ho hI hL
            try simp only [fill, slotOf, List.size_toArray, List.length_cons, List.length_nil, Nat.reduceAdd, List.getElem?_toArray, List.getElem?_cons_zero, List.getElem?_cons_succ, Option.bind_some, Act.put, List.setIfInBounds_toArray, List.set_cons_zero, List.set_cons_succ] at hK ⊢
            go_simp
            exact hK (.agg #[.int .i64 q, .string pt]) _ (HI.out.put 4 _ (by decide) rfl) _ rfl
          · obtain rfl := Option.some.inj ho.symm
            have d3 : V 3 = .map (some M) := hI.val 3 (hdep ⟨3, .data⟩ (by simp) rfl)
            have d4 : V 4 = .agg #[.int .i64 q, .string pt] := hI.val 4 (hdep ⟨4, .data⟩ (by simp) rfl)
            have lk := HAM.out _ _ _ hI
            clear hdep ho hI hL
            try simp only [fill, slotOf, List.size_toArray, List.length_cons, List.length_nil, Nat.reduceAdd, List.getElem?_toArray, List.getElem?_cons_zero, List.getElem?_cons_succ, Option.bind_some, Act.put, List.setIfInBounds_toArray, List.set_cons_zero, List.set_cons_succ] at hK ⊢
            rw [d3, d4] at hK ⊢
            go_simp
            exact hK (.pointer (some ⟨P, 0, none⟩)) _ (HI.out.put 5 _ (by decide) rfl) _ rfl
          · obtain rfl := Option.some.inj ho.symm
            have d5 : V 5 = .pointer (some ⟨P, 0, none⟩) := hI.val 5 (hdep ⟨5, .data⟩ (by simp) rfl)
            clear hdep ho hI hL
            try simp only [fill, slotOf, List.size_toArray, List.length_cons, List.length_nil, Nat.reduceAdd, List.getElem?_toArray, List.getElem?_cons_zero, List.getElem?_cons_succ, Option.bind_some, Act.put, List.setIfInBounds_toArray, List.set_cons_zero, List.set_cons_succ] at hK ⊢
            rw [d5] at hK ⊢
            go_simp
            exact hK (.pointer (some ⟨P, 0, none⟩)) _ (HI.out.put 6 _ (by decide) rfl) _ rfl
          · obtain rfl := Option.some.inj ho.symm
            have d6 : V 6 = .pointer (some ⟨P, 0, none⟩) := hI.val 6 (hdep ⟨6, .data⟩ (by simp) rfl)
            clear hdep ho hI hL
            try simp only [fill, slotOf, List.size_toArray, List.length_cons, List.length_nil, Nat.reduceAdd, List.getElem?_toArray, List.getElem?_cons_zero, List.getElem?_cons_succ, Option.bind_some, Act.put, List.setIfInBounds_toArray, List.set_cons_zero, List.set_cons_succ] at hK ⊢
            rw [d6] at hK ⊢
            go_simp
            exact hK (.pointer (some ⟨P, 2, none⟩)) _ (HI.out.put 7 _ (by decide) rfl) _ rfl
          · obtain rfl := Option.some.inj ho.symm
            have d7 : V 7 = .pointer (some ⟨P, 2, none⟩) := hI.val 7 (hdep ⟨7, .data⟩ (by simp) rfl)
            have hg9 := ((hI.sA (hI.no11 (.inl hL))).1.block P HLP.out).trans HGB.out
            have cc : w9.cell? ⟨P, 2, none⟩ = some (.slice g.a g.n g.c) := cell_blk hg9 rfl
            clear hdep ho hI hL
            clear hg9
            try simp only [fill, slotOf, List.size_toArray, List.length_cons, List.length_nil, Nat.reduceAdd, List.getElem?_toArray, List.getElem?_cons_zero, List.getElem?_cons_succ, Option.bind_some, Act.put, List.setIfInBounds_toArray, List.set_cons_zero, List.set_cons_succ] at hK ⊢
            rw [d7] at hK ⊢
            go_simp
            exact hK (.slice g.a g.n g.c) _ (HI.out.put 8 _ (by decide) rfl) _ rfl
          · obtain rfl := Option.some.inj ho.symm
            have s0 : w9.cell? ⟨bx, 0, none⟩ = some (.int .i64 kd) := cell_blk (HAX.out _ _ _ hI) rfl
            have s1 : w9.cell? ⟨bx, 1, none⟩ = some (.int .i64 tm) := cell_blk (HAX.out _ _ _ hI) rfl
            have s2 : w9.cell? ⟨bx, 2, none⟩ = some (.slice la L.length lc) := cell_blk (HAX.out _ _ _ hI) rfl
            have s3 : w9.cell? ⟨bx, 3, none⟩ = some (.string tx) := cell_blk (HAX.out _ _ _ hI) rfl
            have s4 : w9.cell? ⟨bx, 4, none⟩ = some (.int .i64 v) := cell_blk (HAX.out _ _ _ hI) rfl
            have s5 : w9.cell? ⟨bx, 5, none⟩ = some (.bool nl) := cell_blk (HAX.out _ _ _ hI) rfl
            have s6 : w9.cell? ⟨bx, 6, none⟩ = some (.int .i64 mk) := cell_blk (HAX.out _ _ _ hI) rfl
            have s7 : w9.cell? ⟨bx, 7, none⟩ = some (.int .i64 sq) := cell_blk (HAX.out _ _ _ hI) rfl
            have s8 : w9.cell? ⟨bx, 8, none⟩ = some (.int .i64 pl) := cell_blk (HAX.out _ _ _ hI) rfl
            clear hdep ho hI hL
            try simp only [fill, slotOf, List.size_toArray, List.length_cons, List.length_nil, Nat.reduceAdd, List.getElem?_toArray, List.getElem?_cons_zero, List.getElem?_cons_succ, Option.bind_some, Act.put, List.setIfInBounds_toArray, List.set_cons_zero, List.set_cons_succ] at hK ⊢
            go_simp
            exact hK (.agg #[.int .i64 kd, .int .i64 tm, .slice la L.length lc, .string tx, .int .i64 v, .bool nl, .int .i64 mk, .int .i64 sq, .int .i64 pl]) _ (HI.out.put 9 _ (by decide) rfl) _ rfl
          · obtain rfl := Option.some.inj ho.symm
            have d9 : V 9 = .agg #[.int .i64 kd, .int .i64 tm, .slice la L.length lc, .string tx, .int .i64 v, .bool nl, .int .i64 mk, .int .i64 sq, .int .i64 pl] := hI.val 9 (hdep ⟨9, .data⟩ (by simp) rfl)
            have HI4 := Lib.hid (hI.put10 hL)
            clear hdep ho hI hL
            try simp only [fill, slotOf, List.size_toArray, List.length_cons, List.length_nil, Nat.reduceAdd, List.getElem?_toArray, List.getElem?_cons_zero, List.getElem?_cons_succ, Option.bind_some, Act.put, List.setIfInBounds_toArray, List.set_cons_zero, List.set_cons_succ] at hK ⊢
            rw [d9] at hK ⊢
            go_simp
            exact hK (.slice (some ⟨w9.heap.size, 0, none⟩) 1 1) _ HI4.out _ rfl
          · have hoo := Option.some.inj ho.symm
            have HL11 := Lib.hid hL
            have d8 : V 8 = .slice g.a g.n g.c := hI.val 8 (hdep ⟨8, .data⟩ (by rw [hoo]; simp) rfl)
            have l8 := hdep ⟨8, .data⟩ (by rw [hoo]; simp) rfl
            have l10 := hdep ⟨10, .data⟩ (by rw [hoo]; simp) rfl
            have hA := hI.sA hL
            obtain ⟨bb, d10, hbb⟩ := hA.2 l10
            have HOW := Lib.hid (own_below HGO.out hA.1)
            have HBB := Lib.hid hbb
            have HAB := Lib.hid hA.1
            have hs9 := hA.1.size
            subst hoo
            clear hdep ho hI hL
            clear hA
            clear hbb
            try simp only [fill, slotOf, List.size_toArray, List.length_cons, List.length_nil, Nat.reduceAdd, List.getElem?_toArray, List.getElem?_cons_zero, List.getElem?_cons_succ, Option.bind_some, Act.put, List.setIfInBounds_toArray, List.set_cons_zero, List.set_cons_succ] at hK ⊢
            rw [d8, d10] at hK ⊢
            refine step_append_own_b (by first | rfl | kernel_rfl) (.tmp 69) (.tmp 71) 58 rfl w3.heap.size 62 i0 _ 9 96 Try.underlying58 hi hz0 hz1 hz2 rfl (by decide) (.slice g.a g.n g.c) g.n (rcells g.rows) (by rfl) HOW.out ⟨bb, 0, none⟩ 1 1 (RowV.cells (⟨⟨kd, tm, la, L.length, lc, L, tx, v, nl⟩, mk, sq, pl⟩ : RowV)) (by rfl) rfl HBB.out (rcells_one _) (by unfold maxLen; omega) (by omega) (Nat.le_trans HBASE.out hs9) ?_
            intro vN wA hownA hgrowA hlocA
            obtain ⟨gN, cN, rfl⟩ := own_some2 hownA (by omega)
            exact hK (.slice (some ⟨gN, 0, none⟩) (g.n + 1) cN) _ (HI.out.put11 HL11.out l8 l10 ⟨_, _, w9.heap.size, rfl, hownA, grown_low HAB.out hgrowA, hlocA, hs9⟩) _ rfl
          · obtain rfl := Option.some.inj ho.symm
            have d2 : V 2 = .pointer (some ⟨P, 0, none⟩) := hI.val 2 (hdep ⟨2, .data⟩ (by simp) rfl)
            clear hdep ho hI hL
            try simp only [fill, slotOf, List.size_toArray, List.length_cons, List.length_nil, Nat.reduceAdd, List.getElem?_toArray, List.getElem?_cons_zero, List.getElem?_cons_succ, Option.bind_some, Act.put, List.setIfInBounds_toArray, List.set_cons_zero, List.set_cons_succ] at hK ⊢
            rw [d2] at hK ⊢
            go_simp
            exact hK (.pointer (some ⟨P, 0, none⟩)) _ (HI.out.put 12 _ (by decide) rfl) _ rfl
          · obtain rfl := Option.some.inj ho.symm
            have d12 : V 12 = .pointer (some ⟨P, 0, none⟩) := hI.val 12 (hdep ⟨12, .data⟩ (by simp) rfl)
            clear hdep ho hI hL
            try simp only [fill, slotOf, List.size_toArray, List.length_cons, List.length_nil, Nat.reduceAdd, List.getElem?_toArray, List.getElem?_cons_zero, List.getElem?_cons_succ, Option.bind_some, Act.put, List.setIfInBounds_toArray, List.set_cons_zero, List.set_cons_succ] at hK ⊢
            rw [d12] at hK ⊢
            go_simp
            exact hK (.pointer (some ⟨P, 2, none⟩)) _ (HI.out.put 13 _ (by decide) rfl) _ rfl
          · have hoo := Option.some.inj ho.symm
            have d13 : V 13 = .pointer (some ⟨P, 2, none⟩) := hI.val 13 (hdep ⟨13, .data⟩ (by rw [hoo]; simp) rfl)
            have l11 := hdep ⟨11, .data⟩ (by rw [hoo]; simp) rfl
            have hB := hI.sB l11 hL
            obtain ⟨aN, cN, BN, d11, ho11, hg11, hlo11, hB11⟩ := hB
            have hg9 := (hg11.block P HLP.out HTYP.out).trans HGB.out
            have cc : w9.cell? ⟨P, 2, none⟩ = some (.slice g.a g.n g.c) := cell_blk hg9 rfl
            have ff : w9.frozen? ⟨P, 2, none⟩ = false := by simp [World.frozen?, hg9]
            have HI4 := Lib.hid (hI.put14 l11 hL undef)
            rw [d11] at HI4
            subst hoo
            clear hdep ho hI hL
            clear ho11
            clear hg11
            clear hlo11
            clear hB11
            clear hg9
            clear l11
            try simp only [fill, slotOf, List.size_toArray, List.length_cons, List.length_nil, Nat.reduceAdd, List.getElem?_toArray, List.getElem?_cons_zero, List.getElem?_cons_succ, Option.bind_some, Act.put, List.setIfInBounds_toArray, List.set_cons_zero, List.set_cons_succ] at hK ⊢
            rw [d13, d11] at hK ⊢
            go_simp
            exact hK (undef) _ HI4.out _ rfl
        · intro L9 V w9 hI hall
          obtain ⟨wA, vN, hStB, hw9⟩ := hI.sC (hall 14 (by decide))
          obtain ⟨aN, cN, BN, rfl, ho11, hg11, hlo11, hB11⟩ := hStB
          have HW9 := Lib.hid hw9
          have HO11 := Lib.hid ho11
          have HG11 := Lib.hid hg11
          have HL11 := Lib.hid hlo11
          have HB11 := Lib.hid hB11
          clear hall hI hw9 ho11 hg11 hlo11 hB11
          simp only [fill, slotOf, List.size_toArray, List.length_cons, List.length_nil, Nat.reduceAdd, List.getElem?_toArray, List.getElem?_cons_zero, List.getElem?_cons_succ, Option.bind_some, Act.put, List.setIfInBounds_toArray, List.set_cons_zero, List.set_cons_succ]
          have hnx := SpI.next HMD.out HROW.out HG.out.1 HG.out.2 HGL.out (by have := HI.out.lek; omega) HB11.out H3S.out HO11.out HG11.out HL11.out (HINV.out aN cN)
          rw [← HP.out, ← HW9.out] at hnx
          have HNX := Lib.hid hnx
          clear hnx
          go_wp2_with fail
          go_roundw
          case rel => exact ⟨k + 1, m' + 1, c9, _, _, by omega, by go_num, rfl, HNX⟩
          case measure => simp [intOf]; omega
    · obtain rfl : k = n := by omega
      have hm9 : m' ≤ 1000 := by have := HI.out.lek; omega
      have HSORT := Lib.hid (gsort_all HI.out.row HI.out.len (by omega) HI.out.own (keys_ne HI.out.inv))
      clear hkn
      go_wp2_with fail
      refine HSORT.out.mono ?_
      rintro e w6 ⟨rfl, gs', hp6, hup6, hrow6, hg6⟩
      have hpar := HI.out.parted (by have := HNEW.out.rows.len; omega) H3S.out HM3L.out HOM.out HNEW.out.rows hp6 hup6 hg6
      have HPAR := Lib.hid hpar
      have hlen6 : gs'.length = m' := by rw [hp6.length_eq]; exact HI.out.len
      have HLEN6 := Lib.hid hlen6
      have HROW6 := Lib.hid hrow6
      have hc6 : m' ≤ cp ∧ cp ≤ 9223372036854775807 := by
        rcases hrow6.2 with ⟨he, h0⟩ | ⟨g, cap, cur, he, hg, hh, hnc, hcap, _⟩
        · cases he; exact ⟨Nat.le_refl _, by omega⟩
        · cases he; exact ⟨hnc, by unfold maxLen at hcap; exact hcap⟩
      have hc61 := hc6.1
      have hc62 := hc6.2
      have HB60 := Lib.hid (Below.refl w6.heap.size w6)
      have HO60 := Lib.hid (World.ownsRow_nil w6 w6.heap.size 72 3)
      clear hp6 hup6 hrow6 hg6 hpar hlen6 hc6
      go_wp2_with fail
      go_loopw [14, 80] (fun s14 s80 wr => ∃ (i c9 : Nat) (a9 : Option Addr), i ≤ m' ∧ s80 = .int .i64 (i : Int) ∧ s14 = .slice a9 i c9 ∧ Hid (wr.ownsRow w6.heap.size 72 3 (.slice a9 i c9) i (gcells (gs'.take i))) ∧ Hid (Below w6.heap.size w6 wr)) (fun _ s80 _ => m' - (intOf s80).toNat)
      case atStart => exact ⟨0, 0, none, by omega, rfl, rfl, HO60, HB60⟩
      case round =>
        clear HB60 HO60
        obtain ⟨i, c9, a9, hi9, rfl, rfl, HO, HB⟩ := hrel
        rename World => wt
        by_cases him : i < m'
        · have himi : (i : Int) < (m' : Int) := by omega
          have hpw := HPAR.out.below HB.out
          have hrw := own_below HROW6.out HB.out
          obtain ⟨g6, cc6, he6⟩ := own_some2 hrw (by omega)
          cases he6
          obtain ⟨g, hg⟩ : ∃ g, g = gs'[i]'(by have := HLEN6.out; omega) := ⟨_, rfl⟩
          have hgm : g ∈ gs' := by rw [hg]; exact List.getElem_mem _
          have hgb := (hpw.own.blk g hgm).2
          obtain ⟨P, hP⟩ : ∃ P, P = g.p := ⟨_, rfl⟩
          rw [← hP] at hgb
          have z0 : wt.cell? ⟨P, 0, none⟩ = some (.int .i64 g.win) := cell_blk hgb rfl
          have z1 : wt.cell? ⟨P, 1, none⟩ = some (.string g.part) := cell_blk hgb rfl
          have z2 : wt.cell? ⟨P, 2, none⟩ = some (.slice g.a g.n g.c) := cell_blk hgb rfl
          have zp : wt.cell? ⟨g6, i, none⟩ = some (.pointer (some ⟨P, 0, none⟩)) := by
            have h1 := hrw.cellAt i (by omega)
            rw [h1, List.getElem?_map, List.getElem?_eq_getElem (by have := HLEN6.out; omega), ← hg, hP]; rfl
          have HT := Lib.hid (show gs'.take (i + 1) = gs'.take i ++ [g] from by
            have hlt : i < gs'.length := by have := HLEN6.out; omega
            rw [List.take_add_one, List.getElem?_eq_getElem hlt, hg]; rfl)
          have hbt := HB.out.size
          have HSRC := Lib.hid (grp_src wt g 72)
          have HOA := Lib.hid (HO.out.alloc (.cells #[.int .i64 g.win, .string g.part, .slice g.a g.n g.c] 72))
          have HBA := Lib.hid (HB.out.alloc HB.out.size (.cells #[.int .i64 g.win, .string g.part, .slice g.a g.n g.c] 72))
          have HBT := Lib.hid hbt
          clear hpw hrw hg hgm hgb hP hbt
          go_wp2_with (at_builtin; refine wpList_append_own_at _ rfl (.tmp 84) (.tmp 88) 67 rfl w6.heap.size 72 k0 _ 3 48 Try.underlying67 pi pz0 pz1 pz2 rfl (by decide) _ i _ rfl HOA.out ⟨wt.heap.size, 0, none⟩ 1 1 (GV.cells g) rfl rfl HSRC.out (gcells_one _) (by unfold maxLen; omega) (by omega) (Nat.le_trans HBT.out (by simp)) ?_)
          intro v7 w7 ho7 hg7 _ _
          obtain ⟨g7, c7, rfl⟩ := own_some2 ho7 (by omega)
          have HO7 := Lib.hid (show w7.ownsRow w6.heap.size 72 3 (.slice (some ⟨g7, 0, none⟩) (i + 1) c7) (i + 1) (gcells (gs'.take (i + 1))) from by rw [HT.out, gcells_snoc]; exact ho7)
          have HB7 := Lib.hid (below_own HBA.out HOA.out hg7 (Nat.le_refl _) (Nat.le_trans HBT.out (by simp)))
          clear ho7 hg7 z0 z1 z2 zp
          go_wp2_with fail
          go_roundw
          case rel => exact ⟨i + 1, c7, _, by omega, by go_num, rfl, HO7, HB7⟩
          case measure => simp [intOf]; omega
        · obtain rfl : i = m' := by omega
          have hpw := HPAR.out.below HB.out
          have ho := HO.out
          rw [List.take_of_length_le (by have := HLEN6.out; omega)] at ho
          have HAT := Lib.hid (GrpsAt.ofOwn ho HLEN6.out hpw.rows)
          have HPW := Lib.hid hpw
          clear him ho hpw
          go_wp2_with fail
          go_ret
          exact ⟨a9, i, c9, l1, rs, gs', rfl, ⟨HAT.out, HPW.out.inv, HPW.out.up, HNEW.out.rows.len, HSY.out, HST.out, HPW.out.bel⟩⟩
end Go.Proofs.Ytjbljplgkbnpmaa
