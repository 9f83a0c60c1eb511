/- The document's twins of labels and of a record; a batch's rows by it: walked. Written by genrowrows.py. -/
import Derived.Test.YtjbljplgkbnpmaaRecRows
import Derived.Test.YtjbljplgkbnpmaaRowCmp
import Derived.Deep.RegionHeld3
namespace Go.Proofs.Ytjbljplgkbnpmaa
open Go.RowKit LabPlain RecPlain
set_option linter.unusedVariables false

set_option maxRecDepth 100000 in
set_option maxHeartbeats 1000000 in
theorem ltwin_own {w : World} {a : Option Addr} {n c : Nat} {l : List Lab} (h : LabsAt w a n c l) (hn : n * 32 ≤ 140737488355328) :
    Calls Try.prog 17 #[.slice a n c] w fun e w' => ∃ a' c', e = .returned (.slice a' n c') ∧ w'.ownsRow w.heap.size 41 2 (.slice a' n c') n (lcells l) ∧ Below w.heap.size w w' := by
  obtain ⟨i0, hi, hz0, hz1, hz2⟩ := info_parts lab_info
  have hown0 := World.ownsRow_lit (base := w.heap.size) (e := 41) (size := 2) w #[] 0 (Nat.le_refl _) (by unfold maxLen; omega) rfl
  have hlen := h.len
  have hb0 : Below w.heap.size w (w.alloc (.cells #[] 41)) := (Below.refl _ _).alloc (Nat.le_refl _) _
  have HK := Lib.hid (h.kept hb0)
  have HB0 := Lib.hid hb0
  have HL := Lib.hid hlen
  have hnl := h.nl
  have hcap := h.cap
  clear h hb0
  rcases a with _ | ad
  · have hc0 := hnl rfl
    have hn0 : n = 0 := by omega
    subst hn0
    subst hc0
    have HE := Lib.hid (show l = [] from List.eq_nil_of_length_eq_zero hlen)
    have HO := Lib.hid hown0
    clear hnl hlen
    go_enter Try.func17, Try.ntmps17
    go_wp2_with (at_builtin; refine wpList_append_own_none rfl (.tmp 3) (.tmp 4) 22 rfl w.heap.size 41 i0 2 Try.underlying22 hi _ _ _ rfl hown0 rfl ?_)
    go_wp2_with fail
    go_ret
    refine ⟨_, _, rfl, ?_, HB0.out⟩
    rw [HE.out]
    exact HO.out
  · clear hnl
    go_enter Try.func17, Try.ntmps17
    go_wp2_with (at_builtin; refine wpList_append_own_at _ rfl (.tmp 3) (.tmp 4) 22 rfl w.heap.size 41 i0 _ 2 32 Try.underlying22 hi hz0 hz1 hz2 rfl (by decide) _ _ _ rfl hown0 ad n c (lcells l) rfl (by rw [lcells_len, HL.out]) HK.out.src (lcells_one l) (by unfold maxLen; omega) (by omega) (by simp) ?_)
    intro v' w1 hown' hgrow hnil _
    have hown2 : w1.ownsRow w.heap.size 41 2 v' n (lcells l) := by simpa using hown'
    have hb : Below w.heap.size w w1 := HB0.out.grown hgrow (by simp) (fun k hk => by simp [Value.ownBlock] at hk; omega)
    obtain ⟨a', c', rfl⟩ : ∃ a' c', v' = .slice a' n c' := by
      rcases hown2.2 with ⟨rfl, h0⟩ | ⟨g, cap, cur, rfl, _⟩
      · subst h0; exact ⟨_, _, rfl⟩
      · exact ⟨_, _, rfl⟩
    have HAT := Lib.hid hown2
    have HB := Lib.hid hb
    clear hown' hown2 hgrow hb hnil
    go_wp2_with fail
    go_ret
    exact ⟨a', c', rfl, HAT.out, HB.out⟩

set_option maxRecDepth 100000 in
set_option maxHeartbeats 1000000 in
theorem rectwin_any {w : World} {k t : Int} {la : Option Addr} {ln lc : Nat} {L : List Lab} {tx : ByteArray} {v : Int} {nl : Bool} (hn : ln * 32 ≤ 140737488355328) (h : LabsAt w la ln lc L) :
    Calls Try.prog 78 #[.agg #[.int .i64 k, .int .i64 t, .slice la ln lc, .string tx, .int .i64 v, .bool nl]] w fun e w' => ∃ la' lc', e = .returned (.agg #[.int .i64 k, .int .i64 t, .slice la' ln lc', .string tx, .int .i64 v, .bool nl]) ∧ w'.ownsRow w.heap.size 41 2 (.slice la' ln lc') ln (lcells L) ∧ Below w.heap.size w w' := by
  obtain ⟨w1, hw1⟩ : ∃ w1, w1 = w.alloc (.cells #[.int .i64 k, .int .i64 t, .slice la ln lc, .string tx, .int .i64 v, .bool nl] 54) := ⟨_, rfl⟩
  obtain ⟨w2, hw2⟩ : ∃ w2, w2 = w1.alloc (.cells #[.int .i64 0, .int .i64 0, .slice none 0 0, .string ByteArray.empty, .int .i64 0, .bool false] 54) := ⟨_, rfl⟩
  have s1 : w1.heap.size = w.heap.size + 1 := by rw [hw1]; exact Array.size_push _
  have s2 : w2.heap.size = w.heap.size + 2 := by rw [hw2]; exact (Array.size_push _).trans (by rw [s1])
  have hb1 : Below w.heap.size w w1 := by rw [hw1]; exact (Below.refl _ _).alloc (Nat.le_refl _) _
  have hb12 : Below w1.heap.size w1 w2 := by rw [hw2]; exact (Below.refl _ _).alloc (Nat.le_refl _) _
  have hb2 : Below w.heap.size w w2 := hb1.trans (hb12.mono hb1.size)
  have g0 : w2.heap[w.heap.size]? = some (.cells #[.int .i64 k, .int .i64 t, .slice la ln lc, .string tx, .int .i64 v, .bool nl] 54 (0, 0)) := by
    rw [hb12.block _ (by omega), hw1]; exact heap_alloc_new w _
  have g1 : w2.heap[w.heap.size + 1]? = some (.cells #[.int .i64 0, .int .i64 0, .slice none 0 0, .string ByteArray.empty, .int .i64 0, .bool false] 54 (0, 0)) := by
    rw [← s1, hw2]; exact heap_alloc_new w1 _
  have HCL := Lib.hid (ltwin_own (h.kept hb2) hn)
  have HB2 := Lib.hid hb2
  have HG := Lib.hid (fun (w3 : World) (h3 : Below w2.heap.size w2 w3) => And.intro ((h3.block w.heap.size (by omega)).trans g0) ((h3.block (w.heap.size + 1) (by omega)).trans g1))
  have HS := Lib.hid s2
  rw [hw2, hw1] at HCL HB2 HG HS
  have HCL := Lib.hid HCL.out
  have HG := Lib.hid HG.out
  clear h hb1 hb2 hb12 g0 g1 s1 s2
  subst hw1
  subst hw2
  go_enter Try.func78, Try.ntmps78
  go_wp2_with fail
  refine HCL.out.mono ?_
  rintro e w3 ⟨la', lc', rfl, hown, hb3⟩
  obtain ⟨g0, g1⟩ := HG.out w3 hb3
  have f2 : w3.frozen? ⟨w.heap.size, 2, none⟩ = false := by simp [World.frozen?, g0]
  have c2 : w3.cell? ⟨w.heap.size, 2, none⟩ = some (.slice la ln lc) := by rw [cell_of_row _ _ _ _ _ (0, 0) g0]; rfl
  obtain ⟨w4, hw4⟩ : ∃ w4, w4 = w3.setCell ⟨w.heap.size, 2, none⟩ (.slice la' ln lc') := ⟨_, rfl⟩
  have g4 : w4.heap[w.heap.size]? = some (.cells #[.int .i64 k, .int .i64 t, .slice la' ln lc', .string tx, .int .i64 v, .bool nl] 54 (0, 0)) := by rw [hw4, heap_setCell_same _ _ _ _ _ _ g0]; rfl
  have g5 : w4.heap[w.heap.size + 1]? = some (.cells #[.int .i64 0, .int .i64 0, .slice none 0 0, .string ByteArray.empty, .int .i64 0, .bool false] 54 (0, 0)) := by rw [hw4, Below.heap_setCell _ _ _ _ (by simp)]; exact g1
  have d0 := cell_of_row w4 _ 0 _ _ (0, 0) g4
  have d1 := cell_of_row w4 _ 1 _ _ (0, 0) g4
  have d2 := cell_of_row w4 _ 2 _ _ (0, 0) g4
  have d3 := cell_of_row w4 _ 3 _ _ (0, 0) g4
  have d4 := cell_of_row w4 _ 4 _ _ (0, 0) g4
  have d5 := cell_of_row w4 _ 5 _ _ (0, 0) g4
  have b4 : Below w.heap.size w w4 := by rw [hw4]; exact (HB2.out.trans (hb3.mono HB2.out.size)).setCell (Nat.le_refl _) _
  have own4 : (w4.setRow (w.heap.size + 1) #[.int .i64 k, .int .i64 t, .slice la' ln lc', .string tx, .int .i64 v, .bool nl]).ownsRow w.heap.size 41 2 (.slice la' ln lc') ln (lcells L) := by
    have hs := HS.out
    rw [hw4]
    exact World.ownsRow.mono (own_setRow_below (ownsRow_setCell_below hown (by simp; omega) _) (by omega) _) (by omega)
  have b5 : Below w.heap.size w (w4.setRow (w.heap.size + 1) #[.int .i64 k, .int .i64 t, .slice la' ln lc', .string tx, .int .i64 v, .bool nl]) := below_setRow b4 (by omega) _
  have e0 := fun j => cell_setRow_same w4 (w.heap.size + 1) j _ #[.int .i64 k, .int .i64 t, .slice la' ln lc', .string tx, .int .i64 v, .bool nl] _ _ g5
  rw [hw4] at d0 d1 d2 d3 d4 d5 g5 own4 b5 e0
  have HOWN := Lib.hid own4
  have HB5 := Lib.hid b5
  have HG5 := Lib.hid g5
  have HE := Lib.hid e0
  clear hown hb3 g0 g1 g4 g5 hw4 b4 own4 b5 e0
  have q0 := HE.out 0
  have q1 := HE.out 1
  have q2 := HE.out 2
  have q3 := HE.out 3
  have q4 := HE.out 4
  have q5 := HE.out 5
  go_wp2_with (refine wpList_store_row rfl 54 (.tmp 2) (.tmp 7) rfl (w.heap.size + 1) #[.int .i64 k, .int .i64 t, .slice la' ln lc', .string tx, .int .i64 v, .bool nl] rfl rfl 54 _ HG5.out (by kernel_rfl) (by rfl) (by simp [Value.oneCell']) ?_)
  exact bodyPost_ret (v := .agg #[.int .i64 k, .int .i64 t, .slice la' ln lc', .string tx, .int .i64 v, .bool nl]) (by simp [results, Try.results78, go_sem, q0, q1, q2, q3, q4, q5]) rfl ⟨la', lc', rfl, HOWN.out, HB5.out⟩

set_option maxRecDepth 100000 in
set_option maxHeartbeats 4000000 in
theorem rrows_any {w : World} {mk sq : Int} {a : Option Addr} {n c : Nat} {l : List RecV} (hmk : -9223372036854775808 ≤ mk ∧ mk ≤ 9223372036854775807) (hsq : -9223372036854775808 ≤ sq ∧ sq ≤ 9223372036854775807) (h : RecsAt w a n c l) (hn : n ≤ 1000) :
    Calls Try.prog 38 #[.agg #[.int .i64 mk, .int .i64 sq, .slice a n c]] w fun e w' => ∃ v rs, e = .returned v ∧ RowsOwn w' w.heap.size v n rs ∧ (∀ j, j < n → (rs.getD j row0).says = sayOf mk sq (l.getD j rec0) j) ∧ Below w.heap.size w w' := by
  obtain ⟨i0, hi, hz0, hz1, hz2⟩ := info_parts row_info
  obtain ⟨w1, hw1⟩ : ∃ w1, w1 = w.alloc (.cells #[.int .i64 mk, .int .i64 sq, .slice a n c] 52) := ⟨_, rfl⟩
  have s1 : w1.heap.size = w.heap.size + 1 := by rw [hw1]; exact Array.size_push _
  have hb1 : Below w.heap.size w w1 := by rw [hw1]; exact (Below.refl _ _).alloc (Nat.le_refl _) _
  have hbox : ∀ (wr : World), Below w1.heap.size w1 wr → wr.cell? ⟨w.heap.size, 0, none⟩ = some (.int .i64 mk) ∧ wr.cell? ⟨w.heap.size, 1, none⟩ = some (.int .i64 sq) := by
    intro wr hb
    rw [hw1] at hb
    exact ⟨box_cell hb rfl, box_cell hb rfl⟩
  have hbox2 : ∀ (wr : World), Below w1.heap.size w1 wr → wr.cell? ⟨w.heap.size, 2, none⟩ = some (.slice a n c) := by
    intro wr hb
    rw [hw1] at hb
    exact box_cell hb rfl
  have hown1 : (w1.alloc (.cells #[] 62)).ownsRow w1.heap.size 62 9 (.slice (some ⟨w1.heap.size, 0, none⟩) 0 0) 0 (rcells []) := World.ownsRow_lit (base := w1.heap.size) (e := 62) (size := 9) w1 #[] 0 (Nat.le_refl _) (by unfold maxLen; omega) rfl
  have hcap := h.cap
  have hcm := h.capm
  have HH := Lib.hid (h.kept hb1)
  have HL := Lib.hid h.len
  have HBOX := Lib.hid hbox
  have HB1 := Lib.hid hb1
  have HW1 := Lib.hid hw1
  have HS1 := Lib.hid s1
  have HMS := Lib.hid (And.intro hmk hsq)
  have HBB := Lib.hid hbox2
  have HO1 := Lib.hid hown1
  have hpos : w.heap.size < w1.heap.size := by omega
  clear h hb1 hbox hbox2 hw1 hmk hsq s1 hown1
  go_enter Try.func38, Try.ntmps38
  go_wp2_with fail
  go_loopw [3, 9] (fun s3 s9 wr => ∃ (k : Nat) (rs : List RowV), k ≤ n ∧ s9 = .int .i64 (k : Int) ∧ Hid (RowsOwn wr w1.heap.size s3 k rs) ∧ Hid (∀ j, j < k → (rs.getD j row0).says = sayOf mk sq (l.getD j rec0) j) ∧ Hid (Below w1.heap.size w1 wr)) (fun _ s9 _ => n - (intOf s9).toNat)
  case atStart => exact ⟨0, [], by omega, rfl, Lib.hid (by
    have hs1 := HS1.out
    have ho := HO1.out
    rw [HW1.out] at ho hs1 ⊢
    rw [hs1] at ho ⊢
    exact ⟨rfl, ho, (fun x hx => by cases hx), (fun x hx => by cases hx)⟩), Lib.hid (fun j hj => absurd hj (Nat.not_lt_zero _)), Lib.hid (by rw [← HW1.out]; exact (Below.refl _ _).alloc (Nat.le_refl _) _)⟩
  case round =>
    obtain ⟨k, rs, hk, rfl, HO, HS, HB⟩ := hrel
    rename World => wr
    by_cases hkn : k < n
    · have hkp := HH.out.kept HB.out
      obtain ⟨b, off, rfl, hlt, hcell⟩ := hkp.cells (by omega)
      have hltw : b < w1.heap.size := by
        obtain ⟨b2, off2, he, hlt2, _⟩ := HH.out.cells (by omega)
        cases he
        exact hlt2
      have hlab := hkp.labs _ (rec_mem (l := l) (i := k) (by have := HL.out; omega))
      have hfit := hkp.fits _ (rec_mem (l := l) (i := k) (by have := HL.out; omega))
      obtain ⟨r, hr⟩ : ∃ r, r = l.getD k rec0 := ⟨_, rfl⟩
      obtain ⟨d0, d1, d2, d3, d4, d5⟩ := RecsAt.six hcell hkn hr
      have HR := Lib.hid hr
      rw [← hr] at hlab hfit
      clear hr hcell hkp
      obtain ⟨kd, tm, la, ln, lc, L, tx, v, nl⟩ := r
      simp only at d0 d1 d2 d3 d4 d5 hlab
      have HTW := Lib.hid (rectwin_any (k := kd) (t := tm) (tx := tx) (v := v) (nl := nl) hfit.2.2.2.2 (hlab.kept (Below.refl _ _).drew))
      obtain ⟨b0, b1⟩ := HBOX.out wr HB.out
      have b2 := HBB.out wr HB.out
      have HSZ := Lib.hid (And.intro hlab.len hlab.size)
      have HF := Lib.hid hfit
      have hltb := Nat.lt_of_lt_of_le hpos HB.out.size
      have hkni : (k : Int) < (n : Int) := by omega
      have hk0 : (0 : Int) ≤ (k : Int) := by omega
      clear hlab hfit
      go_wp2_with fail
      have HO0 := HO
      go_region_held3 (fun w' => w'.cell? ⟨w.heap.size, 0, none⟩ = some (.int .i64 mk) ∧ w'.cell? ⟨w.heap.size, 1, none⟩ = some (.int .i64 sq) ∧ w'.cell? ⟨w.heap.size, 2, none⟩ = some (.slice (some ⟨b, off, none⟩) n c) ∧ w'.cell? ⟨b, off + k * 6, none⟩ = some (.int .i64 kd) ∧ w'.cell? ⟨b, off + k * 6 + 1, none⟩ = some (.int .i64 tm) ∧ w'.cell? ⟨b, off + k * 6 + 2, none⟩ = some (.slice la ln lc) ∧ w'.cell? ⟨b, off + k * 6 + 3, none⟩ = some (.string tx) ∧ w'.cell? ⟨b, off + k * 6 + 4, none⟩ = some (.int .i64 v) ∧ w'.cell? ⟨b, off + k * 6 + 5, none⟩ = some (.bool nl)) (first | exact ⟨(hbq.cell (p := ⟨w.heap.size, 0, none⟩) hltb).trans b0, (hbq.cell (p := ⟨w.heap.size, 1, none⟩) hltb).trans b1, (hbq.cell (p := ⟨w.heap.size, 2, none⟩) hltb).trans b2, (hbq.cell (p := ⟨b, off + k * 6, none⟩) hlt).trans d0, (hbq.cell (p := ⟨b, off + k * 6 + 1, none⟩) hlt).trans d1, (hbq.cell (p := ⟨b, off + k * 6 + 2, none⟩) hlt).trans d2, (hbq.cell (p := ⟨b, off + k * 6 + 3, none⟩) hlt).trans d3, (hbq.cell (p := ⟨b, off + k * 6 + 4, none⟩) hlt).trans d4, (hbq.cell (p := ⟨b, off + k * 6 + 5, none⟩) hlt).trans d5⟩ | exact ⟨(hb5.cell (p := ⟨w.heap.size, 0, none⟩) hpos).trans b0, (hb5.cell (p := ⟨w.heap.size, 1, none⟩) hpos).trans b1, (hb5.cell (p := ⟨w.heap.size, 2, none⟩) hpos).trans b2, (hb5.cell (p := ⟨b, off + k * 6, none⟩) hltw).trans d0, (hb5.cell (p := ⟨b, off + k * 6 + 1, none⟩) hltw).trans d1, (hb5.cell (p := ⟨b, off + k * 6 + 2, none⟩) hltw).trans d2, (hb5.cell (p := ⟨b, off + k * 6 + 3, none⟩) hltw).trans d3, (hb5.cell (p := ⟨b, off + k * 6 + 4, none⟩) hltw).trans d4, (hb5.cell (p := ⟨b, off + k * 6 + 5, none⟩) hltw).trans d5⟩ | go_keep) (first | (go_at_call 78; refine HTW.out.mono ?_; rintro r w3 ⟨la', lc', rfl, hown, hbq⟩) | (refine step_append_own_at2 rfl (.tmp 12) (.tmp 25) 58 rfl w1.heap.size 62 i0 _ 9 96 Try.underlying58 hi hz0 hz1 hz2 rfl (by decide) _ _ _ rfl (HO.out.below (((Below.refl _ _).drew.trans hbq).alloc (Nat.le_trans (Nat.le_refl _) hbq.size) (.cells #[.int .i64 kd, .int .i64 tm, .slice la' ln lc', .string tx, .int .i64 v, .bool nl, .int .i64 mk, .int .i64 sq, .int .i64 (k : Int)] 62))).own ⟨w3.heap.size, 0, none⟩ 1 1 (RowV.cells ⟨⟨kd, tm, la', ln, lc', L, tx, v, nl⟩, mk, sq, (k : Int)⟩) rfl rfl (row_src w3 ⟨⟨kd, tm, la', ln, lc', L, tx, v, nl⟩, mk, sq, (k : Int)⟩ 62) (rcells_one _) (by unfold maxLen; omega) (by omega) (Nat.le_trans HB.out.size (Nat.le_trans hbq.size (((Below.refl w3.heap.size w3).alloc (Nat.le_refl _) (.cells #[.int .i64 kd, .int .i64 tm, .slice la' ln lc', .string tx, .int .i64 v, .bool nl, .int .i64 mk, .int .i64 sq, .int .i64 (k : Int)] 62)).size))) ?_; intro v5 w5 ho5 hg5 hat5; have hb5 : Below w1.heap.size wr w5 := (((Below.refl w1.heap.size wr).drew.trans (hbq.mono HB.out.size)).alloc (Nat.le_trans HB.out.size hbq.size) (.cells #[.int .i64 kd, .int .i64 tm, .slice la' ln lc', .string tx, .int .i64 v, .bool nl, .int .i64 mk, .int .i64 sq, .int .i64 (k : Int)] 62)).grown hg5 (Nat.le_trans HB.out.size (Nat.le_trans hbq.size ((Below.refl w3.heap.size w3).alloc (Nat.le_refl _) (.cells #[.int .i64 kd, .int .i64 tm, .slice la' ln lc', .string tx, .int .i64 v, .bool nl, .int .i64 mk, .int .i64 sq, .int .i64 (k : Int)] 62)).size)) (fun q hq => (HO.out.own.lt q hq).1)))
      have hfit : RowV.fits ⟨⟨kd, tm, la', ln, lc', L, tx, v, nl⟩, mk, sq, (k : Int)⟩ := ⟨⟨HF.out.1, HF.out.2.1, HF.out.2.2.1, HF.out.2.2.2.1, HF.out.2.2.2.2⟩, HMS.out.1, HMS.out.2, ⟨by show _ ≤ (k : Int); omega, by show (k : Int) ≤ _; omega⟩⟩
      have ho4 : RowsOwn (w3.alloc (.cells #[.int .i64 kd, .int .i64 tm, .slice la' ln lc', .string tx, .int .i64 v, .bool nl, .int .i64 mk, .int .i64 sq, .int .i64 (k : Int)] 62)) w1.heap.size u3 k rs := HO.out.below (((Below.refl _ _).drew.trans hbq).alloc (Nat.le_trans (Nat.le_refl _) hbq.size) _)
      have hl4 : (w3.alloc (.cells #[.int .i64 kd, .int .i64 tm, .slice la' ln lc', .string tx, .int .i64 v, .bool nl, .int .i64 mk, .int .i64 sq, .int .i64 (k : Int)] 62)).ownsRow w1.heap.size 41 2 (.slice la' ln lc') ln (lcells L) := own_below (hown.mono HB.out.size) ((Below.refl _ _).alloc (Nat.le_refl _) _)
      have HO5 := Lib.hid (ho4.snoc hfit ⟨hl4, HSZ.out⟩ ho5 hg5)
      have HB5 := Lib.hid (HB.out.trans hb5)
      have HS5 := Lib.hid (show ∀ j, j < k + 1 → ((rs ++ ([⟨⟨kd, tm, la', ln, lc', L, tx, v, nl⟩, mk, sq, (k : Int)⟩] : List RowV)).getD j row0).says = sayOf mk sq (l.getD j rec0) j from fun j hj => by
        have hlen := HO.out.len
        rcases Nat.lt_or_ge j k with g | g
        · rw [← HS.out j g, List.getD_eq_getElem?_getD, List.getD_eq_getElem?_getD, List.getElem?_append_left (by omega)]
        · obtain rfl : j = k := by omega
          rw [← HR.out, List.getD_eq_getElem?_getD, List.getElem?_append_right (by omega), hlen, Nat.sub_self]
          rfl)
      clear hfit ho4 hl4 ho5 hg5 hb5 hown hbq hat5
      go_wp2_with fail
      go_roundw
      case rel => exact ⟨k + 1, _, by omega, by go_num, HO5, HS5, HB5⟩
      case measure => simp [intOf]; omega
    · obtain rfl : k = n := by omega
      clear hkn
      go_wp2_with fail
      go_ret
      exact ⟨_, rs, rfl, HO.out.mono (by have := HS1.out; omega), HS.out, HB1.out.trans (HB.out.mono HB1.out.size)⟩
end Go.Proofs.Ytjbljplgkbnpmaa
