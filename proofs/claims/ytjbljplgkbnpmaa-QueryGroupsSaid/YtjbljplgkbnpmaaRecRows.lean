/- A copy of labels, of a row; a batch's rows: walked. -/
import Derived.Test.YtjbljplgkbnpmaaRowAt
import Derived.Test.YtjbljplgkbnpmaaRecChk
namespace Go.Proofs.Ytjbljplgkbnpmaa
open Go.RowKit LabPlain RecPlain
set_option linter.unusedVariables false

@[go_sem] theorem eql_labs_nil (w : World) (a : Option Addr) (n c n' c' : Nat) : (binOp .eql 22 (.slice a n c) (.slice none n' c')).run Try.prog w = .ok (.bool a.isNone) w := Lib.run_eql_slice_nil w _ _ a n c n' c' Try.underlying22

set_option maxRecDepth 100000 in
set_option maxHeartbeats 1000000 in
theorem lclone_any {w : World} {a : Option Addr} {n c : Nat} {l : List Lab} (h : LabsAt w a n c l) (hn : n * 32 ≤ 140737488355328) :
    Calls Try.prog 100 #[.slice a n c] w fun e w' => ∃ a' c', e = .returned (.slice a' n c') ∧ w'.ownsRow w.heap.size 41 2 (.slice a' n c') n (lcells l) ∧ Below w.heap.size w w' := by
  obtain ⟨i0, hi, hz0, hz1, hz2⟩ := info_parts lab_info
  have hown0 := World.ownsRow_lit (base := w.heap.size) (e := 41) (size := 2) w #[] 0 (Nat.le_refl _) (by unfold maxLen; omega) rfl
  have hlen := h.len
  have hb0 : Below w.heap.size w (w.alloc (.cells #[] 41)) := (Below.refl _ _).alloc (Nat.le_refl _) _
  have HK := Lib.hid (h.kept hb0)
  have HB0 := Lib.hid hb0
  have HSZ := Lib.hid h.size
  have HL := Lib.hid hlen
  have hnl := h.nl
  have hcap := h.cap
  clear h hb0
  rcases a with _ | ad
  · have hc0 := hnl rfl
    have hn0 : n = 0 := by omega
    subst hn0
    subst hc0
    have HE := Lib.hid (show l = [] from List.eq_nil_of_length_eq_zero hlen)
    clear hnl hlen
    go_enter Try.func100, Try.ntmps100
    go_wp2_with fail
    go_ret
    refine ⟨_, _, rfl, ?_, Below.refl _ _⟩
    rw [HE.out]
    exact World.ownsRow_nil w _ _ _
  · clear hnl
    go_enter Try.func100, Try.ntmps100
    go_wp2_with (at_builtin; refine wpList_append_own_at _ rfl (.tmp 5) (.tmp 6) 22 rfl w.heap.size 41 i0 _ 2 32 Try.underlying22 hi hz0 hz1 hz2 rfl (by decide) _ _ _ rfl hown0 ad n c (lcells l) rfl (by rw [lcells_len, HL.out]) HK.out.src (lcells_one l) (by unfold maxLen; omega) (by omega) (by simp) ?_)
    intro v' w1 hown' hgrow hnil _
    have hown2 : w1.ownsRow w.heap.size 41 2 v' n (lcells l) := by simpa using hown'
    have hb : Below w.heap.size w w1 := HB0.out.grown hgrow (by simp) (fun k hk => by simp [Value.ownBlock] at hk; omega)
    obtain ⟨a', c', rfl⟩ : ∃ a' c', v' = .slice a' n c' := by
      rcases hown2.2 with ⟨rfl, h0⟩ | ⟨g, cap, cur, rfl, _⟩
      · subst h0; exact ⟨_, _, rfl⟩
      · exact ⟨_, _, rfl⟩
    have HAT := Lib.hid hown2
    have HB := Lib.hid hb
    clear hown' hown2 hgrow hb hnil
    go_wp2_with fail
    go_ret
    exact ⟨a', c', rfl, HAT.out, HB.out⟩

theorem own_setRow_below {w : World} {base : Nat} {e : TypeId} {size : Nat} {v : Value} {n : Nat} {xs : List Value} (h : w.ownsRow base e size v n xs) {g : Nat} (hg : g < base) (cs : Array Value) : (w.setRow g cs).ownsRow base e size v n xs := by
  refine ⟨h.1, ?_⟩
  rcases h.2 with h0 | ⟨b, cap, cur, h1, h2, h3, h4⟩
  · exact .inl h0
  · exact .inr ⟨b, cap, cur, h1, h2, by rw [setRow_other w g b cs (by omega)]; exact h3, h4⟩

theorem below_setRow {B : Nat} {a w : World} (h : Below B a w) {g : Nat} (hg : B ≤ g) (cs : Array Value) : Below B a (w.setRow g cs) :=
  h.trans ⟨rfl, rfl, rfl, by simp, fun k hk => setRow_other w g k cs (by omega)⟩
set_option maxRecDepth 100000 in
set_option maxHeartbeats 1000000 in
theorem copied_any {w : World} {k t : Int} {la : Option Addr} {ln lc : Nat} {L : List Lab} {tx : ByteArray} {v : Int} {nl : Bool} {mk sq pl : Int} (hn : ln * 32 ≤ 140737488355328) (h : LabsAt w la ln lc L) :
    Calls Try.prog 77 #[.agg #[.int .i64 k, .int .i64 t, .slice la ln lc, .string tx, .int .i64 v, .bool nl, .int .i64 mk, .int .i64 sq, .int .i64 pl]] w fun e w' => ∃ la' lc', e = .returned (.agg #[.int .i64 k, .int .i64 t, .slice la' ln lc', .string tx, .int .i64 v, .bool nl, .int .i64 mk, .int .i64 sq, .int .i64 pl]) ∧ w'.ownsRow w.heap.size 41 2 (.slice la' ln lc') ln (lcells L) ∧ Below w.heap.size w w' := by
  obtain ⟨w1, hw1⟩ : ∃ w1, w1 = w.alloc (.cells #[.int .i64 k, .int .i64 t, .slice la ln lc, .string tx, .int .i64 v, .bool nl, .int .i64 mk, .int .i64 sq, .int .i64 pl] 62) := ⟨_, rfl⟩
  obtain ⟨w2, hw2⟩ : ∃ w2, w2 = w1.alloc (.cells #[.int .i64 0, .int .i64 0, .slice none 0 0, .string ByteArray.empty, .int .i64 0, .bool false, .int .i64 0, .int .i64 0, .int .i64 0] 62) := ⟨_, rfl⟩
  have s1 : w1.heap.size = w.heap.size + 1 := by rw [hw1]; exact Array.size_push _
  have s2 : w2.heap.size = w.heap.size + 2 := by rw [hw2]; exact (Array.size_push _).trans (by rw [s1])
  have hb1 : Below w.heap.size w w1 := by rw [hw1]; exact (Below.refl _ _).alloc (Nat.le_refl _) _
  have hb12 : Below w1.heap.size w1 w2 := by rw [hw2]; exact (Below.refl _ _).alloc (Nat.le_refl _) _
  have hb2 : Below w.heap.size w w2 := hb1.trans (hb12.mono hb1.size)
  have g0 : w2.heap[w.heap.size]? = some (.cells #[.int .i64 k, .int .i64 t, .slice la ln lc, .string tx, .int .i64 v, .bool nl, .int .i64 mk, .int .i64 sq, .int .i64 pl] 62 (0, 0)) := by
    rw [hb12.block _ (by omega), hw1]; exact heap_alloc_new w _
  have g1 : w2.heap[w.heap.size + 1]? = some (.cells #[.int .i64 0, .int .i64 0, .slice none 0 0, .string ByteArray.empty, .int .i64 0, .bool false, .int .i64 0, .int .i64 0, .int .i64 0] 62 (0, 0)) := by
    rw [← s1, hw2]; exact heap_alloc_new w1 _
  have HCL := Lib.hid (lclone_any (h.kept hb2) hn)
  have HB2 := Lib.hid hb2
  have HG := Lib.hid (fun (w3 : World) (h3 : Below w2.heap.size w2 w3) => And.intro ((h3.block w.heap.size (by omega)).trans g0) ((h3.block (w.heap.size + 1) (by omega)).trans g1))
  have HS := Lib.hid s2
  rw [hw2, hw1] at HCL HB2 HG HS
  have HCL := Lib.hid HCL.out
  have HG := Lib.hid HG.out
  clear h hb1 hb2 hb12 g0 g1 s1 s2
  subst hw1
  subst hw2
  go_enter Try.func77, Try.ntmps77
  go_wp2_with fail
  refine HCL.out.mono ?_
  rintro e w3 ⟨la', lc', rfl, hown, hb3⟩
  obtain ⟨g0, g1⟩ := HG.out w3 hb3
  have f2 : w3.frozen? ⟨w.heap.size, 2, none⟩ = false := by simp [World.frozen?, g0]
  have c2 : w3.cell? ⟨w.heap.size, 2, none⟩ = some (.slice la ln lc) := by rw [cell_of_row _ _ _ _ _ (0, 0) g0]; rfl
  obtain ⟨w4, hw4⟩ : ∃ w4, w4 = w3.setCell ⟨w.heap.size, 2, none⟩ (.slice la' ln lc') := ⟨_, rfl⟩
  have g4 : w4.heap[w.heap.size]? = some (.cells #[.int .i64 k, .int .i64 t, .slice la' ln lc', .string tx, .int .i64 v, .bool nl, .int .i64 mk, .int .i64 sq, .int .i64 pl] 62 (0, 0)) := by rw [hw4, heap_setCell_same _ _ _ _ _ _ g0]; rfl
  have g5 : w4.heap[w.heap.size + 1]? = some (.cells #[.int .i64 0, .int .i64 0, .slice none 0 0, .string ByteArray.empty, .int .i64 0, .bool false, .int .i64 0, .int .i64 0, .int .i64 0] 62 (0, 0)) := by rw [hw4, Below.heap_setCell _ _ _ _ (by simp)]; exact g1
  have d0 := cell_of_row w4 _ 0 _ _ (0, 0) g4
  have d1 := cell_of_row w4 _ 1 _ _ (0, 0) g4
  have d2 := cell_of_row w4 _ 2 _ _ (0, 0) g4
  have d3 := cell_of_row w4 _ 3 _ _ (0, 0) g4
  have d4 := cell_of_row w4 _ 4 _ _ (0, 0) g4
  have d5 := cell_of_row w4 _ 5 _ _ (0, 0) g4
  have d6 := cell_of_row w4 _ 6 _ _ (0, 0) g4
  have d7 := cell_of_row w4 _ 7 _ _ (0, 0) g4
  have d8 := cell_of_row w4 _ 8 _ _ (0, 0) g4
  have b4 : Below w.heap.size w w4 := by rw [hw4]; exact (HB2.out.trans (hb3.mono HB2.out.size)).setCell (Nat.le_refl _) _
  have own4 : (w4.setRow (w.heap.size + 1) #[.int .i64 k, .int .i64 t, .slice la' ln lc', .string tx, .int .i64 v, .bool nl, .int .i64 mk, .int .i64 sq, .int .i64 pl]).ownsRow w.heap.size 41 2 (.slice la' ln lc') ln (lcells L) := by
    have hs := HS.out
    rw [hw4]
    exact World.ownsRow.mono (own_setRow_below (ownsRow_setCell_below hown (by simp; omega) _) (by omega) _) (by omega)
  have b5 : Below w.heap.size w (w4.setRow (w.heap.size + 1) #[.int .i64 k, .int .i64 t, .slice la' ln lc', .string tx, .int .i64 v, .bool nl, .int .i64 mk, .int .i64 sq, .int .i64 pl]) := below_setRow b4 (by omega) _
  have e0 := fun j => cell_setRow_same w4 (w.heap.size + 1) j _ #[.int .i64 k, .int .i64 t, .slice la' ln lc', .string tx, .int .i64 v, .bool nl, .int .i64 mk, .int .i64 sq, .int .i64 pl] _ _ g5
  rw [hw4] at d0 d1 d2 d3 d4 d5 d6 d7 d8 g5 own4 b5 e0
  have HOWN := Lib.hid own4
  have HB5 := Lib.hid b5
  have HG5 := Lib.hid g5
  have HE := Lib.hid e0
  clear hown hb3 g0 g1 g4 g5 hw4 b4 own4 b5 e0
  have q0 := HE.out 0
  have q1 := HE.out 1
  have q2 := HE.out 2
  have q3 := HE.out 3
  have q4 := HE.out 4
  have q5 := HE.out 5
  have q6 := HE.out 6
  have q7 := HE.out 7
  have q8 := HE.out 8
  go_wp2_with (refine wpList_store_row rfl 62 (.tmp 2) (.tmp 9) rfl (w.heap.size + 1) #[.int .i64 k, .int .i64 t, .slice la' ln lc', .string tx, .int .i64 v, .bool nl, .int .i64 mk, .int .i64 sq, .int .i64 pl] rfl rfl 62 _ HG5.out (by kernel_rfl) (by rfl) (by simp [Value.oneCell']) ?_)
  exact bodyPost_ret (v := .agg #[.int .i64 k, .int .i64 t, .slice la' ln lc', .string tx, .int .i64 v, .bool nl, .int .i64 mk, .int .i64 sq, .int .i64 pl]) (by simp [results, Try.results77, go_sem, q0, q1, q2, q3, q4, q5, q6, q7, q8]) rfl ⟨la', lc', rfl, HOWN.out, HB5.out⟩

theorem RowsOwn.below {w w' : World} {base : Nat} {v : Value} {n : Nat} {l : List RowV} (h : RowsOwn w base v n l) (hb : Below w.heap.size w w') : RowsOwn w' base v n l :=
  ⟨h.len, own_below h.own hb, h.fits, fun x hx => ⟨own_below (h.labs x hx).1 hb, (h.labs x hx).2⟩⟩
theorem RowsOwn.mono {w : World} {base base' : Nat} {v : Value} {n : Nat} {l : List RowV} (h : RowsOwn w base v n l) (hb : base' ≤ base) : RowsOwn w base' v n l :=
  ⟨h.len, h.own.mono hb, h.fits, fun x hx => ⟨(h.labs x hx).1.mono hb, (h.labs x hx).2⟩⟩
theorem RowsOwn.nil (w : World) (base : Nat) : RowsOwn w base (.slice none 0 0) 0 [] := ⟨rfl, World.ownsRow_nil w _ _ _, (fun x hx => by cases hx), (fun x hx => by cases hx)⟩
theorem RowsOwn.snoc {w w' : World} {base : Nat} {v v' : Value} {n : Nat} {l : List RowV} (h : RowsOwn w base v n l) {x : RowV} (hx : x.fits)
    (hl : w.ownsRow base 41 2 (.slice x.r.la x.r.ln x.r.lc) x.r.ln (lcells x.r.labs) ∧ x.r.labs.length = x.r.ln ∧ ∀ y ∈ x.r.labs, y.1.size ≤ 140737488355328 ∧ y.2.size ≤ 140737488355328)
    (hown : w'.ownsRow base 62 9 v' (n + 1) (rcells l ++ x.cells)) (hg : w.grownBy w' v.ownBlock) : RowsOwn w' base v' (n + 1) (l ++ [x]) := by
  refine ⟨by simp [h.len], by rw [rcells_snoc]; exact hown, fun y hy => ?_, fun y hy => ?_⟩
  · rcases List.mem_append.1 hy with g | g
    · exact h.fits y g
    · obtain rfl : y = x := by simpa using g
      exact hx
  · rcases List.mem_append.1 hy with g | g
    · exact ⟨(h.labs y g).1.kept hg (own_ne2 (h.labs y g).1 h.own (by decide)), (h.labs y g).2⟩
    · obtain rfl : y = x := by simpa using g
      exact ⟨hl.1.kept hg (own_ne2 hl.1 h.own (by decide)), hl.2⟩
theorem row_src (w : World) (x : RowV) (t : TypeId) : ∀ j u, x.cells[j]? = some u → (w.alloc (.cells #[.int .i64 x.r.kind, .int .i64 x.r.time, .slice x.r.la x.r.ln x.r.lc, .string x.r.text, .int .i64 x.r.value, .bool x.r.null, .int .i64 x.who, .int .i64 x.sq, .int .i64 x.pl] t)).cell? ((⟨w.heap.size, 0, none⟩ : Addr).add j) = some u := by
  intro j u hj
  have hblk := heap_alloc_new w (.cells #[.int .i64 x.r.kind, .int .i64 x.r.time, .slice x.r.la x.r.ln x.r.lc, .string x.r.text, .int .i64 x.r.value, .bool x.r.null, .int .i64 x.who, .int .i64 x.sq, .int .i64 x.pl] t)
  have hadd : (⟨w.heap.size, 0, none⟩ : Addr).add j = ⟨w.heap.size, 0 + j, none⟩ := by unfold Addr.add; split <;> simp_all
  rw [hadd, Nat.zero_add, cell_of_row _ _ _ _ _ (0, 0) hblk, ← hj, RowV.cells, List.getElem?_toArray]

/-- what a batch's row says -/
def sayOf (mk sq : Int) (r : RecV) (j : Nat) : Int × Int × List Lab × ByteArray × Int × Bool × Int × Int × Int := (r.kind, r.time, r.labs, r.text, r.value, r.null, mk, sq, (j : Int))

set_option maxRecDepth 100000 in
set_option maxHeartbeats 4000000 in
theorem recrows_any {w : World} {mk sq : Int} {a : Option Addr} {n c : Nat} {l : List RecV} (hmk : -9223372036854775808 ≤ mk ∧ mk ≤ 9223372036854775807) (hsq : -9223372036854775808 ≤ sq ∧ sq ≤ 9223372036854775807) (h : RecsAt w a n c l) (hn : n ≤ 1000) :
    Calls Try.prog 37 #[.agg #[.int .i64 mk, .int .i64 sq, .slice a n c]] w fun e w' => ∃ v rs, e = .returned v ∧ RowsOwn w' w.heap.size v n rs ∧ (∀ j, j < n → (rs.getD j row0).says = sayOf mk sq (l.getD j rec0) j) ∧ Below w.heap.size w w' := by
  obtain ⟨i0, hi, hz0, hz1, hz2⟩ := info_parts row_info
  obtain ⟨w1, hw1⟩ : ∃ w1, w1 = w.alloc (.cells #[.int .i64 mk, .int .i64 sq, .slice a n c] 52) := ⟨_, rfl⟩
  have s1 : w1.heap.size = w.heap.size + 1 := by rw [hw1]; exact Array.size_push _
  have hb1 : Below w.heap.size w w1 := by rw [hw1]; exact (Below.refl _ _).alloc (Nat.le_refl _) _
  have hbox : ∀ (wr : World), Below w1.heap.size w1 wr → wr.cell? ⟨w.heap.size, 0, none⟩ = some (.int .i64 mk) ∧ wr.cell? ⟨w.heap.size, 1, none⟩ = some (.int .i64 sq) := by
    intro wr hb
    rw [hw1] at hb
    exact ⟨box_cell hb rfl, box_cell hb rfl⟩
  have hcap := h.cap
  have hcm := h.capm
  have HH := Lib.hid (h.kept hb1)
  have HL := Lib.hid h.len
  have HBOX := Lib.hid hbox
  have HB1 := Lib.hid hb1
  have HW1 := Lib.hid hw1
  have HS1 := Lib.hid s1
  have HMS := Lib.hid (And.intro hmk hsq)
  clear h hb1 hbox hw1 hmk hsq s1
  go_enter Try.func37, Try.ntmps37
  go_wp2_with fail
  go_loopw [3, 9] (fun s3 s9 wr => ∃ (k : Nat) (rs : List RowV), k ≤ n ∧ s9 = .int .i64 (k : Int) ∧ Hid (RowsOwn wr w1.heap.size s3 k rs) ∧ Hid (∀ j, j < k → (rs.getD j row0).says = sayOf mk sq (l.getD j rec0) j) ∧ Hid (Below w1.heap.size w1 wr)) (fun _ s9 _ => n - (intOf s9).toNat)
  case atStart => exact ⟨0, [], by omega, rfl, Lib.hid (RowsOwn.nil _ _), Lib.hid (fun j hj => absurd hj (Nat.not_lt_zero _)), Lib.hid (by rw [← HW1.out]; exact Below.refl _ _)⟩
  case round =>
    obtain ⟨k, rs, hk, rfl, HO, HS, HB⟩ := hrel
    rename World => wr
    by_cases hkn : k < n
    · have hkp := HH.out.kept HB.out
      obtain ⟨b, off, rfl, hlt, hcell⟩ := hkp.cells (by omega)
      have hlab := hkp.labs _ (rec_mem (l := l) (i := k) (by have := HL.out; omega))
      have hfit := hkp.fits _ (rec_mem (l := l) (i := k) (by have := HL.out; omega))
      obtain ⟨r, hr⟩ : ∃ r, r = l.getD k rec0 := ⟨_, rfl⟩
      obtain ⟨d0, d1, d2, d3, d4, d5⟩ := RecsAt.six hcell hkn hr
      have HR := Lib.hid hr
      rw [← hr] at hlab hfit
      clear hr hcell hkp
      obtain ⟨kd, tm, la, ln, lc, L, tx, v, nl⟩ := r
      simp only at d0 d1 d2 d3 d4 d5 hlab
      have hb2 : Below wr.heap.size wr (wr.alloc (.cells #[.int .i64 kd, .int .i64 tm, .slice la ln lc, .string tx, .int .i64 v, .bool nl] 54)) := (Below.refl _ _).alloc (Nat.le_refl _) _
      have HCP := Lib.hid (copied_any (k := kd) (t := tm) (tx := tx) (v := v) (nl := nl) (mk := mk) (sq := sq) (pl := (k : Int)) hfit.2.2.2.2 (hlab.kept hb2))
      obtain ⟨b0, b1⟩ := HBOX.out _ (HB.out.alloc HB.out.size (.cells #[.int .i64 kd, .int .i64 tm, .slice la ln lc, .string tx, .int .i64 v, .bool nl] 54))
      have HSZ := Lib.hid (And.intro hlab.len hlab.size)
      have HF := Lib.hid hfit
      have HB2 := Lib.hid hb2
      clear hb2 hlab hfit
      go_wp2_with fail
      refine HCP.out.mono ?_
      rintro e w3 ⟨la', lc', rfl, hown, hb3⟩
      have hlt3 := Nat.lt_of_lt_of_le (show wr.heap.size < (wr.alloc (.cells #[.int .i64 kd, .int .i64 tm, .slice la ln lc, .string tx, .int .i64 v, .bool nl] 54)).heap.size from (Array.getElem?_eq_some_iff.1 (heap_alloc_new wr _)).1) hb3.size
      have hbr3 : Below wr.heap.size wr w3 := HB2.out.trans (hb3.mono HB2.out.size)
      have hs1 := HB.out.size
      have hfit : RowV.fits ⟨⟨kd, tm, la', ln, lc', L, tx, v, nl⟩, mk, sq, (k : Int)⟩ := ⟨⟨HF.out.1, HF.out.2.1, HF.out.2.2.1, HF.out.2.2.2.1, HF.out.2.2.2.2⟩, HMS.out.1, HMS.out.2, ⟨by show _ ≤ (k : Int); omega, by show (k : Int) ≤ _; omega⟩⟩
      have ho4 : RowsOwn (w3.alloc (.cells #[.int .i64 kd, .int .i64 tm, .slice la' ln lc', .string tx, .int .i64 v, .bool nl, .int .i64 mk, .int .i64 sq, .int .i64 (k : Int)] 62)) w1.heap.size u3 k rs := HO.out.below (hbr3.alloc hbr3.size _)
      have hl4 : (w3.alloc (.cells #[.int .i64 kd, .int .i64 tm, .slice la' ln lc', .string tx, .int .i64 v, .bool nl, .int .i64 mk, .int .i64 sq, .int .i64 (k : Int)] 62)).ownsRow w1.heap.size 41 2 (.slice la' ln lc') ln (lcells L) := own_below (hown.mono (Nat.le_trans hs1 HB2.out.size)) ((Below.refl _ _).alloc (Nat.le_refl _) _)
      have HB4 := Lib.hid ((HB.out.trans (hbr3.mono hs1)).alloc (HB.out.trans (hbr3.mono hs1)).size (.cells #[.int .i64 kd, .int .i64 tm, .slice la' ln lc', .string tx, .int .i64 v, .bool nl, .int .i64 mk, .int .i64 sq, .int .i64 (k : Int)] 62))
      have hsrc := row_src w3 ⟨⟨kd, tm, la', ln, lc', L, tx, v, nl⟩, mk, sq, (k : Int)⟩ 62
      have hbase := HB4.out.size
      have HBA := Lib.hid hbase
      have HSRC := Lib.hid hsrc
      have HO4 := Lib.hid ho4
      have HL4 := Lib.hid hl4
      have HFIT := Lib.hid hfit
      clear hown hb3 hlt3 hbr3 hs1 hfit ho4 hl4 hsrc hbase
      go_wp2_with (at_builtin; refine wpList_append_own_at _ rfl (.tmp 14) (.tmp 23) 58 rfl w1.heap.size 62 i0 _ 9 96 Try.underlying58 hi hz0 hz1 hz2 rfl (by decide) _ _ _ rfl HO4.out.own ⟨w3.heap.size, 0, none⟩ 1 1 (RowV.cells ⟨⟨kd, tm, la', ln, lc', L, tx, v, nl⟩, mk, sq, (k : Int)⟩) rfl rfl HSRC.out (rcells_one _) (by unfold maxLen; omega) (by omega) HBA.out ?_)
      intro v' w5 hown' hgrow _ _
      have HO5 := Lib.hid (HO4.out.snoc HFIT.out ⟨HL4.out, HSZ.out⟩ hown' hgrow)
      have HB5 := Lib.hid (HB4.out.grown hgrow HB4.out.size (fun q hq => (HO4.out.own.lt q hq).1))
      have HS5 := Lib.hid (show ∀ j, j < k + 1 → ((rs ++ ([⟨⟨kd, tm, la', ln, lc', L, tx, v, nl⟩, mk, sq, (k : Int)⟩] : List RowV)).getD j row0).says = sayOf mk sq (l.getD j rec0) j from fun j hj => by
        have hlen := HO.out.len
        rcases Nat.lt_or_ge j k with g | g
        · rw [← HS.out j g, List.getD_eq_getElem?_getD, List.getD_eq_getElem?_getD, List.getElem?_append_left (by omega)]
        · obtain rfl : j = k := by omega
          rw [← HR.out, List.getD_eq_getElem?_getD, List.getElem?_append_right (by omega), hlen, Nat.sub_self]
          rfl)
      clear hown' hgrow
      go_wp2_with fail
      go_roundw
      case rel => exact ⟨k + 1, _, by omega, by go_num, HO5, HS5, HB5⟩
      case measure => simp [intOf]; omega
    · obtain rfl : k = n := by omega
      clear hkn
      go_wp2_with fail
      go_ret
      exact ⟨_, rs, rfl, HO.out.mono (by have := HS1.out; omega), HS.out, HB1.out.trans (HB.out.mono HB1.out.size)⟩
end Go.Proofs.Ytjbljplgkbnpmaa
