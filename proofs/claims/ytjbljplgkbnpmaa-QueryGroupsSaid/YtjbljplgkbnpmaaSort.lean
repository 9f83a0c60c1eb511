/- record.Sort, walked: a copy, in order. -/
import Derived.Test.YtjbljplgkbnpmaaStable
import Derived.Test.YtjbljplgkbnpmaaRecRows
namespace Go.Proofs.Ytjbljplgkbnpmaa
open Go.RowKit LabPlain RecPlain Stab
set_option linter.unusedVariables false

def atL (l : List RowV) : Nat → RowV := fun k => l.getD k row0
theorem nines_own {w : World} {base g n cap : Nat} {l : List RowV} (h : RowsOwn w base (.slice (some ⟨g, 0, none⟩) n cap) n l) : Nines w g n (atL l) ∧ base ≤ g ∧ g < w.heap.size ∧ n ≤ cap ∧ cap ≤ 9223372036854775807 := by
  rcases h.own.2 with ⟨h0, _⟩ | ⟨g', cap', cur, he, hg, hh, hnc, hcap, hsz, htake⟩
  · cases h0
  · cases he
    refine ⟨⟨fun i hi j u hu => ?_, fun i hi j hj => ?_⟩, hg, (Array.getElem?_eq_some_iff.1 hh).1, hnc, by unfold maxLen at hcap; exact hcap⟩
    · have hj : j < 9 := (List.getElem?_eq_some_iff.1 hu).1
      have h2 : (rcells l)[i * 9 + j]? = some u := by
        unfold rcells
        rw [flat_at RowV.cells 9 (fun _ => rfl) row0 l i j (by have := h.len; omega) hj]; exact hu
      rw [cell_of_row w _ _ _ _ (0, 0) hh, ← h2, ← htake, List.getElem?_take_of_lt (by omega), Array.getElem?_toList]
    · have hlt : i * 9 + j < cur.size := by rw [hsz]; omega
      refine ⟨?_, ?_⟩
      · rw [cell_of_row w _ _ _ _ (0, 0) hh]; simp [hlt]
      · simp [World.frozen?, hh]
theorem grown_of {B : Nat} {w w' : World} (h : Turns1 B w w') : w.grownBy w' (some B) := ⟨h.os, h.tape, h.output, h.size, fun k hk hne => h.block k hk (fun e => hne (by rw [e]))⟩
theorem sorted_mem {w : World} {base g n cap : Nat} {l : List RowV} {u : Nat → RowV × Nat} (h : RowsOwn w base (.slice (some ⟨g, 0, none⟩) n cap) n l) (hs : Stable ltR (atL l) (vals u) n) : ∀ x ∈ (List.range n).map (vals u), x ∈ l := by
  intro x hx
  obtain ⟨i, hi, rfl⟩ := List.mem_map.1 hx
  rw [List.mem_range] at hi
  obtain ⟨t, h1, h2, h3⟩ := hs
  rw [← h1 i hi]
  obtain ⟨k, hk, e⟩ := (h3 (t i)).1 ⟨i, Nat.zero_le _, hi, rfl⟩
  rw [e]
  exact row_mem (by rw [h.len]; exact hk)
/-- the rows that lie in the block, behind the sorting -/
theorem sorted_rows {w w' : World} {base g n cap : Nat} {l : List RowV} {u : Nat → RowV × Nat} (h : RowsOwn w base (.slice (some ⟨g, 0, none⟩) n cap) n l) (hn : Nines w' g n (vals u)) (hs : Stable ltR (atL l) (vals u) n) (ht : Turns1 g w w') :
    RowsAt w' (some ⟨g, 0, none⟩) n cap ((List.range n).map (vals u)) := by
  obtain ⟨hN, hbg, hgs, hnc, hcm⟩ := nines_own h
  have hget : ∀ i, i < n → ((List.range n).map (vals u)).getD i row0 = vals u i := fun i hi => by simp [List.getD_eq_getElem?_getD, hi]
  have hmem := sorted_mem h hs
  refine ⟨by simp, hnc, hcm, (fun e => by cases e), fun x hx => h.fits x (hmem x hx), fun x hx => ?_, fun _ => ⟨g, 0, rfl, Nat.lt_of_lt_of_le hgs ht.size, fun i hi j v hv => ?_⟩⟩
  · have hl := h.labs x (hmem x hx)
    exact own_labs (hl.1.kept (grown_of ht) (own_ne2 hl.1 h.own (by decide))) hl.2.1 hl.2.2
  · rw [hget i hi] at hv
    rw [Nat.zero_add]
    exact hn.at' i hi j v hv

/-- rows in a block of their own, which may be written: their labels lie elsewhere -/
structure RowsNew (w : World) (g n c : Nat) (rs : List RowV) : Prop where
  rows : RowsAt w (some ⟨g, 0, none⟩) n c rs
  nines : Nines w g n (atL rs)
  lt : g < w.heap.size
  labs : ∀ x ∈ rs, ∀ w2, Turns1 g w w2 → LabsAt w2 x.r.la x.r.ln x.r.lc x.r.labs
theorem sorted_new {w w' : World} {base g n cap : Nat} {l : List RowV} {u : Nat → RowV × Nat} (h : RowsOwn w base (.slice (some ⟨g, 0, none⟩) n cap) n l) (hn : Nines w' g n (vals u)) (hs : Stable ltR (atL l) (vals u) n) (ht : Turns1 g w w') :
    RowsNew w' g n cap ((List.range n).map (vals u)) := by
  obtain ⟨hN, hbg, hgs, hnc, hcm⟩ := nines_own h
  have hget : ∀ i, i < n → atL ((List.range n).map (vals u)) i = vals u i := fun i hi => by simp [atL, List.getD_eq_getElem?_getD, hi]
  refine ⟨sorted_rows h hn hs ht, ⟨fun i hi => by rw [hget i hi]; exact hn.at' i hi, hn.free⟩, Nat.lt_of_lt_of_le hgs ht.size, fun x hx w2 h2 => ?_⟩
  have hl := h.labs x (sorted_mem h hs x hx)
  exact own_labs (hl.1.kept (grown_of (ht.trans h2)) (own_ne2 hl.1 h.own (by decide))) hl.2.1 hl.2.2

set_option maxRecDepth 100000 in
set_option maxHeartbeats 4000000 in
theorem sort_new {w : World} {a : Option Addr} {n c : Nat} {l : List RowV} (h : RowsAt w a n c l) (hn : n ≤ 100000) :
    Calls Try.prog 41 #[.slice a n c] w fun e w' => ∃ c' l1 rs, e = .returned (.slice (some ⟨w.heap.size, 0, none⟩) n c') ∧ c' = n ∧ RowsNew w' w.heap.size n c' rs ∧ (∀ j, j < n → (atL l1 j).says = (atL l j).says) ∧ Stable ltR (atL l1) (atL rs) n ∧ Below w.heap.size w w' := by
  obtain ⟨i0, hi, hz0, hz1, hz2⟩ := info_parts row_info
  have hcap := h.cap
  have hcm := h.capm
  have HH := Lib.hid h
  have HL := Lib.hid h.len
  clear h
  go_enter Try.func41, Try.ntmps41
  go_wp2_with (refine wpList_make_own _ rfl (.const (.int .i64 0)) (.tmp 7) 58 rfl w.heap.size 62 i0 _ 9 Try.underlying58 hi hz0 hz1 .i64 .i64 _ n rfl rfl rfl (by rw [hz2]; omega) (by unfold maxLen; omega) (Nat.le_refl _) ?_)
  intro w1 hown1 hgrow1
  have hb1 : Below w.heap.size w w1 := ⟨hgrow1.os, hgrow1.tape, hgrow1.output, hgrow1.size, fun k hk => hgrow1.block k hk (by simp)⟩
  have HB1 := Lib.hid hb1
  have HO1 := Lib.hid (show RowsOwn w1 w.heap.size (.slice (some ⟨w.heap.size, 0, none⟩) 0 n) 0 [] from ⟨rfl, hown1, (fun x hx => by cases hx), (fun x hx => by cases hx)⟩)
  clear hb1 hown1 hgrow1
  go_wp2_with fail
  go_loopw [3, 5, 11] (fun s3 s5 s11 wr => ∃ (k : Nat) (rs : List RowV), k ≤ n ∧ s3 = .slice (some ⟨w.heap.size, 0, none⟩) k n ∧ s11 = .int .i64 (k : Int) ∧ Hid (RowsOwn wr w.heap.size (.slice (some ⟨w.heap.size, 0, none⟩) k n) k rs) ∧ Hid (∀ j, j < k → (atL rs j).says = (atL l j).says) ∧ Hid (Below w.heap.size w wr)) (fun _ _ s11 _ => n - (intOf s11).toNat)
  case atStart => exact ⟨0, [], by omega, rfl, rfl, HO1, Lib.hid (fun j hj => absurd hj (Nat.not_lt_zero _)), HB1⟩
  case round =>
    obtain ⟨k, rs, hk, rfl, rfl, HO, HS, HB⟩ := hrel
    rename World => wr
    by_cases hkn : k < n
    · have hkp := HH.out.kept HB.out
      obtain ⟨b, off, rfl, hlt, hcell⟩ := hkp.cells (by omega)
      have hlab := hkp.labs _ (row_mem (l := l) (i := k) (by have := HL.out; omega))
      have hfit := hkp.fits _ (row_mem (l := l) (i := k) (by have := HL.out; omega))
      obtain ⟨r, hr⟩ : ∃ r, r = l.getD k row0 := ⟨_, rfl⟩
      obtain ⟨d0, d1, d2, d3, d4, d5, d6, d7, d8⟩ := RowsAt.nine hcell hkn hr
      have HR := Lib.hid hr
      rw [← hr] at hlab hfit
      clear hr hcell hkp
      obtain ⟨⟨kd, tm, la, ln, lc, L, tx, v, nl⟩, mk, sq, pl⟩ := r
      simp only at d0 d1 d2 d3 d4 d5 d6 d7 d8 hlab
      have hb2 : Below wr.heap.size wr (wr.alloc (.cells #[.int .i64 kd, .int .i64 tm, .slice la ln lc, .string tx, .int .i64 v, .bool nl, .int .i64 mk, .int .i64 sq, .int .i64 pl] 62)) := (Below.refl _ _).alloc (Nat.le_refl _) _
      have HCP := Lib.hid (copied_any (k := kd) (t := tm) (tx := tx) (v := v) (nl := nl) (mk := mk) (sq := sq) (pl := pl) hfit.1.2.2.2.2 (hlab.kept hb2))
      have HSZ := Lib.hid (And.intro hlab.len hlab.size)
      have HF := Lib.hid hfit
      have HB2 := Lib.hid hb2
      clear hb2 hlab hfit
      go_wp2_with fail
      refine HCP.out.mono ?_
      rintro e w3 ⟨la', lc', rfl, hown, hb3⟩
      have hbr3 : Below wr.heap.size wr w3 := HB2.out.trans (hb3.mono HB2.out.size)
      have hs1 := HB.out.size
      have hfit : RowV.fits ⟨⟨kd, tm, la', ln, lc', L, tx, v, nl⟩, mk, sq, pl⟩ := ⟨⟨HF.out.1.1, HF.out.1.2.1, HF.out.1.2.2.1, HF.out.1.2.2.2.1, HF.out.1.2.2.2.2⟩, HF.out.2⟩
      have ho4 : RowsOwn (w3.alloc (.cells #[.int .i64 kd, .int .i64 tm, .slice la' ln lc', .string tx, .int .i64 v, .bool nl, .int .i64 mk, .int .i64 sq, .int .i64 pl] 62)) w.heap.size (.slice (some ⟨w.heap.size, 0, none⟩) k n) k rs := HO.out.below (hbr3.alloc hbr3.size _)
      have hl4 : (w3.alloc (.cells #[.int .i64 kd, .int .i64 tm, .slice la' ln lc', .string tx, .int .i64 v, .bool nl, .int .i64 mk, .int .i64 sq, .int .i64 pl] 62)).ownsRow w.heap.size 41 2 (.slice la' ln lc') ln (lcells L) := own_below (hown.mono (Nat.le_trans hs1 HB2.out.size)) ((Below.refl _ _).alloc (Nat.le_refl _) _)
      have HB4 := Lib.hid ((HB.out.trans (hbr3.mono hs1)).alloc (HB.out.trans (hbr3.mono hs1)).size (.cells #[.int .i64 kd, .int .i64 tm, .slice la' ln lc', .string tx, .int .i64 v, .bool nl, .int .i64 mk, .int .i64 sq, .int .i64 pl] 62))
      have hsrc := row_src w3 ⟨⟨kd, tm, la', ln, lc', L, tx, v, nl⟩, mk, sq, pl⟩ 62
      have hbase := HB4.out.size
      have HBA := Lib.hid hbase
      have HSRC := Lib.hid hsrc
      have HO4 := Lib.hid ho4
      have HL4 := Lib.hid hl4
      have HFIT := Lib.hid hfit
      clear hown hb3 hbr3 hs1 hfit ho4 hl4 hsrc hbase
      go_wp2_with (at_builtin; refine wpList_append_fits _ rfl (.tmp 15) (.tmp 18) 58 rfl w.heap.size 62 i0 9 Try.underlying58 hi hz1 w.heap.size k n _ rfl HO4.out.own ⟨w3.heap.size, 0, none⟩ 1 1 (RowV.cells ⟨⟨kd, tm, la', ln, lc', L, tx, v, nl⟩, mk, sq, pl⟩) rfl rfl HSRC.out (rcells_one _) (by omega) ?_)
      intro w5 hown' hgrow
      have HO5 := Lib.hid (HO4.out.snoc HFIT.out ⟨HL4.out, HSZ.out⟩ hown' hgrow)
      have HB5 := Lib.hid (HB4.out.grown hgrow HB4.out.size (fun q hq => (HO4.out.own.lt q hq).1))
      have HS5 := Lib.hid (show ∀ j, j < k + 1 → (atL (rs ++ ([⟨⟨kd, tm, la', ln, lc', L, tx, v, nl⟩, mk, sq, pl⟩] : List RowV)) j).says = (atL l j).says from fun j hj => by
        have hlen := HO.out.len
        unfold atL
        rcases Nat.lt_or_ge j k with g | g
        · rw [show (l.getD j row0).says = (rs.getD j row0).says from (HS.out j g).symm, List.getD_eq_getElem?_getD, List.getD_eq_getElem?_getD, List.getElem?_append_left (by omega)]
        · obtain rfl : j = k := by omega
          rw [← HR.out, List.getD_eq_getElem?_getD, List.getElem?_append_right (by omega), hlen, Nat.sub_self]
          rfl)
      clear hown' hgrow
      go_wp2_with fail
      go_roundw
      case rel => exact ⟨k + 1, _, by omega, rfl, by go_num, HO5, HS5, HB5⟩
      case measure => simp [intOf]; omega
    · obtain rfl : k = n := by omega
      clear hkn
      by_cases hk0 : k = 0
      · subst hk0
        have HAT := Lib.hid (show RowsNew wr w.heap.size 0 0 rs from by
          obtain ⟨a', c', he, hat⟩ := HO.out.at
          cases he
          obtain rfl : rs = [] := List.eq_nil_of_length_eq_zero hat.len
          exact ⟨hat, ⟨fun i hi => absurd hi (Nat.not_lt_zero _), fun i hi => absurd hi (Nat.not_lt_zero _)⟩, (HO.out.own.lt _ rfl).2, fun x hx => by cases hx⟩)
        go_wp2_with fail
        refine (sorts_nil (a := some ⟨w.heap.size, 0, none⟩) (c := 0)).mono ?_
        rintro e w3 ⟨rfl, hb3⟩
        have HB3 := Lib.hid (HB.out.trans (hb3.mono HB.out.size))
        have HAT3 := Lib.hid (show RowsNew w3 w.heap.size 0 0 rs from ⟨HAT.out.rows.kept hb3, ⟨fun i hi => absurd hi (Nat.not_lt_zero _), fun i hi => absurd hi (Nat.not_lt_zero _)⟩, Nat.lt_of_lt_of_le HAT.out.lt hb3.size, fun x hx => by
          have e : rs = [] := List.eq_nil_of_length_eq_zero HAT.out.rows.len
          rw [e] at hx
          cases hx⟩)
        clear hb3
        go_wp2_with fail
        go_ret
        exact ⟨0, rs, rs, rfl, rfl, HAT3.out, fun j hj => absurd hj (Nat.not_lt_zero _), ⟨fun i => (atL rs i, i), fun i hi => absurd hi (Nat.not_lt_zero _), fun i j _ h1 h2 => absurd h2 (Nat.not_lt_zero _), fun x => ⟨fun ⟨i, _, h, _⟩ => absurd h (Nat.not_lt_zero _), fun ⟨i, h, _⟩ => absurd h (Nat.not_lt_zero _)⟩⟩, HB3.out⟩
      · have hno := nines_own HO.out
        have HNO := Lib.hid hno
        clear hno
        go_wp2_with fail
        refine (sorts_any HNO.out.1 HNO.out.2.2.1 (Nat.le_refl _) (by omega)).mono ?_
        rintro e w3 ⟨rfl, ⟨u, hn3, hs3⟩, ht3⟩
        have HRS := Lib.hid (sorted_new HO.out hn3 hs3 ht3)
        have HB3 := Lib.hid (ht3.old HB.out HNO.out.2.1 HB.out.size)
        have HST := Lib.hid (show Stable ltR (atL rs) (atL ((List.range k).map (vals u))) k from by
          obtain ⟨t, h1, h2, h3⟩ := hs3
          exact ⟨t, fun i hi => (h1 i hi).trans (by unfold atL; simp [List.getD_eq_getElem?_getD, hi]), h2, h3⟩)
        clear hn3 hs3 ht3
        go_wp2_with fail
        go_ret
        exact ⟨k, rs, _, rfl, rfl, HRS.out, HS.out, HST.out, HB3.out⟩
theorem sort_any {w : World} {a : Option Addr} {n c : Nat} {l : List RowV} (h : RowsAt w a n c l) (hn : n ≤ 100000) :
    Calls Try.prog 41 #[.slice a n c] w fun e w' => ∃ a' c' l1 rs, e = .returned (.slice a' n c') ∧ RowsAt w' a' n c' rs ∧ (∀ j, j < n → (atL l1 j).says = (atL l j).says) ∧ Stable ltR (atL l1) (atL rs) n ∧ Below w.heap.size w w' := by
  refine (sort_new h hn).mono ?_
  rintro e w' ⟨c', l1, rs, he, _, hr, hs⟩
  exact ⟨_, c', l1, rs, he, hr.rows, hs⟩
end Go.Proofs.Ytjbljplgkbnpmaa
