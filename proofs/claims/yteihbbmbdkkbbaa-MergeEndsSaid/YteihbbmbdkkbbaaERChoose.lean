/- The document's Sort, walked. Written by generchoose.py. -/
import Derived.Test.YteihbbmbdkkbbaaESortPlain
import Derived.Test.YteihbbmbdkkbbaaEAhead
import Derived.Test.YteihbbmbdkkbbaaETogB
import Derived.Test.YteihbbmbdkkbbaaEChoose
import Derived.Deep.RegionHeld3
namespace Go.Proofs.Yteihbbmbdkkbbaa
open Go.ChangeShapes Go.WideShapes Go.Deep Go.RowKit LabPlain Stab
set_option linter.unusedVariables false

theorem rcho_at {small most : Int} {s : List EntV} {i : Nat} (h : i < s.length) : rcho small most (s.drop i) = if rfirst (s.getD i ent0) small most (s.drop (i + 1)) = [] then rcho small most (s.drop (i + 1)) else rfirst (s.getD i ent0) small most (s.drop (i + 1)) := by
  rw [drop_at h, rcho]
theorem rfirst_at {f : EntV} {small most : Int} {s : List EntV} {k : Nat} (h : k < s.length) : rfirst f small most (s.drop k) = if togB f (s.getD k ent0) small most = true then f.key :: (s.getD k ent0).key :: rtog f small most (f.rows + (s.getD k ent0).rows) (s.drop (k + 1)) else rfirst f small most (s.drop (k + 1)) := by
  rw [drop_at h, rfirst]
theorem rtog_at {f : EntV} {small most r : Int} {s : List EntV} {k : Nat} (h : k < s.length) : rtog f small most r (s.drop k) = if (s.getD k ent0).win = f.win ∧ (s.getD k ent0).part = f.part ∧ (s.getD k ent0).rows < small ∧ (s.getD k ent0).rows ≤ most - r then (s.getD k ent0).key :: rtog f small most (r + (s.getD k ent0).rows) (s.drop (k + 1)) else rtog f small most r (s.drop (k + 1)) := by
  rw [drop_at h, rtog]
theorem fromF_self {rs : List EntV} {k : Nat} (h : rs.length = k) : fromF (atE rs) k = rs := by
  apply List.ext_getElem
  · simp [fromF, h]
  · intro i h1 h2
    simp [fromF, atE, h2]
theorem unlike_of {l : List EntV} (h : l.Pairwise (fun x y => x.key ≠ y.key)) : ∀ i j, i < l.length → j < l.length → i ≠ j → (atE l i).key ≠ (atE l j).key := by
  intro i j hi hj hne
  have e1 : ∀ i (h : i < l.length), atE l i = l[i] := fun i h => by unfold atE; simp [h]
  rw [e1 i hi, e1 j hj]
  rw [List.pairwise_iff_getElem] at h
  rcases Nat.lt_or_gt_of_ne hne with g | g
  · exact h i j hi hj g
  · exact (h j i hj hi g).symm

set_option maxRecDepth 100000 in
set_option maxHeartbeats 8000000 in
theorem rchoose_any {w : World} {a : Option Addr} {n c : Nat} {l : List EntV} {small most : Int} (h : EntsAt w a n c l) (hn : n ≤ 1000) (hm : 0 ≤ most ∧ most ≤ 1099511627776) (hrr : ∀ x ∈ l, 1 ≤ x.rows ∧ x.rows ≤ 1099511627776) (hk : l.Pairwise (fun x y => x.key ≠ y.key)) :
    Calls Try.prog 25 #[.slice a n c, .int .i64 small, .int .i64 most] w fun e w' => ∃ v al, e = .returned v ∧ al.Pairwise (fun x y => ltE x y = true) ∧ (∀ x, x ∈ al ↔ x ∈ l) ∧ w'.ownsRow w.heap.size 9 1 v (rcho small most al).length (strs (rcho small most al)) ∧ Below w.heap.size w w' := by
  obtain ⟨i0, hi, hz0, hz1, hz2⟩ := info_parts ent_info
  have hcap := h.cap
  have hcm := h.capm
  have hown1 : (w.alloc (.cells #[] 57)).ownsRow w.heap.size 57 9 (.slice (some ⟨w.heap.size, 0, none⟩) 0 0) 0 (ecells []) := World.ownsRow_lit (base := w.heap.size) (e := 57) (size := 9) w #[] 0 (Nat.le_refl _) (by unfold maxLen; omega) rfl
  have HH := Lib.hid h
  have HL := Lib.hid h.len
  have HRR := Lib.hid hrr
  have HK := Lib.hid hk
  have HO1 := Lib.hid hown1
  have HB1 := Lib.hid ((Below.refl w.heap.size w).alloc (Nat.le_refl _) (.cells #[] 57))
  clear h hown1 hrr hk
  go_enter Try.func25, Try.ntmps25
  go_wp2_with fail
  go_loopw [7, 9, 10, 11, 21] (fun s7 s9 s10 s11 s21 wr => ∃ (k g cap : Nat) (rs : List EntV), k ≤ n ∧ k ≤ cap ∧ cap ≤ 9223372036854775807 ∧ s7 = .slice (some ⟨g, 0, none⟩) k cap ∧ s21 = .int .i64 (k : Int) ∧ Hid (wr.ownsRow w.heap.size 57 9 (.slice (some ⟨g, 0, none⟩) k cap) k (ecells rs)) ∧ Hid (rs.length = k ∧ (∀ x ∈ rs, x ∈ l) ∧ Stable ltE (atE l) (atE rs) k) ∧ Hid (Below w.heap.size w wr)) (fun _ _ _ _ s21 _ => n - (intOf s21).toNat)
  case atStart => exact ⟨0, w.heap.size, 0, [], by omega, by omega, by omega, rfl, rfl, HO1, Lib.hid ⟨rfl, (fun x hx => by cases hx), stable_none _ _⟩, HB1⟩
  case round =>
    obtain ⟨k, g, cap, rs, hk, hkc, hcap2, rfl, rfl, HO, HS, HB⟩ := hrel
    rename World => wr
    by_cases hkn : k < n
    · have hkp := HH.out.kept HB.out
      obtain ⟨b, off, rfl, hlt, hcell⟩ := hkp.cells (by omega)
      obtain ⟨r, hr⟩ : ∃ r, r = l.getD k ent0 := ⟨_, rfl⟩
      obtain ⟨d0, d1, d2, d3, d4, d5, d6, d7, d8⟩ := EntsAt.nine hcell hkn hr
      have HR := Lib.hid hr
      clear hr hcell hkp
      obtain ⟨b5, hb5⟩ : ∃ b5, b5 = wr.heap.size := ⟨_, rfl⟩
      obtain ⟨w2, hw2⟩ : ∃ w2, w2 = wr.alloc (.cells #[.string r.key, .int .i64 r.win, .string r.part, .int .i64 r.fst, .int .i64 r.lst, .int .i64 r.rows, .int .i64 r.size, .int .u32 r.sum, .int .i64 r.born] 57) := ⟨_, rfl⟩
      have hb2 : Below wr.heap.size wr w2 := by rw [hw2]; exact (Below.refl _ _).alloc (Nat.le_refl _) _
      have hx5 : ∀ j u, r.cells[j]? = some u → w2.cell? ⟨b5, j, none⟩ = some u := by
        intro j u hu
        have := ent_src wr r 57 j u hu
        rw [Addr.add_mid, Nat.zero_add] at this
        rw [hw2, hb5]; exact this
      have hl5 : b5 < w2.heap.size := by rw [hb5, hw2]; exact (Array.getElem?_eq_some_iff.1 (heap_alloc_new wr _)).1
      have hgw : g < wr.heap.size := (HO.out.lt g rfl).2
      have HX5 := Lib.hid hx5
      have HW2 := Lib.hid hw2
      have HB5 := Lib.hid hb5
      have HL5 := Lib.hid hl5
      have HB2 := Lib.hid hb2
      have HGW := Lib.hid (Nat.lt_of_lt_of_le hgw hb2.size)
      have HO2 := Lib.hid (own_below HO.out hb2)
      have HBW := Lib.hid (HB.out.trans (hb2.mono HB.out.size))
      clear hx5 hw2 hb5 hl5 hb2 hgw
      go_wp2_with fail
      rw [← HW2.out, ← HB5.out]
      go_loopw [10] (fun s10 wi => ∃ m : Nat, m ≤ k ∧ s10 = .int .i64 (m : Int) ∧ Hid (∀ j, m ≤ j → j < k → ltE r (atE rs j) = true) ∧ Hid (Below w2.heap.size w2 wi)) (fun s10 _ => (intOf s10).toNat)
      case atStart => exact ⟨k, Nat.le_refl _, rfl, Lib.hid (fun j h1 h2 => by omega), Lib.hid (Below.refl _ _)⟩
      case round =>
        obtain ⟨m, hmk, rfl, HGE, HBI⟩ := hrel
        rename World => wi
        by_cases hm0 : 0 < m
        · have hm0i : (0 : Int) < (m : Int) := by omega
          obtain ⟨q, hq⟩ : ∃ q, q = m - 1 := ⟨_, rfl⟩
          have wq : IntKind.i64.wrap ((m : Int) - 1) = (q : Int) := by rw [IntWalk.i64_in _ (by omega)]; omega
          have hqk : (q : Int) < (k : Int) := by omega
          obtain ⟨y, hy⟩ : ∃ y, y = atE rs q := ⟨_, rfl⟩
          have hyc : ∀ j u, y.cells[j]? = some u → wi.cell? ⟨g, q * 9 + j, none⟩ = some u := by
            intro j u hu
            have hj : j < 9 := (List.getElem?_eq_some_iff.1 hu).1
            refine esrc_own (own_below HO2.out HBI.out) _ u ?_
            unfold ecells
            rw [flat_at EntV.cells 9 (fun _ => rfl) ent0 rs q j (by have := HS.out.1; omega) hj]
            rw [hy] at hu; exact hu
          have hltg : g < wi.heap.size := Nat.lt_of_lt_of_le HGW.out HBI.out.size
          have hltx : b5 < wi.heap.size := Nat.lt_of_lt_of_le HL5.out HBI.out.size
          have cy0 : wi.cell? ⟨g, q * 9, none⟩ = some (.string y.key) := hyc 0 _ rfl
          have cy1 : wi.cell? ⟨g, q * 9 + 1, none⟩ = some (.int .i64 y.win) := hyc 1 _ rfl
          have cy2 : wi.cell? ⟨g, q * 9 + 2, none⟩ = some (.string y.part) := hyc 2 _ rfl
          have cy3 : wi.cell? ⟨g, q * 9 + 3, none⟩ = some (.int .i64 y.fst) := hyc 3 _ rfl
          have cy4 : wi.cell? ⟨g, q * 9 + 4, none⟩ = some (.int .i64 y.lst) := hyc 4 _ rfl
          have cy5 : wi.cell? ⟨g, q * 9 + 5, none⟩ = some (.int .i64 y.rows) := hyc 5 _ rfl
          have cy6 : wi.cell? ⟨g, q * 9 + 6, none⟩ = some (.int .i64 y.size) := hyc 6 _ rfl
          have cy7 : wi.cell? ⟨g, q * 9 + 7, none⟩ = some (.int .u32 y.sum) := hyc 7 _ rfl
          have cy8 : wi.cell? ⟨g, q * 9 + 8, none⟩ = some (.int .i64 y.born) := hyc 8 _ rfl
          have cx0 : wi.cell? ⟨b5, 0, none⟩ = some (.string r.key) := (HBI.out.cell (p := ⟨b5, 0, none⟩) HL5.out).trans (HX5.out 0 _ rfl)
          have cx1 : wi.cell? ⟨b5, 1, none⟩ = some (.int .i64 r.win) := (HBI.out.cell (p := ⟨b5, 1, none⟩) HL5.out).trans (HX5.out 1 _ rfl)
          have cx2 : wi.cell? ⟨b5, 2, none⟩ = some (.string r.part) := (HBI.out.cell (p := ⟨b5, 2, none⟩) HL5.out).trans (HX5.out 2 _ rfl)
          have cx3 : wi.cell? ⟨b5, 3, none⟩ = some (.int .i64 r.fst) := (HBI.out.cell (p := ⟨b5, 3, none⟩) HL5.out).trans (HX5.out 3 _ rfl)
          have cx4 : wi.cell? ⟨b5, 4, none⟩ = some (.int .i64 r.lst) := (HBI.out.cell (p := ⟨b5, 4, none⟩) HL5.out).trans (HX5.out 4 _ rfl)
          have cx5 : wi.cell? ⟨b5, 5, none⟩ = some (.int .i64 r.rows) := (HBI.out.cell (p := ⟨b5, 5, none⟩) HL5.out).trans (HX5.out 5 _ rfl)
          have cx6 : wi.cell? ⟨b5, 6, none⟩ = some (.int .i64 r.size) := (HBI.out.cell (p := ⟨b5, 6, none⟩) HL5.out).trans (HX5.out 6 _ rfl)
          have cx7 : wi.cell? ⟨b5, 7, none⟩ = some (.int .u32 r.sum) := (HBI.out.cell (p := ⟨b5, 7, none⟩) HL5.out).trans (HX5.out 7 _ rfl)
          have cx8 : wi.cell? ⟨b5, 8, none⟩ = some (.int .i64 r.born) := (HBI.out.cell (p := ⟨b5, 8, none⟩) HL5.out).trans (HX5.out 8 _ rfl)
          have HY := Lib.hid hy
          have hqm : q ≤ k ∧ q < m ∧ m ≤ q + 1 := by omega
          clear hyc hy hq
          by_cases hpos : ltE r y = true
          · have HT := Lib.hid hpos
            go_wp2_with fail
            go_region_held3 (fun w' => w'.cell? ⟨g, q * 9, none⟩ = some (.string y.key) ∧ w'.cell? ⟨g, q * 9 + 1, none⟩ = some (.int .i64 y.win) ∧ w'.cell? ⟨g, q * 9 + 2, none⟩ = some (.string y.part) ∧ w'.cell? ⟨g, q * 9 + 3, none⟩ = some (.int .i64 y.fst) ∧ w'.cell? ⟨g, q * 9 + 4, none⟩ = some (.int .i64 y.lst) ∧ w'.cell? ⟨g, q * 9 + 5, none⟩ = some (.int .i64 y.rows) ∧ w'.cell? ⟨g, q * 9 + 6, none⟩ = some (.int .i64 y.size) ∧ w'.cell? ⟨g, q * 9 + 7, none⟩ = some (.int .u32 y.sum) ∧ w'.cell? ⟨g, q * 9 + 8, none⟩ = some (.int .i64 y.born) ∧ w'.cell? ⟨b5, 0, none⟩ = some (.string r.key) ∧ w'.cell? ⟨b5, 1, none⟩ = some (.int .i64 r.win) ∧ w'.cell? ⟨b5, 2, none⟩ = some (.string r.part) ∧ w'.cell? ⟨b5, 3, none⟩ = some (.int .i64 r.fst) ∧ w'.cell? ⟨b5, 4, none⟩ = some (.int .i64 r.lst) ∧ w'.cell? ⟨b5, 5, none⟩ = some (.int .i64 r.rows) ∧ w'.cell? ⟨b5, 6, none⟩ = some (.int .i64 r.size) ∧ w'.cell? ⟨b5, 7, none⟩ = some (.int .u32 r.sum) ∧ w'.cell? ⟨b5, 8, none⟩ = some (.int .i64 r.born)) (first | go_keep | exact ⟨(hbq.cell (p := ⟨g, q * 9, none⟩) hltg).trans cy0, (hbq.cell (p := ⟨g, q * 9 + 1, none⟩) hltg).trans cy1, (hbq.cell (p := ⟨g, q * 9 + 2, none⟩) hltg).trans cy2, (hbq.cell (p := ⟨g, q * 9 + 3, none⟩) hltg).trans cy3, (hbq.cell (p := ⟨g, q * 9 + 4, none⟩) hltg).trans cy4, (hbq.cell (p := ⟨g, q * 9 + 5, none⟩) hltg).trans cy5, (hbq.cell (p := ⟨g, q * 9 + 6, none⟩) hltg).trans cy6, (hbq.cell (p := ⟨g, q * 9 + 7, none⟩) hltg).trans cy7, (hbq.cell (p := ⟨g, q * 9 + 8, none⟩) hltg).trans cy8, (hbq.cell (p := ⟨b5, 0, none⟩) hltx).trans cx0, (hbq.cell (p := ⟨b5, 1, none⟩) hltx).trans cx1, (hbq.cell (p := ⟨b5, 2, none⟩) hltx).trans cx2, (hbq.cell (p := ⟨b5, 3, none⟩) hltx).trans cx3, (hbq.cell (p := ⟨b5, 4, none⟩) hltx).trans cx4, (hbq.cell (p := ⟨b5, 5, none⟩) hltx).trans cx5, (hbq.cell (p := ⟨b5, 6, none⟩) hltx).trans cx6, (hbq.cell (p := ⟨b5, 7, none⟩) hltx).trans cx7, (hbq.cell (p := ⟨b5, 8, none⟩) hltx).trans cx8⟩) (first | (go_at_call 44; refine (ahead_any r y _).mono ?_; rintro e w3 ⟨rfl, hbq⟩))
            have HBI3 := Lib.hid (HBI.out.drew.trans (hbq.mono HBI.out.size))
            clear hbq cy0 cy1 cy2 cy3 cy4 cy5 cy6 cy7 cy8 cx0 cx1 cx2 cx3 cx4 cx5 cx6 cx7 cx8
            have HGE3 := Lib.hid (show ∀ j, q ≤ j → j < k → ltE r (atE rs j) = true from fun j h1 h2 => by
              by_cases e : j = q
              · rw [e, ← HY.out]; exact HT.out
              · exact HGE.out j (by omega) h2)
            go_wp2_with fail
            go_roundw
            case rel => exact ⟨q, hqm.1, by first | rfl | go_num, HGE3, HBI3⟩
            case measure => simp [intOf]; omega
          · rw [Bool.not_eq_true] at hpos
            have HT := Lib.hid hpos
            go_wp2_with fail
            go_region_held3 (fun w' => w'.cell? ⟨g, q * 9, none⟩ = some (.string y.key) ∧ w'.cell? ⟨g, q * 9 + 1, none⟩ = some (.int .i64 y.win) ∧ w'.cell? ⟨g, q * 9 + 2, none⟩ = some (.string y.part) ∧ w'.cell? ⟨g, q * 9 + 3, none⟩ = some (.int .i64 y.fst) ∧ w'.cell? ⟨g, q * 9 + 4, none⟩ = some (.int .i64 y.lst) ∧ w'.cell? ⟨g, q * 9 + 5, none⟩ = some (.int .i64 y.rows) ∧ w'.cell? ⟨g, q * 9 + 6, none⟩ = some (.int .i64 y.size) ∧ w'.cell? ⟨g, q * 9 + 7, none⟩ = some (.int .u32 y.sum) ∧ w'.cell? ⟨g, q * 9 + 8, none⟩ = some (.int .i64 y.born) ∧ w'.cell? ⟨b5, 0, none⟩ = some (.string r.key) ∧ w'.cell? ⟨b5, 1, none⟩ = some (.int .i64 r.win) ∧ w'.cell? ⟨b5, 2, none⟩ = some (.string r.part) ∧ w'.cell? ⟨b5, 3, none⟩ = some (.int .i64 r.fst) ∧ w'.cell? ⟨b5, 4, none⟩ = some (.int .i64 r.lst) ∧ w'.cell? ⟨b5, 5, none⟩ = some (.int .i64 r.rows) ∧ w'.cell? ⟨b5, 6, none⟩ = some (.int .i64 r.size) ∧ w'.cell? ⟨b5, 7, none⟩ = some (.int .u32 r.sum) ∧ w'.cell? ⟨b5, 8, none⟩ = some (.int .i64 r.born)) (first | go_keep | exact ⟨(hbq.cell (p := ⟨g, q * 9, none⟩) hltg).trans cy0, (hbq.cell (p := ⟨g, q * 9 + 1, none⟩) hltg).trans cy1, (hbq.cell (p := ⟨g, q * 9 + 2, none⟩) hltg).trans cy2, (hbq.cell (p := ⟨g, q * 9 + 3, none⟩) hltg).trans cy3, (hbq.cell (p := ⟨g, q * 9 + 4, none⟩) hltg).trans cy4, (hbq.cell (p := ⟨g, q * 9 + 5, none⟩) hltg).trans cy5, (hbq.cell (p := ⟨g, q * 9 + 6, none⟩) hltg).trans cy6, (hbq.cell (p := ⟨g, q * 9 + 7, none⟩) hltg).trans cy7, (hbq.cell (p := ⟨g, q * 9 + 8, none⟩) hltg).trans cy8, (hbq.cell (p := ⟨b5, 0, none⟩) hltx).trans cx0, (hbq.cell (p := ⟨b5, 1, none⟩) hltx).trans cx1, (hbq.cell (p := ⟨b5, 2, none⟩) hltx).trans cx2, (hbq.cell (p := ⟨b5, 3, none⟩) hltx).trans cx3, (hbq.cell (p := ⟨b5, 4, none⟩) hltx).trans cx4, (hbq.cell (p := ⟨b5, 5, none⟩) hltx).trans cx5, (hbq.cell (p := ⟨b5, 6, none⟩) hltx).trans cx6, (hbq.cell (p := ⟨b5, 7, none⟩) hltx).trans cx7, (hbq.cell (p := ⟨b5, 8, none⟩) hltx).trans cx8⟩) (first | (go_at_call 44; refine (ahead_any r y _).mono ?_; rintro e w3 ⟨rfl, hbq⟩))
            have HBI3 := Lib.hid (HBI.out.drew.trans (hbq.mono HBI.out.size))
            clear hbq cy0 cy1 cy2 cy3 cy4 cy5 cy6 cy7 cy8 cx0 cx1 cx2 cx3 cx4 cx5 cx6 cx7 cx8
            have HLO := Lib.hid (show 0 < m → ltE r (atE rs (m - 1)) = false from fun _ => by
              rw [show m - 1 = q by omega, ← HY.out]; exact HT.out)
            have hown6 : (w3.alloc (.cells #[] 57)).ownsRow w3.heap.size 57 9 (.slice (some ⟨w3.heap.size, 0, none⟩) 0 0) 0 (ecells []) := World.ownsRow_lit (base := w3.heap.size) (e := 57) (size := 9) w3 #[] 0 (Nat.le_refl _) (by unfold maxLen; omega) rfl
            have hb6 : Below w3.heap.size w3 (w3.alloc (.cells #[] 57)) := (Below.refl _ _).alloc (Nat.le_refl _) _
            have HOW := Lib.hid (own_below HO2.out HBI3.out)
            have HO6 := Lib.hid (own_below HOW.out hb6)
            have HN6 := Lib.hid hown6
            have HD6 := Lib.hid hb6
            have hs6 := hb6.size
            clear hown6 hb6
            have hmn : (m + 0) * 88 ≤ 140737488355328 := by omega
            have hlt6 : (ecells (rs.take m)).length = m * 9 := by rw [ecells_len, List.length_take, HS.out.1, Nat.min_eq_left hmk]
            go_wp2_with (at_builtin; refine wpList_append_own_at _ rfl (.tmp 40) (.tmp 43) 51 rfl w3.heap.size 57 i0 _ 9 88 Try.underlying51 hi hz0 hz1 hz2 rfl (by decide) _ _ _ rfl HN6.out ⟨g, 0, none⟩ m cap (ecells (rs.take m)) rfl hlt6 (esrc_take HO6.out) (ecells_all _) (by unfold maxLen; omega) (by omega) hs6 ?_)
            intro v7 w7 hown7 hgrow7 _ _
            have HN7 := Lib.hid hown7
            have HD7 := Lib.hid (HD6.out.grown hgrow7 HD6.out.size (fun p hp => (HN6.out.lt p hp).1))
            have HB7 := Lib.hid (HBI3.out.trans (HD7.out.mono HBI3.out.size))
            clear hown7 hgrow7 hs6 hlt6
            have cx0 : w7.cell? ⟨b5, 0, none⟩ = some (.string r.key) := (HB7.out.cell (p := ⟨b5, 0, none⟩) HL5.out).trans (HX5.out 0 _ rfl)
            have cx1 : w7.cell? ⟨b5, 1, none⟩ = some (.int .i64 r.win) := (HB7.out.cell (p := ⟨b5, 1, none⟩) HL5.out).trans (HX5.out 1 _ rfl)
            have cx2 : w7.cell? ⟨b5, 2, none⟩ = some (.string r.part) := (HB7.out.cell (p := ⟨b5, 2, none⟩) HL5.out).trans (HX5.out 2 _ rfl)
            have cx3 : w7.cell? ⟨b5, 3, none⟩ = some (.int .i64 r.fst) := (HB7.out.cell (p := ⟨b5, 3, none⟩) HL5.out).trans (HX5.out 3 _ rfl)
            have cx4 : w7.cell? ⟨b5, 4, none⟩ = some (.int .i64 r.lst) := (HB7.out.cell (p := ⟨b5, 4, none⟩) HL5.out).trans (HX5.out 4 _ rfl)
            have cx5 : w7.cell? ⟨b5, 5, none⟩ = some (.int .i64 r.rows) := (HB7.out.cell (p := ⟨b5, 5, none⟩) HL5.out).trans (HX5.out 5 _ rfl)
            have cx6 : w7.cell? ⟨b5, 6, none⟩ = some (.int .i64 r.size) := (HB7.out.cell (p := ⟨b5, 6, none⟩) HL5.out).trans (HX5.out 6 _ rfl)
            have cx7 : w7.cell? ⟨b5, 7, none⟩ = some (.int .u32 r.sum) := (HB7.out.cell (p := ⟨b5, 7, none⟩) HL5.out).trans (HX5.out 7 _ rfl)
            have cx8 : w7.cell? ⟨b5, 8, none⟩ = some (.int .i64 r.born) := (HB7.out.cell (p := ⟨b5, 8, none⟩) HL5.out).trans (HX5.out 8 _ rfl)
            have hb8 : Below w7.heap.size w7 (w7.alloc (.cells #[.string r.key, .int .i64 r.win, .string r.part, .int .i64 r.fst, .int .i64 r.lst, .int .i64 r.rows, .int .i64 r.size, .int .u32 r.sum, .int .i64 r.born] 57)) := (Below.refl _ _).alloc (Nat.le_refl _) _
            have HN8 := Lib.hid (own_below HN7.out hb8)
            have HD8 := Lib.hid (HD7.out.trans (hb8.mono HD7.out.size))
            have hs8 := HD8.out.size
            have HSRC8 := Lib.hid (ent_src w7 r 57)
            clear hb8
            go_wp2_with (at_builtin; refine wpList_append_own_at _ rfl (.tmp 45) (.tmp 47) 51 rfl w3.heap.size 57 i0 _ 9 88 Try.underlying51 hi hz0 hz1 hz2 rfl (by decide) _ _ _ rfl HN8.out ⟨w7.heap.size, 0, none⟩ 1 1 (EntV.cells r) rfl rfl HSRC8.out (ecells_one _) (by unfold maxLen; omega) (by omega) hs8 ?_)
            intro v9 w9 hown9 hgrow9 hnil9 _
            have HN9 := Lib.hid hown9
            have HD9 := Lib.hid (HD8.out.grown hgrow9 HD8.out.size (fun p hp => (HN8.out.lt p hp).1))
            have HO9 := Lib.hid (own_below HOW.out HD9.out)
            have hs9 := HD9.out.size
            clear hown9 hgrow9 hnil9 hs8
            have hld : (ecells (rs.drop m)).length = (k - m) * 9 := by rw [ecells_len, List.length_drop, HS.out.1]
            have hsum : m + 1 + (k - m) = k + 1 := by omega
            by_cases hcp : cap = m
            · have HNONE := Lib.hid (show ∀ j u, (ecells (rs.drop m))[j]? = some u → w9.cell? ((⟨g, 0, none⟩ : Addr).add j) = some u from fun j u hu => by
                have := (List.getElem?_eq_some_iff.1 hu).1
                omega)
              go_wp2_with (at_builtin; refine wpList_append_own_at _ rfl (.tmp 49) (.tmp 52) 51 rfl w3.heap.size 57 i0 _ 9 88 Try.underlying51 hi hz0 hz1 hz2 rfl (by decide) _ _ _ rfl HN9.out ⟨g, 0, none⟩ (k - m) 0 (ecells (rs.drop m)) rfl hld HNONE.out (ecells_all _) (by unfold maxLen; omega) (by omega) hs9 ?_)
              intro v10 w10 hown10 hgrow10 _ _
              have HB10 := Lib.hid (HBW.out.trans ((HBI3.out.trans ((HD9.out.grown hgrow10 HD9.out.size (fun p hp => (HN9.out.lt p hp).1)).mono HBI3.out.size)).mono HBW.out.size))
              have hown11 : w10.ownsRow w.heap.size 57 9 v10 (k + 1) (ecells (ins1 rs m r)) := by
                have h := hown10.mono (base' := w.heap.size) (Nat.le_trans HBW.out.size HBI3.out.size)
                try rw [hsum] at h
                have e : ecells (ins1 rs m r) = ecells [] ++ (ecells (rs.take m) ++ (EntV.cells r ++ ecells (rs.drop m))) := by
                  unfold ins1
                  rw [ecells_app, ecells_app]
                  simp [ecells]
                rw [e]; exact h
              obtain ⟨g2, cap2, rfl, hcap3⟩ : ∃ g2 cap2, v10 = .slice (some ⟨g2, 0, none⟩) (k + 1) cap2 ∧ k + 1 ≤ cap2 ∧ cap2 ≤ 9223372036854775807 := by
                rcases hown11.2 with ⟨_, h0⟩ | ⟨g2, cap2, cur, he, _, _, h4, h5, _⟩
                · omega
                · exact ⟨g2, cap2, he, h4, by unfold maxLen at h5; exact h5⟩
              have HO10 := Lib.hid hown11
              have HS10 := Lib.hid (show (ins1 rs m r).length = k + 1 ∧ (∀ x ∈ ins1 rs m r, x ∈ l) ∧ Stable ltE (atE l) (atE (ins1 rs m r)) (k + 1) from by
                have er : atE l k = r := HR.out.symm
                refine ⟨by rw [ins1_len rs m r (by rw [HS.out.1]; exact hmk), HS.out.1], fun x hx => ?_, ?_⟩
                · rcases ins1_mem hx with h | h
                  · exact HS.out.2.1 x h
                  · rw [h, HR.out]; exact ent_mem (by rw [HL.out]; exact hkn)
                · have h := stable_ins (f := atE l) (m := m) HS.out.1 HS.out.2.2 hmk (by rw [er]; exact HLO.out) (by rw [er]; exact HGE.out)
                  rw [er] at h
                  exact h)
              clear hown10 hgrow10 hown11
              go_wp2_with fail
              go_roundw
              case rel => exact ⟨k + 1, g2, cap2, ins1 rs m r, by omega, hcap3.1, hcap3.2, rfl, by go_num, HO10, HS10, HB10⟩
              case measure => simp [intOf]; omega
            · go_wp2_with (at_builtin; refine wpList_append_own_at _ rfl (.tmp 49) (.tmp 52) 51 rfl w3.heap.size 57 i0 _ 9 88 Try.underlying51 hi hz0 hz1 hz2 rfl (by decide) _ _ _ rfl HN9.out ⟨g, m * 9, none⟩ (k - m) (cap - m) (ecells (rs.drop m)) rfl hld (esrc_drop HO9.out (by rw [HS.out.1]; exact hmk)) (ecells_all _) (by unfold maxLen; omega) (by omega) hs9 ?_)
              intro v10 w10 hown10 hgrow10 _ _
              have HB10 := Lib.hid (HBW.out.trans ((HBI3.out.trans ((HD9.out.grown hgrow10 HD9.out.size (fun p hp => (HN9.out.lt p hp).1)).mono HBI3.out.size)).mono HBW.out.size))
              have hown11 : w10.ownsRow w.heap.size 57 9 v10 (k + 1) (ecells (ins1 rs m r)) := by
                have h := hown10.mono (base' := w.heap.size) (Nat.le_trans HBW.out.size HBI3.out.size)
                try rw [hsum] at h
                have e : ecells (ins1 rs m r) = ecells [] ++ (ecells (rs.take m) ++ (EntV.cells r ++ ecells (rs.drop m))) := by
                  unfold ins1
                  rw [ecells_app, ecells_app]
                  simp [ecells]
                rw [e]; exact h
              obtain ⟨g2, cap2, rfl, hcap3⟩ : ∃ g2 cap2, v10 = .slice (some ⟨g2, 0, none⟩) (k + 1) cap2 ∧ k + 1 ≤ cap2 ∧ cap2 ≤ 9223372036854775807 := by
                rcases hown11.2 with ⟨_, h0⟩ | ⟨g2, cap2, cur, he, _, _, h4, h5, _⟩
                · omega
                · exact ⟨g2, cap2, he, h4, by unfold maxLen at h5; exact h5⟩
              have HO10 := Lib.hid hown11
              have HS10 := Lib.hid (show (ins1 rs m r).length = k + 1 ∧ (∀ x ∈ ins1 rs m r, x ∈ l) ∧ Stable ltE (atE l) (atE (ins1 rs m r)) (k + 1) from by
                have er : atE l k = r := HR.out.symm
                refine ⟨by rw [ins1_len rs m r (by rw [HS.out.1]; exact hmk), HS.out.1], fun x hx => ?_, ?_⟩
                · rcases ins1_mem hx with h | h
                  · exact HS.out.2.1 x h
                  · rw [h, HR.out]; exact ent_mem (by rw [HL.out]; exact hkn)
                · have h := stable_ins (f := atE l) (m := m) HS.out.1 HS.out.2.2 hmk (by rw [er]; exact HLO.out) (by rw [er]; exact HGE.out)
                  rw [er] at h
                  exact h)
              clear hown10 hgrow10 hown11
              go_wp2_with fail
              go_roundw
              case rel => exact ⟨k + 1, g2, cap2, ins1 rs m r, by omega, hcap3.1, hcap3.2, rfl, by go_num, HO10, HS10, HB10⟩
              case measure => simp [intOf]; omega
        · have hm0i : ¬ (0 : Int) < (m : Int) := by omega
          go_wp2_with fail
          go_region
          have HBI3 := Lib.hid HBI.out.drew
          have HLO := Lib.hid (show 0 < m → ltE r (atE rs (m - 1)) = false from fun h => by omega)
          have hown6 : (wi.drew.alloc (.cells #[] 57)).ownsRow wi.drew.heap.size 57 9 (.slice (some ⟨wi.drew.heap.size, 0, none⟩) 0 0) 0 (ecells []) := World.ownsRow_lit (base := wi.drew.heap.size) (e := 57) (size := 9) wi.drew #[] 0 (Nat.le_refl _) (by unfold maxLen; omega) rfl
          have hb6 : Below wi.drew.heap.size wi.drew (wi.drew.alloc (.cells #[] 57)) := (Below.refl _ _).alloc (Nat.le_refl _) _
          have HOW := Lib.hid (own_below HO2.out HBI3.out)
          have HO6 := Lib.hid (own_below HOW.out hb6)
          have HN6 := Lib.hid hown6
          have HD6 := Lib.hid hb6
          have hs6 := hb6.size
          clear hown6 hb6
          have hmn : (m + 0) * 88 ≤ 140737488355328 := by omega
          have hlt6 : (ecells (rs.take m)).length = m * 9 := by rw [ecells_len, List.length_take, HS.out.1, Nat.min_eq_left hmk]
          go_wp2_with (at_builtin; refine wpList_append_own_at _ rfl (.tmp 40) (.tmp 43) 51 rfl wi.drew.heap.size 57 i0 _ 9 88 Try.underlying51 hi hz0 hz1 hz2 rfl (by decide) _ _ _ rfl HN6.out ⟨g, 0, none⟩ m cap (ecells (rs.take m)) rfl hlt6 (esrc_take HO6.out) (ecells_all _) (by unfold maxLen; omega) (by omega) hs6 ?_)
          intro v7 w7 hown7 hgrow7 _ _
          have HN7 := Lib.hid hown7
          have HD7 := Lib.hid (HD6.out.grown hgrow7 HD6.out.size (fun p hp => (HN6.out.lt p hp).1))
          have HB7 := Lib.hid (HBI3.out.trans (HD7.out.mono HBI3.out.size))
          clear hown7 hgrow7 hs6 hlt6
          have cx0 : w7.cell? ⟨b5, 0, none⟩ = some (.string r.key) := (HB7.out.cell (p := ⟨b5, 0, none⟩) HL5.out).trans (HX5.out 0 _ rfl)
          have cx1 : w7.cell? ⟨b5, 1, none⟩ = some (.int .i64 r.win) := (HB7.out.cell (p := ⟨b5, 1, none⟩) HL5.out).trans (HX5.out 1 _ rfl)
          have cx2 : w7.cell? ⟨b5, 2, none⟩ = some (.string r.part) := (HB7.out.cell (p := ⟨b5, 2, none⟩) HL5.out).trans (HX5.out 2 _ rfl)
          have cx3 : w7.cell? ⟨b5, 3, none⟩ = some (.int .i64 r.fst) := (HB7.out.cell (p := ⟨b5, 3, none⟩) HL5.out).trans (HX5.out 3 _ rfl)
          have cx4 : w7.cell? ⟨b5, 4, none⟩ = some (.int .i64 r.lst) := (HB7.out.cell (p := ⟨b5, 4, none⟩) HL5.out).trans (HX5.out 4 _ rfl)
          have cx5 : w7.cell? ⟨b5, 5, none⟩ = some (.int .i64 r.rows) := (HB7.out.cell (p := ⟨b5, 5, none⟩) HL5.out).trans (HX5.out 5 _ rfl)
          have cx6 : w7.cell? ⟨b5, 6, none⟩ = some (.int .i64 r.size) := (HB7.out.cell (p := ⟨b5, 6, none⟩) HL5.out).trans (HX5.out 6 _ rfl)
          have cx7 : w7.cell? ⟨b5, 7, none⟩ = some (.int .u32 r.sum) := (HB7.out.cell (p := ⟨b5, 7, none⟩) HL5.out).trans (HX5.out 7 _ rfl)
          have cx8 : w7.cell? ⟨b5, 8, none⟩ = some (.int .i64 r.born) := (HB7.out.cell (p := ⟨b5, 8, none⟩) HL5.out).trans (HX5.out 8 _ rfl)
          have hb8 : Below w7.heap.size w7 (w7.alloc (.cells #[.string r.key, .int .i64 r.win, .string r.part, .int .i64 r.fst, .int .i64 r.lst, .int .i64 r.rows, .int .i64 r.size, .int .u32 r.sum, .int .i64 r.born] 57)) := (Below.refl _ _).alloc (Nat.le_refl _) _
          have HN8 := Lib.hid (own_below HN7.out hb8)
          have HD8 := Lib.hid (HD7.out.trans (hb8.mono HD7.out.size))
          have hs8 := HD8.out.size
          have HSRC8 := Lib.hid (ent_src w7 r 57)
          clear hb8
          go_wp2_with (at_builtin; refine wpList_append_own_at _ rfl (.tmp 45) (.tmp 47) 51 rfl wi.drew.heap.size 57 i0 _ 9 88 Try.underlying51 hi hz0 hz1 hz2 rfl (by decide) _ _ _ rfl HN8.out ⟨w7.heap.size, 0, none⟩ 1 1 (EntV.cells r) rfl rfl HSRC8.out (ecells_one _) (by unfold maxLen; omega) (by omega) hs8 ?_)
          intro v9 w9 hown9 hgrow9 hnil9 _
          have HN9 := Lib.hid hown9
          have HD9 := Lib.hid (HD8.out.grown hgrow9 HD8.out.size (fun p hp => (HN8.out.lt p hp).1))
          have HO9 := Lib.hid (own_below HOW.out HD9.out)
          have hs9 := HD9.out.size
          clear hown9 hgrow9 hnil9 hs8
          have hld : (ecells (rs.drop m)).length = (k - m) * 9 := by rw [ecells_len, List.length_drop, HS.out.1]
          have hsum : m + 1 + (k - m) = k + 1 := by omega
          by_cases hcp : cap = m
          · have HNONE := Lib.hid (show ∀ j u, (ecells (rs.drop m))[j]? = some u → w9.cell? ((⟨g, 0, none⟩ : Addr).add j) = some u from fun j u hu => by
              have := (List.getElem?_eq_some_iff.1 hu).1
              omega)
            go_wp2_with (at_builtin; refine wpList_append_own_at _ rfl (.tmp 49) (.tmp 52) 51 rfl wi.drew.heap.size 57 i0 _ 9 88 Try.underlying51 hi hz0 hz1 hz2 rfl (by decide) _ _ _ rfl HN9.out ⟨g, 0, none⟩ (k - m) 0 (ecells (rs.drop m)) rfl hld HNONE.out (ecells_all _) (by unfold maxLen; omega) (by omega) hs9 ?_)
            intro v10 w10 hown10 hgrow10 _ _
            have HB10 := Lib.hid (HBW.out.trans ((HBI3.out.trans ((HD9.out.grown hgrow10 HD9.out.size (fun p hp => (HN9.out.lt p hp).1)).mono HBI3.out.size)).mono HBW.out.size))
            have hown11 : w10.ownsRow w.heap.size 57 9 v10 (k + 1) (ecells (ins1 rs m r)) := by
              have h := hown10.mono (base' := w.heap.size) (Nat.le_trans HBW.out.size HBI3.out.size)
              try rw [hsum] at h
              have e : ecells (ins1 rs m r) = ecells [] ++ (ecells (rs.take m) ++ (EntV.cells r ++ ecells (rs.drop m))) := by
                unfold ins1
                rw [ecells_app, ecells_app]
                simp [ecells]
              rw [e]; exact h
            obtain ⟨g2, cap2, rfl, hcap3⟩ : ∃ g2 cap2, v10 = .slice (some ⟨g2, 0, none⟩) (k + 1) cap2 ∧ k + 1 ≤ cap2 ∧ cap2 ≤ 9223372036854775807 := by
              rcases hown11.2 with ⟨_, h0⟩ | ⟨g2, cap2, cur, he, _, _, h4, h5, _⟩
              · omega
              · exact ⟨g2, cap2, he, h4, by unfold maxLen at h5; exact h5⟩
            have HO10 := Lib.hid hown11
            have HS10 := Lib.hid (show (ins1 rs m r).length = k + 1 ∧ (∀ x ∈ ins1 rs m r, x ∈ l) ∧ Stable ltE (atE l) (atE (ins1 rs m r)) (k + 1) from by
              have er : atE l k = r := HR.out.symm
              refine ⟨by rw [ins1_len rs m r (by rw [HS.out.1]; exact hmk), HS.out.1], fun x hx => ?_, ?_⟩
              · rcases ins1_mem hx with h | h
                · exact HS.out.2.1 x h
                · rw [h, HR.out]; exact ent_mem (by rw [HL.out]; exact hkn)
              · have h := stable_ins (f := atE l) (m := m) HS.out.1 HS.out.2.2 hmk (by rw [er]; exact HLO.out) (by rw [er]; exact HGE.out)
                rw [er] at h
                exact h)
            clear hown10 hgrow10 hown11
            go_wp2_with fail
            go_roundw
            case rel => exact ⟨k + 1, g2, cap2, ins1 rs m r, by omega, hcap3.1, hcap3.2, rfl, by go_num, HO10, HS10, HB10⟩
            case measure => simp [intOf]; omega
          · go_wp2_with (at_builtin; refine wpList_append_own_at _ rfl (.tmp 49) (.tmp 52) 51 rfl wi.drew.heap.size 57 i0 _ 9 88 Try.underlying51 hi hz0 hz1 hz2 rfl (by decide) _ _ _ rfl HN9.out ⟨g, m * 9, none⟩ (k - m) (cap - m) (ecells (rs.drop m)) rfl hld (esrc_drop HO9.out (by rw [HS.out.1]; exact hmk)) (ecells_all _) (by unfold maxLen; omega) (by omega) hs9 ?_)
            intro v10 w10 hown10 hgrow10 _ _
            have HB10 := Lib.hid (HBW.out.trans ((HBI3.out.trans ((HD9.out.grown hgrow10 HD9.out.size (fun p hp => (HN9.out.lt p hp).1)).mono HBI3.out.size)).mono HBW.out.size))
            have hown11 : w10.ownsRow w.heap.size 57 9 v10 (k + 1) (ecells (ins1 rs m r)) := by
              have h := hown10.mono (base' := w.heap.size) (Nat.le_trans HBW.out.size HBI3.out.size)
              try rw [hsum] at h
              have e : ecells (ins1 rs m r) = ecells [] ++ (ecells (rs.take m) ++ (EntV.cells r ++ ecells (rs.drop m))) := by
                unfold ins1
                rw [ecells_app, ecells_app]
                simp [ecells]
              rw [e]; exact h
            obtain ⟨g2, cap2, rfl, hcap3⟩ : ∃ g2 cap2, v10 = .slice (some ⟨g2, 0, none⟩) (k + 1) cap2 ∧ k + 1 ≤ cap2 ∧ cap2 ≤ 9223372036854775807 := by
              rcases hown11.2 with ⟨_, h0⟩ | ⟨g2, cap2, cur, he, _, _, h4, h5, _⟩
              · omega
              · exact ⟨g2, cap2, he, h4, by unfold maxLen at h5; exact h5⟩
            have HO10 := Lib.hid hown11
            have HS10 := Lib.hid (show (ins1 rs m r).length = k + 1 ∧ (∀ x ∈ ins1 rs m r, x ∈ l) ∧ Stable ltE (atE l) (atE (ins1 rs m r)) (k + 1) from by
              have er : atE l k = r := HR.out.symm
              refine ⟨by rw [ins1_len rs m r (by rw [HS.out.1]; exact hmk), HS.out.1], fun x hx => ?_, ?_⟩
              · rcases ins1_mem hx with h | h
                · exact HS.out.2.1 x h
                · rw [h, HR.out]; exact ent_mem (by rw [HL.out]; exact hkn)
              · have h := stable_ins (f := atE l) (m := m) HS.out.1 HS.out.2.2 hmk (by rw [er]; exact HLO.out) (by rw [er]; exact HGE.out)
                rw [er] at h
                exact h)
            clear hown10 hgrow10 hown11
            go_wp2_with fail
            go_roundw
            case rel => exact ⟨k + 1, g2, cap2, ins1 rs m r, by omega, hcap3.1, hcap3.2, rfl, by go_num, HO10, HS10, HB10⟩
            case measure => simp [intOf]; omega
    · obtain rfl : k = n := by omega
      clear hkn
      have hno := enines_own HS.out.1 HO.out
      have HN := Lib.hid hno.1
      have HG := Lib.hid hno.2.2.1
      have HSP := Lib.hid (show rs.Pairwise (fun x y => ltE x y = true) from by
        rw [← fromF_self HS.out.1]
        exact fromF_pair (stable_strict HS.out.2.2 (fun i j hi hj hne => unlike_of HK.out i j (by rw [HL.out]; exact hi) (by rw [HL.out]; exact hj) hne)))
      have HSM := Lib.hid (show ∀ x, x ∈ rs ↔ x ∈ l from by
        rw [← fromF_self HS.out.1]
        exact fromF_mem HL.out HS.out.2.2)
      have HRS := Lib.hid (show ∀ i, i < k → 1 ≤ (atE rs i).rows ∧ (atE rs i).rows ≤ 1099511627776 from fun i hi => HRR.out _ ((HSM.out _).1 (atE_mem (by rw [HS.out.1]; exact hi))))
      have HSL := Lib.hid HS.out.1
      clear hno HO HS HO1 HB1
      go_wp2_with fail
      go_loopw [12, 13, 14, 15, 16, 17, 57] (fun s12 s13 s14 s15 s16 s17 s57 wq => ∃ i : Nat, i ≤ k ∧ s57 = .int .i64 (i : Int) ∧ Hid (rcho small most rs = rcho small most (rs.drop i)) ∧ Hid (Below wr.heap.size wr wq)) (fun _ _ _ _ _ _ s57 _ => k - (intOf s57).toNat)
      case atStart => exact ⟨0, by omega, rfl, Lib.hid rfl, Lib.hid (Below.refl _ _)⟩
      case round =>
        obtain ⟨i, hik, rfl, HC, HBI⟩ := hrel
        rename World => wi
        by_cases hlt : i < k
        · have hlti : (i : Int) < (k : Int) := by omega
          obtain ⟨f, hf⟩ : ∃ f, f = atE rs i := ⟨_, rfl⟩
          have hfr := HRS.out i hlt
          rw [← hf] at hfr
          have HF := Lib.hid hf
          have HC1 := Lib.hid (rcho_at (small := small) (most := most) (s := rs) (i := i) (by rw [HSL.out]; exact hlt))
          clear hf
          go_wp2_with fail
          go_loopw [13, 14, 15, 16, 17] (fun s13 s14 s15 s16 s17 wk => ∃ q : Nat, i + 1 ≤ q ∧ q ≤ k ∧ s13 = .int .i64 (q : Int) ∧ Hid (rfirst f small most (rs.drop (i + 1)) = rfirst f small most (rs.drop q)) ∧ Hid (Below wr.heap.size wr wk)) (fun s13 _ _ _ _ _ => k - (intOf s13).toNat)
          case atStart => exact ⟨i + 1, by omega, by omega, by go_num, Lib.hid rfl, HBI⟩
          case round =>
            obtain ⟨q, hiq, hqk, rfl, HQ, HBK⟩ := hrel
            rename World => wk
            by_cases hqlt : q < k
            · have hqlti : (q : Int) < (k : Int) := by omega
              obtain ⟨y, hy⟩ : ∃ y, y = atE rs q := ⟨_, rfl⟩
              have hyr := HRS.out q hqlt
              rw [← hy] at hyr
              have HY := Lib.hid hy
              have HQ1 := Lib.hid (rfirst_at (f := f) (small := small) (most := most) (s := rs) (k := q) (by rw [HSL.out]; exact hqlt))
              clear hy
              have hltg : g < wk.heap.size := Nat.lt_of_lt_of_le HG.out HBK.out.size
              have cf0 : wk.cell? ⟨g, i * 9, none⟩ = some (.string f.key) := (HBK.out.cell (p := ⟨g, i * 9, none⟩) HG.out).trans (HN.out.at' i hlt 0 _ (by rw [← HF.out]; rfl))
              have cf1 : wk.cell? ⟨g, i * 9 + 1, none⟩ = some (.int .i64 f.win) := (HBK.out.cell (p := ⟨g, i * 9 + 1, none⟩) HG.out).trans (HN.out.at' i hlt 1 _ (by rw [← HF.out]; rfl))
              have cf2 : wk.cell? ⟨g, i * 9 + 2, none⟩ = some (.string f.part) := (HBK.out.cell (p := ⟨g, i * 9 + 2, none⟩) HG.out).trans (HN.out.at' i hlt 2 _ (by rw [← HF.out]; rfl))
              have cf3 : wk.cell? ⟨g, i * 9 + 3, none⟩ = some (.int .i64 f.fst) := (HBK.out.cell (p := ⟨g, i * 9 + 3, none⟩) HG.out).trans (HN.out.at' i hlt 3 _ (by rw [← HF.out]; rfl))
              have cf4 : wk.cell? ⟨g, i * 9 + 4, none⟩ = some (.int .i64 f.lst) := (HBK.out.cell (p := ⟨g, i * 9 + 4, none⟩) HG.out).trans (HN.out.at' i hlt 4 _ (by rw [← HF.out]; rfl))
              have cf5 : wk.cell? ⟨g, i * 9 + 5, none⟩ = some (.int .i64 f.rows) := (HBK.out.cell (p := ⟨g, i * 9 + 5, none⟩) HG.out).trans (HN.out.at' i hlt 5 _ (by rw [← HF.out]; rfl))
              have cf6 : wk.cell? ⟨g, i * 9 + 6, none⟩ = some (.int .i64 f.size) := (HBK.out.cell (p := ⟨g, i * 9 + 6, none⟩) HG.out).trans (HN.out.at' i hlt 6 _ (by rw [← HF.out]; rfl))
              have cf7 : wk.cell? ⟨g, i * 9 + 7, none⟩ = some (.int .u32 f.sum) := (HBK.out.cell (p := ⟨g, i * 9 + 7, none⟩) HG.out).trans (HN.out.at' i hlt 7 _ (by rw [← HF.out]; rfl))
              have cf8 : wk.cell? ⟨g, i * 9 + 8, none⟩ = some (.int .i64 f.born) := (HBK.out.cell (p := ⟨g, i * 9 + 8, none⟩) HG.out).trans (HN.out.at' i hlt 8 _ (by rw [← HF.out]; rfl))
              have cy0 : wk.cell? ⟨g, q * 9, none⟩ = some (.string y.key) := (HBK.out.cell (p := ⟨g, q * 9, none⟩) HG.out).trans (HN.out.at' q hqlt 0 _ (by rw [← HY.out]; rfl))
              have cy1 : wk.cell? ⟨g, q * 9 + 1, none⟩ = some (.int .i64 y.win) := (HBK.out.cell (p := ⟨g, q * 9 + 1, none⟩) HG.out).trans (HN.out.at' q hqlt 1 _ (by rw [← HY.out]; rfl))
              have cy2 : wk.cell? ⟨g, q * 9 + 2, none⟩ = some (.string y.part) := (HBK.out.cell (p := ⟨g, q * 9 + 2, none⟩) HG.out).trans (HN.out.at' q hqlt 2 _ (by rw [← HY.out]; rfl))
              have cy3 : wk.cell? ⟨g, q * 9 + 3, none⟩ = some (.int .i64 y.fst) := (HBK.out.cell (p := ⟨g, q * 9 + 3, none⟩) HG.out).trans (HN.out.at' q hqlt 3 _ (by rw [← HY.out]; rfl))
              have cy4 : wk.cell? ⟨g, q * 9 + 4, none⟩ = some (.int .i64 y.lst) := (HBK.out.cell (p := ⟨g, q * 9 + 4, none⟩) HG.out).trans (HN.out.at' q hqlt 4 _ (by rw [← HY.out]; rfl))
              have cy5 : wk.cell? ⟨g, q * 9 + 5, none⟩ = some (.int .i64 y.rows) := (HBK.out.cell (p := ⟨g, q * 9 + 5, none⟩) HG.out).trans (HN.out.at' q hqlt 5 _ (by rw [← HY.out]; rfl))
              have cy6 : wk.cell? ⟨g, q * 9 + 6, none⟩ = some (.int .i64 y.size) := (HBK.out.cell (p := ⟨g, q * 9 + 6, none⟩) HG.out).trans (HN.out.at' q hqlt 6 _ (by rw [← HY.out]; rfl))
              have cy7 : wk.cell? ⟨g, q * 9 + 7, none⟩ = some (.int .u32 y.sum) := (HBK.out.cell (p := ⟨g, q * 9 + 7, none⟩) HG.out).trans (HN.out.at' q hqlt 7 _ (by rw [← HY.out]; rfl))
              have cy8 : wk.cell? ⟨g, q * 9 + 8, none⟩ = some (.int .i64 y.born) := (HBK.out.cell (p := ⟨g, q * 9 + 8, none⟩) HG.out).trans (HN.out.at' q hqlt 8 _ (by rw [← HY.out]; rfl))
              by_cases ht : togB f y small most = true
              · have hmost : f.rows + y.rows ≤ most := by
                  have h := ht
                  unfold togB at h
                  simp only [Bool.and_eq_true, decide_eq_true_eq] at h
                  omega
                have HT := Lib.hid ht
                clear ht
                go_wp2_with fail
                go_region_held3 (fun w' => w'.cell? ⟨g, i * 9, none⟩ = some (.string f.key) ∧ w'.cell? ⟨g, i * 9 + 1, none⟩ = some (.int .i64 f.win) ∧ w'.cell? ⟨g, i * 9 + 2, none⟩ = some (.string f.part) ∧ w'.cell? ⟨g, i * 9 + 3, none⟩ = some (.int .i64 f.fst) ∧ w'.cell? ⟨g, i * 9 + 4, none⟩ = some (.int .i64 f.lst) ∧ w'.cell? ⟨g, i * 9 + 5, none⟩ = some (.int .i64 f.rows) ∧ w'.cell? ⟨g, i * 9 + 6, none⟩ = some (.int .i64 f.size) ∧ w'.cell? ⟨g, i * 9 + 7, none⟩ = some (.int .u32 f.sum) ∧ w'.cell? ⟨g, i * 9 + 8, none⟩ = some (.int .i64 f.born) ∧ w'.cell? ⟨g, q * 9, none⟩ = some (.string y.key) ∧ w'.cell? ⟨g, q * 9 + 1, none⟩ = some (.int .i64 y.win) ∧ w'.cell? ⟨g, q * 9 + 2, none⟩ = some (.string y.part) ∧ w'.cell? ⟨g, q * 9 + 3, none⟩ = some (.int .i64 y.fst) ∧ w'.cell? ⟨g, q * 9 + 4, none⟩ = some (.int .i64 y.lst) ∧ w'.cell? ⟨g, q * 9 + 5, none⟩ = some (.int .i64 y.rows) ∧ w'.cell? ⟨g, q * 9 + 6, none⟩ = some (.int .i64 y.size) ∧ w'.cell? ⟨g, q * 9 + 7, none⟩ = some (.int .u32 y.sum) ∧ w'.cell? ⟨g, q * 9 + 8, none⟩ = some (.int .i64 y.born)) (first | go_keep | exact ⟨(hbq.cell (p := ⟨g, i * 9, none⟩) hltg).trans cf0, (hbq.cell (p := ⟨g, i * 9 + 1, none⟩) hltg).trans cf1, (hbq.cell (p := ⟨g, i * 9 + 2, none⟩) hltg).trans cf2, (hbq.cell (p := ⟨g, i * 9 + 3, none⟩) hltg).trans cf3, (hbq.cell (p := ⟨g, i * 9 + 4, none⟩) hltg).trans cf4, (hbq.cell (p := ⟨g, i * 9 + 5, none⟩) hltg).trans cf5, (hbq.cell (p := ⟨g, i * 9 + 6, none⟩) hltg).trans cf6, (hbq.cell (p := ⟨g, i * 9 + 7, none⟩) hltg).trans cf7, (hbq.cell (p := ⟨g, i * 9 + 8, none⟩) hltg).trans cf8, (hbq.cell (p := ⟨g, q * 9, none⟩) hltg).trans cy0, (hbq.cell (p := ⟨g, q * 9 + 1, none⟩) hltg).trans cy1, (hbq.cell (p := ⟨g, q * 9 + 2, none⟩) hltg).trans cy2, (hbq.cell (p := ⟨g, q * 9 + 3, none⟩) hltg).trans cy3, (hbq.cell (p := ⟨g, q * 9 + 4, none⟩) hltg).trans cy4, (hbq.cell (p := ⟨g, q * 9 + 5, none⟩) hltg).trans cy5, (hbq.cell (p := ⟨g, q * 9 + 6, none⟩) hltg).trans cy6, (hbq.cell (p := ⟨g, q * 9 + 7, none⟩) hltg).trans cy7, (hbq.cell (p := ⟨g, q * 9 + 8, none⟩) hltg).trans cy8⟩) (first | (go_at_call 26; refine (togB_any f y hfr hm _).mono ?_; rintro e w3 ⟨he3, hbq⟩; rw [HT.out] at he3; subst he3))
                have HB3 := Lib.hid (HBK.out.drew.trans (hbq.mono HBK.out.size))
                clear cf0 cf1 cf2 cf3 cf4 cf5 cf6 cf7 cf8 cy0 cy1 cy2 cy3 cy4 cy5 cy6 cy7 cy8 hbq
                have hltg3 : g < w3.heap.size := Nat.lt_of_lt_of_le HG.out HB3.out.size
                have cf0 : w3.cell? ⟨g, i * 9, none⟩ = some (.string f.key) := (HB3.out.cell (p := ⟨g, i * 9, none⟩) HG.out).trans (HN.out.at' i hlt 0 _ (by rw [← HF.out]; rfl))
                have cf1 : w3.cell? ⟨g, i * 9 + 1, none⟩ = some (.int .i64 f.win) := (HB3.out.cell (p := ⟨g, i * 9 + 1, none⟩) HG.out).trans (HN.out.at' i hlt 1 _ (by rw [← HF.out]; rfl))
                have cf2 : w3.cell? ⟨g, i * 9 + 2, none⟩ = some (.string f.part) := (HB3.out.cell (p := ⟨g, i * 9 + 2, none⟩) HG.out).trans (HN.out.at' i hlt 2 _ (by rw [← HF.out]; rfl))
                have cf3 : w3.cell? ⟨g, i * 9 + 3, none⟩ = some (.int .i64 f.fst) := (HB3.out.cell (p := ⟨g, i * 9 + 3, none⟩) HG.out).trans (HN.out.at' i hlt 3 _ (by rw [← HF.out]; rfl))
                have cf4 : w3.cell? ⟨g, i * 9 + 4, none⟩ = some (.int .i64 f.lst) := (HB3.out.cell (p := ⟨g, i * 9 + 4, none⟩) HG.out).trans (HN.out.at' i hlt 4 _ (by rw [← HF.out]; rfl))
                have cf5 : w3.cell? ⟨g, i * 9 + 5, none⟩ = some (.int .i64 f.rows) := (HB3.out.cell (p := ⟨g, i * 9 + 5, none⟩) HG.out).trans (HN.out.at' i hlt 5 _ (by rw [← HF.out]; rfl))
                have cf6 : w3.cell? ⟨g, i * 9 + 6, none⟩ = some (.int .i64 f.size) := (HB3.out.cell (p := ⟨g, i * 9 + 6, none⟩) HG.out).trans (HN.out.at' i hlt 6 _ (by rw [← HF.out]; rfl))
                have cf7 : w3.cell? ⟨g, i * 9 + 7, none⟩ = some (.int .u32 f.sum) := (HB3.out.cell (p := ⟨g, i * 9 + 7, none⟩) HG.out).trans (HN.out.at' i hlt 7 _ (by rw [← HF.out]; rfl))
                have cf8 : w3.cell? ⟨g, i * 9 + 8, none⟩ = some (.int .i64 f.born) := (HB3.out.cell (p := ⟨g, i * 9 + 8, none⟩) HG.out).trans (HN.out.at' i hlt 8 _ (by rw [← HF.out]; rfl))
                have cy0 : w3.cell? ⟨g, q * 9, none⟩ = some (.string y.key) := (HB3.out.cell (p := ⟨g, q * 9, none⟩) HG.out).trans (HN.out.at' q hqlt 0 _ (by rw [← HY.out]; rfl))
                have cy1 : w3.cell? ⟨g, q * 9 + 1, none⟩ = some (.int .i64 y.win) := (HB3.out.cell (p := ⟨g, q * 9 + 1, none⟩) HG.out).trans (HN.out.at' q hqlt 1 _ (by rw [← HY.out]; rfl))
                have cy2 : w3.cell? ⟨g, q * 9 + 2, none⟩ = some (.string y.part) := (HB3.out.cell (p := ⟨g, q * 9 + 2, none⟩) HG.out).trans (HN.out.at' q hqlt 2 _ (by rw [← HY.out]; rfl))
                have cy3 : w3.cell? ⟨g, q * 9 + 3, none⟩ = some (.int .i64 y.fst) := (HB3.out.cell (p := ⟨g, q * 9 + 3, none⟩) HG.out).trans (HN.out.at' q hqlt 3 _ (by rw [← HY.out]; rfl))
                have cy4 : w3.cell? ⟨g, q * 9 + 4, none⟩ = some (.int .i64 y.lst) := (HB3.out.cell (p := ⟨g, q * 9 + 4, none⟩) HG.out).trans (HN.out.at' q hqlt 4 _ (by rw [← HY.out]; rfl))
                have cy5 : w3.cell? ⟨g, q * 9 + 5, none⟩ = some (.int .i64 y.rows) := (HB3.out.cell (p := ⟨g, q * 9 + 5, none⟩) HG.out).trans (HN.out.at' q hqlt 5 _ (by rw [← HY.out]; rfl))
                have cy6 : w3.cell? ⟨g, q * 9 + 6, none⟩ = some (.int .i64 y.size) := (HB3.out.cell (p := ⟨g, q * 9 + 6, none⟩) HG.out).trans (HN.out.at' q hqlt 6 _ (by rw [← HY.out]; rfl))
                have cy7 : w3.cell? ⟨g, q * 9 + 7, none⟩ = some (.int .u32 y.sum) := (HB3.out.cell (p := ⟨g, q * 9 + 7, none⟩) HG.out).trans (HN.out.at' q hqlt 7 _ (by rw [← HY.out]; rfl))
                have cy8 : w3.cell? ⟨g, q * 9 + 8, none⟩ = some (.int .i64 y.born) := (HB3.out.cell (p := ⟨g, q * 9 + 8, none⟩) HG.out).trans (HN.out.at' q hqlt 8 _ (by rw [← HY.out]; rfl))
                have hw3 : IntKind.i64.wrap (f.rows + y.rows) = f.rows + y.rows := by rw [IntWalk.i64_in _ (by omega)]
                go_wp2_with fail
                go_region
                go_wp2_with fail
                go_region
                go_wp2_with fail
                have hlit : (w3.alloc (.cells #[.string f.key, .string y.key] 9)).ownsRow w3.heap.size 9 1 (.slice (some ⟨w3.heap.size, 0, none⟩) 2 2) 2 (strs [f.key, y.key]) := World.ownsRow_lit (base := w3.heap.size) (e := 9) (size := 1) w3 #[.string f.key, .string y.key] 2 (Nat.le_refl _) (by unfold maxLen; omega) rfl
                have hbl : Below w3.heap.size w3 (w3.alloc (.cells #[.string f.key, .string y.key] 9)) := (Below.refl _ _).alloc (Nat.le_refl _) _
                have HLIT := Lib.hid (own_below hlit (Below.refl _ _).drew.drew)
                have HBL := Lib.hid (HB3.out.trans (hbl.drew.drew.mono HB3.out.size))
                have HBL3 := Lib.hid hbl.drew.drew
                have HQE := Lib.hid (show rcho small most rs = f.key :: y.key :: rtog f small most (f.rows + y.rows) (rs.drop (q + 1)) from by
                  rw [HC.out, HC1.out, show rs.getD i ent0 = f from HF.out.symm, HQ.out, HQ1.out, show rs.getD q ent0 = y from HY.out.symm, if_pos HT.out, if_neg (List.cons_ne_nil _ _)])
                obtain ⟨i1, hi1, hy0, hy1, hy2⟩ := info_parts info_str
                clear hlit hbl cf0 cf1 cf2 cf3 cf4 cf5 cf6 cf7 cf8 cy0 cy1 cy2 cy3 cy4 cy5 cy6 cy7 cy8 hltg3
                go_loopw [14, 15, 16, 17] (fun s14 s15 s16 s17 wj => ∃ (j : Nat) (r : Int) (ks : List ByteArray), q + 1 ≤ j ∧ j ≤ k ∧ (1 ≤ r ∧ r ≤ most) ∧ s15 = .int .i64 r ∧ s16 = .int .i64 (j : Int) ∧ ks.length ≤ j ∧ Hid (wj.ownsRow w3.heap.size 9 1 s14 ks.length (strs ks)) ∧ Hid (f.key :: y.key :: rtog f small most (f.rows + y.rows) (rs.drop (q + 1)) = ks ++ rtog f small most r (rs.drop j)) ∧ Hid (Below wr.heap.size wr wj) ∧ Hid (w3.heap.size ≤ wj.heap.size)) (fun _ _ s16 _ _ => k - (intOf s16).toNat)
                case atStart => exact ⟨q + 1, f.rows + y.rows, [f.key, y.key], by omega, by omega, ⟨by omega, hmost⟩, rfl, by go_num, by simp; omega, HLIT, Lib.hid rfl, HBL, Lib.hid HBL3.out.size⟩
                case round =>
                  obtain ⟨j, r, ks, hqj, hjk, hrr, rfl, rfl, hks, HO, HTJ, HBJ, HS3⟩ := hrel
                  rename World => wj
                  by_cases hjlt : j < k
                  · have hjlti : (j : Int) < (k : Int) := by omega
                    obtain ⟨x, hx⟩ : ∃ x, x = atE rs j := ⟨_, rfl⟩
                    have hxr := HRS.out j hjlt
                    rw [← hx] at hxr
                    have HX := Lib.hid hx
                    have HJ1 := Lib.hid (rtog_at (f := f) (small := small) (most := most) (r := r) (s := rs) (k := j) (by rw [HSL.out]; exact hjlt))
                    rw [show rs.getD j ent0 = x from hx.symm] at HJ1
                    clear hx
                    have cx0 : wj.cell? ⟨g, j * 9, none⟩ = some (.string x.key) := (HBJ.out.cell (p := ⟨g, j * 9, none⟩) HG.out).trans (HN.out.at' j hjlt 0 _ (by rw [← HX.out]; rfl))
                    have cx1 : wj.cell? ⟨g, j * 9 + 1, none⟩ = some (.int .i64 x.win) := (HBJ.out.cell (p := ⟨g, j * 9 + 1, none⟩) HG.out).trans (HN.out.at' j hjlt 1 _ (by rw [← HX.out]; rfl))
                    have cx2 : wj.cell? ⟨g, j * 9 + 2, none⟩ = some (.string x.part) := (HBJ.out.cell (p := ⟨g, j * 9 + 2, none⟩) HG.out).trans (HN.out.at' j hjlt 2 _ (by rw [← HX.out]; rfl))
                    have cx3 : wj.cell? ⟨g, j * 9 + 3, none⟩ = some (.int .i64 x.fst) := (HBJ.out.cell (p := ⟨g, j * 9 + 3, none⟩) HG.out).trans (HN.out.at' j hjlt 3 _ (by rw [← HX.out]; rfl))
                    have cx4 : wj.cell? ⟨g, j * 9 + 4, none⟩ = some (.int .i64 x.lst) := (HBJ.out.cell (p := ⟨g, j * 9 + 4, none⟩) HG.out).trans (HN.out.at' j hjlt 4 _ (by rw [← HX.out]; rfl))
                    have cx5 : wj.cell? ⟨g, j * 9 + 5, none⟩ = some (.int .i64 x.rows) := (HBJ.out.cell (p := ⟨g, j * 9 + 5, none⟩) HG.out).trans (HN.out.at' j hjlt 5 _ (by rw [← HX.out]; rfl))
                    have cx6 : wj.cell? ⟨g, j * 9 + 6, none⟩ = some (.int .i64 x.size) := (HBJ.out.cell (p := ⟨g, j * 9 + 6, none⟩) HG.out).trans (HN.out.at' j hjlt 6 _ (by rw [← HX.out]; rfl))
                    have cx7 : wj.cell? ⟨g, j * 9 + 7, none⟩ = some (.int .u32 x.sum) := (HBJ.out.cell (p := ⟨g, j * 9 + 7, none⟩) HG.out).trans (HN.out.at' j hjlt 7 _ (by rw [← HX.out]; rfl))
                    have cx8 : wj.cell? ⟨g, j * 9 + 8, none⟩ = some (.int .i64 x.born) := (HBJ.out.cell (p := ⟨g, j * 9 + 8, none⟩) HG.out).trans (HN.out.at' j hjlt 8 _ (by rw [← HX.out]; rfl))
                    obtain ⟨b5, hb5⟩ : ∃ b5, b5 = wj.heap.size := ⟨_, rfl⟩
                    obtain ⟨w5, hw5⟩ : ∃ w5, w5 = wj.alloc (.cells #[.string x.key, .int .i64 x.win, .string x.part, .int .i64 x.fst, .int .i64 x.lst, .int .i64 x.rows, .int .i64 x.size, .int .u32 x.sum, .int .i64 x.born] 57) := ⟨_, rfl⟩
                    have hb5w : Below wj.heap.size wj w5 := by rw [hw5]; exact (Below.refl _ _).alloc (Nat.le_refl _) _
                    have hx5 : ∀ j u, x.cells[j]? = some u → w5.cell? ⟨b5, j, none⟩ = some u := by
                      intro j u hu
                      have := ent_src wj x 57 j u hu
                      rw [Addr.add_mid, Nat.zero_add] at this
                      rw [hw5, hb5]; exact this
                    have hl5 : b5 < w5.heap.size := by rw [hb5, hw5]; exact (Array.getElem?_eq_some_iff.1 (heap_alloc_new wj _)).1
                    have HX5 := Lib.hid hx5
                    have HW5 := Lib.hid hw5
                    have HB5 := Lib.hid hb5
                    have HL5 := Lib.hid hl5
                    have HBX := Lib.hid (HBJ.out.trans (hb5w.mono HBJ.out.size))
                    have HBX5 := Lib.hid HBX.out.drew
                    have HOX5 := Lib.hid (own_below (own_below HO.out hb5w) (Below.refl _ _).drew)
                    have HS5 := Lib.hid (show w3.heap.size ≤ w5.drew.heap.size from Nat.le_trans HS3.out hb5w.size)
                    have HNE := Lib.hid (show some b5 ≠ u14.ownBlock from fun e => by
                      have h1 := (HO.out.lt b5 e.symm).2
                      rw [hb5] at h1
                      exact Nat.lt_irrefl _ h1)
                    clear hx5 hw5 hb5 hl5
                    go_wp2_with fail
                    rw [← HW5.out, ← HB5.out]
                    have x1 : w5.cell? ⟨b5, 1, none⟩ = some (.int .i64 x.win) := HX5.out 1 _ rfl
                    have x2 : w5.cell? ⟨b5, 2, none⟩ = some (.string x.part) := HX5.out 2 _ rfl
                    have x5 : w5.cell? ⟨b5, 5, none⟩ = some (.int .i64 x.rows) := HX5.out 5 _ rfl
                    have cf1 : w5.cell? ⟨g, i * 9 + 1, none⟩ = some (.int .i64 f.win) := (HBX.out.cell (p := ⟨g, i * 9 + 1, none⟩) HG.out).trans (HN.out.at' i hlt 1 _ (by rw [← HF.out]; rfl))
                    have cf2 : w5.cell? ⟨g, i * 9 + 2, none⟩ = some (.string f.part) := (HBX.out.cell (p := ⟨g, i * 9 + 2, none⟩) HG.out).trans (HN.out.at' i hlt 2 _ (by rw [← HF.out]; rfl))
                    have ws5 : IntKind.i64.wrap (most - r) = most - r := by rw [IntWalk.i64_in _ (by omega)]
                    clear cx0 cx1 cx2 cx3 cx4 cx5 cx6 cx7 cx8
                    by_cases h : x.win = f.win
                    case neg =>
                      have z0 : (x.win == f.win) = false := by rw [beq_eq_false_iff_ne]; exact h
                      have HT5 := Lib.hid (show f.key :: y.key :: rtog f small most (f.rows + y.rows) (rs.drop (q + 1)) = ks ++ rtog f small most r (rs.drop (j + 1)) from by
                        rw [HTJ.out, HJ1.out, if_neg (fun e => h e.1)])
                      clear h
                      go_wp2_with fail
                      go_region
                      go_wp2_with fail
                      go_roundw
                      case rel => exact ⟨j + 1, r, ks, by omega, by omega, hrr, rfl, by go_num, by omega, HOX5, HT5, HBX5, HS5⟩
                      case measure => simp [intOf]; omega
                    case pos =>
                      have z0 : (x.win == f.win) = true := by rw [h]; simp
                      have HC0 := Lib.hid h
                      clear h
                      by_cases h : x.part = f.part
                      case neg =>
                        have z1 : (x.part.toList == f.part.toList) = false := by rw [beq_eq_false_iff_ne]; exact fun e => h (toList_inj e)
                        have HT5 := Lib.hid (show f.key :: y.key :: rtog f small most (f.rows + y.rows) (rs.drop (q + 1)) = ks ++ rtog f small most r (rs.drop (j + 1)) from by
                          rw [HTJ.out, HJ1.out, if_neg (fun e => h e.2.1)])
                        clear h
                        go_wp2_with fail
                        go_region
                        go_wp2_with fail
                        go_roundw
                        case rel => exact ⟨j + 1, r, ks, by omega, by omega, hrr, rfl, by go_num, by omega, HOX5, HT5, HBX5, HS5⟩
                        case measure => simp [intOf]; omega
                      case pos =>
                        have z1 : (x.part.toList == f.part.toList) = true := by rw [h]; simp
                        have HC1x := Lib.hid h
                        clear h
                        by_cases h : x.rows < small
                        case neg =>
                          have z2 : decide (x.rows < small) = false := by exact decide_eq_false h
                          have HT5 := Lib.hid (show f.key :: y.key :: rtog f small most (f.rows + y.rows) (rs.drop (q + 1)) = ks ++ rtog f small most r (rs.drop (j + 1)) from by
                            rw [HTJ.out, HJ1.out, if_neg (fun e => h e.2.2.1)])
                          clear h
                          go_wp2_with fail
                          go_region
                          go_wp2_with fail
                          go_roundw
                          case rel => exact ⟨j + 1, r, ks, by omega, by omega, hrr, rfl, by go_num, by omega, HOX5, HT5, HBX5, HS5⟩
                          case measure => simp [intOf]; omega
                        case pos =>
                          have z2 : decide (x.rows < small) = true := by exact decide_eq_true h
                          have HC2 := Lib.hid h
                          clear h
                          by_cases h : x.rows ≤ most - r
                          case neg =>
                            have z3 : decide (x.rows ≤ most - r) = false := by exact decide_eq_false h
                            have HT5 := Lib.hid (show f.key :: y.key :: rtog f small most (f.rows + y.rows) (rs.drop (q + 1)) = ks ++ rtog f small most r (rs.drop (j + 1)) from by
                              rw [HTJ.out, HJ1.out, if_neg (fun e => h e.2.2.2)])
                            clear h
                            go_wp2_with fail
                            go_region
                            go_wp2_with fail
                            go_roundw
                            case rel => exact ⟨j + 1, r, ks, by omega, by omega, hrr, rfl, by go_num, by omega, HOX5, HT5, HBX5, HS5⟩
                            case measure => simp [intOf]; omega
                          case pos =>
                            have z3 : decide (x.rows ≤ most - r) = true := by exact decide_eq_true h
                            have HC3 := Lib.hid h
                            have hq4 := h; clear h
                            have HT5 := Lib.hid (show f.key :: y.key :: rtog f small most (f.rows + y.rows) (rs.drop (q + 1)) = (ks ++ [x.key]) ++ rtog f small most (r + x.rows) (rs.drop (j + 1)) from by
                              rw [HTJ.out, HJ1.out, if_pos ⟨HC0.out, HC1x.out, HC2.out, HC3.out⟩, List.append_assoc]; rfl)
                            go_wp2_with fail
                            go_region
                            have hb6 : Below w5.drew.heap.size w5.drew (w5.drew.alloc (.cells #[.string x.key] 9)) := (Below.refl _ _).alloc (Nat.le_refl _) _
                            have HO6 := Lib.hid (own_below HOX5.out hb6)
                            have HB6 := Lib.hid (HBX5.out.trans (hb6.mono HBX5.out.size))
                            have hs6 : w3.heap.size ≤ (w5.drew.alloc (.cells #[.string x.key] 9)).heap.size := Nat.le_trans HS3.out (Nat.le_trans hb5w.size hb6.size)
                            have HSRC := Lib.hid (one_srcE w5.drew (.string x.key) 9)
                            have x6 : (w5.drew.alloc (.cells #[.string x.key] 9)).cell? ⟨b5, 5, none⟩ = some (.int .i64 x.rows) := (hb6.cell (p := ⟨b5, 5, none⟩) HL5.out).trans (HX5.out 5 _ rfl)
                            have HX6 := Lib.hid x6
                            have x0 : w5.cell? ⟨b5, 0, none⟩ = some (.string x.key) := HX5.out 0 _ rfl
                            clear hb6 x6
                            go_wp2_with (at_builtin; refine wpList_append_own_at _ rfl (.tmp 146) (.tmp 149) 53 rfl w3.heap.size 9 i1 _ 1 16 Try.underlying53 hi1 hy0 hy1 hy2 rfl (by decide) _ _ _ rfl HO6.out ⟨w5.heap.size, 0, none⟩ 1 1 [.string x.key] rfl rfl HSRC.out (by intro u hu; rw [List.mem_singleton] at hu; rw [hu]; rfl) (by unfold maxLen; omega) (by omega) hs6 ?_)
                            intro v7 w7 hown7 hgrow7 _ _
                            have HO7 := Lib.hid (show w7.ownsRow w3.heap.size 9 1 v7 (ks ++ [x.key]).length (strs (ks ++ [x.key])) from by rw [strs_app, List.length_append]; exact hown7)
                            have HB7 := Lib.hid (HB6.out.grown hgrow7 HB6.out.size (fun p hp => Nat.le_trans HB3.out.size (HO6.out.lt p hp).1))
                            have HS7 := Lib.hid (Nat.le_trans hs6 hgrow7.size)
                            have x7 : w7.cell? ⟨b5, 5, none⟩ = some (.int .i64 x.rows) := hgrow7.cell HX6.out (fun e => HNE.out e)
                            have ws7 : IntKind.i64.wrap (r + x.rows) = r + x.rows := by rw [IntWalk.i64_in _ (by omega)]
                            have hlen7 : (ks ++ [x.key]).length ≤ j + 1 := by rw [List.length_append, List.length_singleton]; omega
                            clear hown7 hgrow7 HX6 hs6
                            go_wp2_with fail
                            go_roundw
                            case rel => exact ⟨j + 1, r + x.rows, ks ++ [x.key], by omega, by omega, ⟨by omega, by omega⟩, rfl, by go_num, hlen7, HO7, HT5, HB7, HS7⟩
                            case measure => simp [intOf]; omega
                  · obtain rfl : j = k := by omega
                    have HE := Lib.hid (show rcho small most rs = ks from by
                      rw [HQE.out, HTJ.out, List.drop_eq_nil_of_le (by rw [HSL.out]; exact Nat.le_refl _)]
                      exact List.append_nil _)
                    go_wp2_with fail
                    go_ret
                    refine ⟨_, rs, rfl, HSP.out, HSM.out, ?_, HB.out.trans (HBJ.out.mono HB.out.size)⟩
                    rw [HE.out]
                    exact HO.out.mono (Nat.le_trans HB.out.size HB3.out.size)
              · rw [Bool.not_eq_true] at ht
                have HT := Lib.hid ht
                clear ht
                go_wp2_with fail
                go_region_held3 (fun w' => w'.cell? ⟨g, i * 9, none⟩ = some (.string f.key) ∧ w'.cell? ⟨g, i * 9 + 1, none⟩ = some (.int .i64 f.win) ∧ w'.cell? ⟨g, i * 9 + 2, none⟩ = some (.string f.part) ∧ w'.cell? ⟨g, i * 9 + 3, none⟩ = some (.int .i64 f.fst) ∧ w'.cell? ⟨g, i * 9 + 4, none⟩ = some (.int .i64 f.lst) ∧ w'.cell? ⟨g, i * 9 + 5, none⟩ = some (.int .i64 f.rows) ∧ w'.cell? ⟨g, i * 9 + 6, none⟩ = some (.int .i64 f.size) ∧ w'.cell? ⟨g, i * 9 + 7, none⟩ = some (.int .u32 f.sum) ∧ w'.cell? ⟨g, i * 9 + 8, none⟩ = some (.int .i64 f.born) ∧ w'.cell? ⟨g, q * 9, none⟩ = some (.string y.key) ∧ w'.cell? ⟨g, q * 9 + 1, none⟩ = some (.int .i64 y.win) ∧ w'.cell? ⟨g, q * 9 + 2, none⟩ = some (.string y.part) ∧ w'.cell? ⟨g, q * 9 + 3, none⟩ = some (.int .i64 y.fst) ∧ w'.cell? ⟨g, q * 9 + 4, none⟩ = some (.int .i64 y.lst) ∧ w'.cell? ⟨g, q * 9 + 5, none⟩ = some (.int .i64 y.rows) ∧ w'.cell? ⟨g, q * 9 + 6, none⟩ = some (.int .i64 y.size) ∧ w'.cell? ⟨g, q * 9 + 7, none⟩ = some (.int .u32 y.sum) ∧ w'.cell? ⟨g, q * 9 + 8, none⟩ = some (.int .i64 y.born)) (first | go_keep | exact ⟨(hbq.cell (p := ⟨g, i * 9, none⟩) hltg).trans cf0, (hbq.cell (p := ⟨g, i * 9 + 1, none⟩) hltg).trans cf1, (hbq.cell (p := ⟨g, i * 9 + 2, none⟩) hltg).trans cf2, (hbq.cell (p := ⟨g, i * 9 + 3, none⟩) hltg).trans cf3, (hbq.cell (p := ⟨g, i * 9 + 4, none⟩) hltg).trans cf4, (hbq.cell (p := ⟨g, i * 9 + 5, none⟩) hltg).trans cf5, (hbq.cell (p := ⟨g, i * 9 + 6, none⟩) hltg).trans cf6, (hbq.cell (p := ⟨g, i * 9 + 7, none⟩) hltg).trans cf7, (hbq.cell (p := ⟨g, i * 9 + 8, none⟩) hltg).trans cf8, (hbq.cell (p := ⟨g, q * 9, none⟩) hltg).trans cy0, (hbq.cell (p := ⟨g, q * 9 + 1, none⟩) hltg).trans cy1, (hbq.cell (p := ⟨g, q * 9 + 2, none⟩) hltg).trans cy2, (hbq.cell (p := ⟨g, q * 9 + 3, none⟩) hltg).trans cy3, (hbq.cell (p := ⟨g, q * 9 + 4, none⟩) hltg).trans cy4, (hbq.cell (p := ⟨g, q * 9 + 5, none⟩) hltg).trans cy5, (hbq.cell (p := ⟨g, q * 9 + 6, none⟩) hltg).trans cy6, (hbq.cell (p := ⟨g, q * 9 + 7, none⟩) hltg).trans cy7, (hbq.cell (p := ⟨g, q * 9 + 8, none⟩) hltg).trans cy8⟩) (first | (go_at_call 26; refine (togB_any f y hfr hm _).mono ?_; rintro e w3 ⟨he3, hbq⟩; rw [HT.out] at he3; subst he3))
                have HB3 := Lib.hid (HBK.out.drew.trans (hbq.mono HBK.out.size))
                have HQ3 := Lib.hid (show rfirst f small most (rs.drop (i + 1)) = rfirst f small most (rs.drop (q + 1)) from by rw [HQ.out, HQ1.out, show rs.getD q ent0 = y from HY.out.symm, if_neg (by rw [HT.out]; decide)])
                clear cf0 cf1 cf2 cf3 cf4 cf5 cf6 cf7 cf8 cy0 cy1 cy2 cy3 cy4 cy5 cy6 cy7 cy8 hbq
                go_wp2_with fail
                go_roundw
                case rel => exact ⟨q + 1, by omega, by omega, by go_num, HQ3, HB3⟩
                case measure => simp [intOf]; omega
            · obtain rfl : q = k := by omega
              have HC3 := Lib.hid (show rcho small most rs = rcho small most (rs.drop (i + 1)) from by
                rw [HC.out, HC1.out, show rs.getD i ent0 = f from HF.out.symm, HQ.out, List.drop_eq_nil_of_le (by rw [HSL.out]; exact Nat.le_refl _)]; rfl)
              go_wp2_with fail
              go_roundw
              case rel => exact ⟨i + 1, by omega, by go_num, HC3, HBK⟩
              case measure => simp [intOf]; omega
        · obtain rfl : i = k := by omega
          have HE := Lib.hid (show rcho small most rs = [] from by rw [HC.out, List.drop_eq_nil_of_le (by rw [HSL.out]; exact Nat.le_refl _)]; rfl)
          go_wp2_with fail
          go_ret
          refine ⟨_, rs, rfl, HSP.out, HSM.out, ?_, HB.out.trans (HBI.out.mono HB.out.size)⟩
          rw [HE.out]
          exact World.ownsRow_nil _ _ _ _
end Go.Proofs.Yteihbbmbdkkbbaa
