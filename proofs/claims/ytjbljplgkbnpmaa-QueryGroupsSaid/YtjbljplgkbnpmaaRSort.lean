/- The document's Sort, walked. Written by genrsort.py. -/
import Derived.Test.YtjbljplgkbnpmaaSortPB
import Derived.Test.YtjbljplgkbnpmaaRowCmp
import Derived.Deep.RegionHeld3
namespace Go.Proofs.Ytjbljplgkbnpmaa
open Go.ChangeShapes Go.WideShapes Go.Deep Go.RowKit LabPlain RecPlain Stab
set_option linter.unusedVariables false

set_option maxRecDepth 100000 in
set_option maxHeartbeats 8000000 in
theorem rsort_any {w : World} {a : Option Addr} {n c : Nat} {l : List RowV} (h : RowsAt w a n c l) (hn : n ≤ 1000) :
    Calls Try.prog 42 #[.slice a n c] w fun e w' => ∃ a' c' rs, e = .returned (.slice a' n c') ∧ RowsAt w' a' n c' rs ∧ Stable ltR (atR l) (atR rs) n ∧ Below w.heap.size w w' := by
  obtain ⟨i0, hi, hz0, hz1, hz2⟩ := info_parts row_info
  have hcap := h.cap
  have hcm := h.capm
  have hown1 : (w.alloc (.cells #[] 62)).ownsRow w.heap.size 62 9 (.slice (some ⟨w.heap.size, 0, none⟩) 0 0) 0 (rcells []) := World.ownsRow_lit (base := w.heap.size) (e := 62) (size := 9) w #[] 0 (Nat.le_refl _) (by unfold maxLen; omega) rfl
  have HH := Lib.hid h
  have HL := Lib.hid h.len
  have HO1 := Lib.hid hown1
  have HB1 := Lib.hid ((Below.refl w.heap.size w).alloc (Nat.le_refl _) (.cells #[] 62))
  clear h hown1
  go_enter Try.func42, Try.ntmps42
  go_wp2_with fail
  go_loopw [3, 5, 6, 7, 11] (fun s3 s5 s6 s7 s11 wr => ∃ (k g cap : Nat) (rs : List RowV), k ≤ n ∧ k ≤ cap ∧ cap ≤ 9223372036854775807 ∧ s3 = .slice (some ⟨g, 0, none⟩) k cap ∧ s11 = .int .i64 (k : Int) ∧ Hid (wr.ownsRow w.heap.size 62 9 (.slice (some ⟨g, 0, none⟩) k cap) k (rcells rs)) ∧ Hid (rs.length = k ∧ (∀ x ∈ rs, x ∈ l) ∧ Stable ltR (atR l) (atR rs) k) ∧ Hid (Below w.heap.size w wr)) (fun _ _ _ _ s11 _ => n - (intOf s11).toNat)
  case atStart => exact ⟨0, w.heap.size, 0, [], by omega, by omega, by omega, rfl, rfl, HO1, Lib.hid ⟨rfl, (fun x hx => by cases hx), stable_none _ _⟩, HB1⟩
  case round =>
    obtain ⟨k, g, cap, rs, hk, hkc, hcap2, rfl, rfl, HO, HS, HB⟩ := hrel
    rename World => wr
    by_cases hkn : k < n
    · have hkp := HH.out.kept HB.out
      obtain ⟨b, off, rfl, hlt, hcell⟩ := hkp.cells (by omega)
      obtain ⟨r, hr⟩ : ∃ r, r = l.getD k row0 := ⟨_, rfl⟩
      obtain ⟨d0, d1, d2, d3, d4, d5, d6, d7, d8⟩ := RowsAt.nine hcell hkn hr
      have HR := Lib.hid hr
      clear hr hcell hkp
      obtain ⟨b5, hb5⟩ : ∃ b5, b5 = wr.heap.size := ⟨_, rfl⟩
      obtain ⟨w2, hw2⟩ : ∃ w2, w2 = wr.alloc (.cells #[.int .i64 r.r.kind, .int .i64 r.r.time, .slice r.r.la r.r.ln r.r.lc, .string r.r.text, .int .i64 r.r.value, .bool r.r.null, .int .i64 r.who, .int .i64 r.sq, .int .i64 r.pl] 62) := ⟨_, rfl⟩
      have hb2 : Below wr.heap.size wr w2 := by rw [hw2]; exact (Below.refl _ _).alloc (Nat.le_refl _) _
      have hx5 : ∀ j u, r.cells[j]? = some u → w2.cell? ⟨b5, j, none⟩ = some u := by
        intro j u hu
        have := row_src wr r 62 j u hu
        rw [Addr.add_mid, Nat.zero_add] at this
        rw [hw2, hb5]; exact this
      have hl5 : b5 < w2.heap.size := by rw [hb5, hw2]; exact (Array.getElem?_eq_some_iff.1 (heap_alloc_new wr _)).1
      have hgw : g < wr.heap.size := (HO.out.lt g rfl).2
      have HX5 := Lib.hid hx5
      have HW2 := Lib.hid hw2
      have HB5 := Lib.hid hb5
      have HL5 := Lib.hid hl5
      have HB2 := Lib.hid hb2
      have HGW := Lib.hid (Nat.lt_of_lt_of_le hgw hb2.size)
      have HO2 := Lib.hid (own_below HO.out hb2)
      have HBW := Lib.hid (HB.out.trans (hb2.mono HB.out.size))
      clear hx5 hw2 hb5 hl5 hb2 hgw
      go_wp2_with fail
      rw [← HW2.out, ← HB5.out]
      go_loopw [6] (fun s6 wi => ∃ m : Nat, m ≤ k ∧ s6 = .int .i64 (m : Int) ∧ Hid (∀ j, m ≤ j → j < k → ltR r (atR rs j) = true) ∧ Hid (Below w2.heap.size w2 wi)) (fun s6 _ => (intOf s6).toNat)
      case atStart => exact ⟨k, Nat.le_refl _, rfl, Lib.hid (fun j h1 h2 => by omega), Lib.hid (Below.refl _ _)⟩
      case round =>
        obtain ⟨m, hmk, rfl, HGE, HBI⟩ := hrel
        rename World => wi
        by_cases hm0 : 0 < m
        · have hm0i : (0 : Int) < (m : Int) := by omega
          obtain ⟨q, hq⟩ : ∃ q, q = m - 1 := ⟨_, rfl⟩
          have wq : IntKind.i64.wrap ((m : Int) - 1) = (q : Int) := by rw [IntWalk.i64_in _ (by omega)]; omega
          have hqk : (q : Int) < (k : Int) := by omega
          obtain ⟨y, hy⟩ : ∃ y, y = atR rs q := ⟨_, rfl⟩
          have hyc : ∀ j u, y.cells[j]? = some u → wi.cell? ⟨g, q * 9 + j, none⟩ = some u := by
            intro j u hu
            have hj : j < 9 := (List.getElem?_eq_some_iff.1 hu).1
            refine src_own (own_below HO2.out HBI.out) _ u ?_
            unfold rcells
            rw [flat_at RowV.cells 9 (fun _ => rfl) row0 rs q j (by have := HS.out.1; omega) hj]
            rw [hy] at hu; exact hu
          have hltg : g < wi.heap.size := Nat.lt_of_lt_of_le HGW.out HBI.out.size
          have hltx : b5 < wi.heap.size := Nat.lt_of_lt_of_le HL5.out HBI.out.size
          have cy0 : wi.cell? ⟨g, q * 9, none⟩ = some (.int .i64 y.r.kind) := hyc 0 _ rfl
          have cy1 : wi.cell? ⟨g, q * 9 + 1, none⟩ = some (.int .i64 y.r.time) := hyc 1 _ rfl
          have cy2 : wi.cell? ⟨g, q * 9 + 2, none⟩ = some (.slice y.r.la y.r.ln y.r.lc) := hyc 2 _ rfl
          have cy3 : wi.cell? ⟨g, q * 9 + 3, none⟩ = some (.string y.r.text) := hyc 3 _ rfl
          have cy4 : wi.cell? ⟨g, q * 9 + 4, none⟩ = some (.int .i64 y.r.value) := hyc 4 _ rfl
          have cy5 : wi.cell? ⟨g, q * 9 + 5, none⟩ = some (.bool y.r.null) := hyc 5 _ rfl
          have cy6 : wi.cell? ⟨g, q * 9 + 6, none⟩ = some (.int .i64 y.who) := hyc 6 _ rfl
          have cy7 : wi.cell? ⟨g, q * 9 + 7, none⟩ = some (.int .i64 y.sq) := hyc 7 _ rfl
          have cy8 : wi.cell? ⟨g, q * 9 + 8, none⟩ = some (.int .i64 y.pl) := hyc 8 _ rfl
          have cx0 : wi.cell? ⟨b5, 0, none⟩ = some (.int .i64 r.r.kind) := (HBI.out.cell (p := ⟨b5, 0, none⟩) HL5.out).trans (HX5.out 0 _ rfl)
          have cx1 : wi.cell? ⟨b5, 1, none⟩ = some (.int .i64 r.r.time) := (HBI.out.cell (p := ⟨b5, 1, none⟩) HL5.out).trans (HX5.out 1 _ rfl)
          have cx2 : wi.cell? ⟨b5, 2, none⟩ = some (.slice r.r.la r.r.ln r.r.lc) := (HBI.out.cell (p := ⟨b5, 2, none⟩) HL5.out).trans (HX5.out 2 _ rfl)
          have cx3 : wi.cell? ⟨b5, 3, none⟩ = some (.string r.r.text) := (HBI.out.cell (p := ⟨b5, 3, none⟩) HL5.out).trans (HX5.out 3 _ rfl)
          have cx4 : wi.cell? ⟨b5, 4, none⟩ = some (.int .i64 r.r.value) := (HBI.out.cell (p := ⟨b5, 4, none⟩) HL5.out).trans (HX5.out 4 _ rfl)
          have cx5 : wi.cell? ⟨b5, 5, none⟩ = some (.bool r.r.null) := (HBI.out.cell (p := ⟨b5, 5, none⟩) HL5.out).trans (HX5.out 5 _ rfl)
          have cx6 : wi.cell? ⟨b5, 6, none⟩ = some (.int .i64 r.who) := (HBI.out.cell (p := ⟨b5, 6, none⟩) HL5.out).trans (HX5.out 6 _ rfl)
          have cx7 : wi.cell? ⟨b5, 7, none⟩ = some (.int .i64 r.sq) := (HBI.out.cell (p := ⟨b5, 7, none⟩) HL5.out).trans (HX5.out 7 _ rfl)
          have cx8 : wi.cell? ⟨b5, 8, none⟩ = some (.int .i64 r.pl) := (HBI.out.cell (p := ⟨b5, 8, none⟩) HL5.out).trans (HX5.out 8 _ rfl)
          have HY := Lib.hid hy
          have hqm : q ≤ k ∧ q < m ∧ m ≤ q + 1 := by omega
          clear hyc hy hq
          by_cases hpos : 0 < cmpRow y r
          · have HT := Lib.hid ((cmp_turn y r).1 hpos)
            go_wp2_with fail
            go_region_held3 (fun w' => w'.cell? ⟨g, q * 9, none⟩ = some (.int .i64 y.r.kind) ∧ w'.cell? ⟨g, q * 9 + 1, none⟩ = some (.int .i64 y.r.time) ∧ w'.cell? ⟨g, q * 9 + 2, none⟩ = some (.slice y.r.la y.r.ln y.r.lc) ∧ w'.cell? ⟨g, q * 9 + 3, none⟩ = some (.string y.r.text) ∧ w'.cell? ⟨g, q * 9 + 4, none⟩ = some (.int .i64 y.r.value) ∧ w'.cell? ⟨g, q * 9 + 5, none⟩ = some (.bool y.r.null) ∧ w'.cell? ⟨g, q * 9 + 6, none⟩ = some (.int .i64 y.who) ∧ w'.cell? ⟨g, q * 9 + 7, none⟩ = some (.int .i64 y.sq) ∧ w'.cell? ⟨g, q * 9 + 8, none⟩ = some (.int .i64 y.pl) ∧ w'.cell? ⟨b5, 0, none⟩ = some (.int .i64 r.r.kind) ∧ w'.cell? ⟨b5, 1, none⟩ = some (.int .i64 r.r.time) ∧ w'.cell? ⟨b5, 2, none⟩ = some (.slice r.r.la r.r.ln r.r.lc) ∧ w'.cell? ⟨b5, 3, none⟩ = some (.string r.r.text) ∧ w'.cell? ⟨b5, 4, none⟩ = some (.int .i64 r.r.value) ∧ w'.cell? ⟨b5, 5, none⟩ = some (.bool r.r.null) ∧ w'.cell? ⟨b5, 6, none⟩ = some (.int .i64 r.who) ∧ w'.cell? ⟨b5, 7, none⟩ = some (.int .i64 r.sq) ∧ w'.cell? ⟨b5, 8, none⟩ = some (.int .i64 r.pl)) (first | go_keep | exact ⟨(hbq.cell (p := ⟨g, q * 9, none⟩) hltg).trans cy0, (hbq.cell (p := ⟨g, q * 9 + 1, none⟩) hltg).trans cy1, (hbq.cell (p := ⟨g, q * 9 + 2, none⟩) hltg).trans cy2, (hbq.cell (p := ⟨g, q * 9 + 3, none⟩) hltg).trans cy3, (hbq.cell (p := ⟨g, q * 9 + 4, none⟩) hltg).trans cy4, (hbq.cell (p := ⟨g, q * 9 + 5, none⟩) hltg).trans cy5, (hbq.cell (p := ⟨g, q * 9 + 6, none⟩) hltg).trans cy6, (hbq.cell (p := ⟨g, q * 9 + 7, none⟩) hltg).trans cy7, (hbq.cell (p := ⟨g, q * 9 + 8, none⟩) hltg).trans cy8, (hbq.cell (p := ⟨b5, 0, none⟩) hltx).trans cx0, (hbq.cell (p := ⟨b5, 1, none⟩) hltx).trans cx1, (hbq.cell (p := ⟨b5, 2, none⟩) hltx).trans cx2, (hbq.cell (p := ⟨b5, 3, none⟩) hltx).trans cx3, (hbq.cell (p := ⟨b5, 4, none⟩) hltx).trans cx4, (hbq.cell (p := ⟨b5, 5, none⟩) hltx).trans cx5, (hbq.cell (p := ⟨b5, 6, none⟩) hltx).trans cx6, (hbq.cell (p := ⟨b5, 7, none⟩) hltx).trans cx7, (hbq.cell (p := ⟨b5, 8, none⟩) hltx).trans cx8⟩) (first | (go_at_call 44; refine (rcompare_any y r _).mono ?_; rintro e w3 ⟨rfl, hbq⟩))
            have HBI3 := Lib.hid (HBI.out.drew.trans (hbq.mono HBI.out.size))
            clear hbq cy0 cy1 cy2 cy3 cy4 cy5 cy6 cy7 cy8 cx0 cx1 cx2 cx3 cx4 cx5 cx6 cx7 cx8
            have HGE3 := Lib.hid (show ∀ j, q ≤ j → j < k → ltR r (atR rs j) = true from fun j h1 h2 => by
              by_cases e : j = q
              · rw [e, ← HY.out]; exact HT.out
              · exact HGE.out j (by omega) h2)
            go_wp2_with fail
            go_roundw
            case rel => exact ⟨q, hqm.1, by first | rfl | go_num, HGE3, HBI3⟩
            case measure => simp [intOf]; omega
          · have HT := Lib.hid (show ltR r y = false from by
              cases h : ltR r y with
              | false => rfl
              | true => exact absurd ((cmp_turn y r).2 h) hpos)
            go_wp2_with fail
            go_region_held3 (fun w' => w'.cell? ⟨g, q * 9, none⟩ = some (.int .i64 y.r.kind) ∧ w'.cell? ⟨g, q * 9 + 1, none⟩ = some (.int .i64 y.r.time) ∧ w'.cell? ⟨g, q * 9 + 2, none⟩ = some (.slice y.r.la y.r.ln y.r.lc) ∧ w'.cell? ⟨g, q * 9 + 3, none⟩ = some (.string y.r.text) ∧ w'.cell? ⟨g, q * 9 + 4, none⟩ = some (.int .i64 y.r.value) ∧ w'.cell? ⟨g, q * 9 + 5, none⟩ = some (.bool y.r.null) ∧ w'.cell? ⟨g, q * 9 + 6, none⟩ = some (.int .i64 y.who) ∧ w'.cell? ⟨g, q * 9 + 7, none⟩ = some (.int .i64 y.sq) ∧ w'.cell? ⟨g, q * 9 + 8, none⟩ = some (.int .i64 y.pl) ∧ w'.cell? ⟨b5, 0, none⟩ = some (.int .i64 r.r.kind) ∧ w'.cell? ⟨b5, 1, none⟩ = some (.int .i64 r.r.time) ∧ w'.cell? ⟨b5, 2, none⟩ = some (.slice r.r.la r.r.ln r.r.lc) ∧ w'.cell? ⟨b5, 3, none⟩ = some (.string r.r.text) ∧ w'.cell? ⟨b5, 4, none⟩ = some (.int .i64 r.r.value) ∧ w'.cell? ⟨b5, 5, none⟩ = some (.bool r.r.null) ∧ w'.cell? ⟨b5, 6, none⟩ = some (.int .i64 r.who) ∧ w'.cell? ⟨b5, 7, none⟩ = some (.int .i64 r.sq) ∧ w'.cell? ⟨b5, 8, none⟩ = some (.int .i64 r.pl)) (first | go_keep | exact ⟨(hbq.cell (p := ⟨g, q * 9, none⟩) hltg).trans cy0, (hbq.cell (p := ⟨g, q * 9 + 1, none⟩) hltg).trans cy1, (hbq.cell (p := ⟨g, q * 9 + 2, none⟩) hltg).trans cy2, (hbq.cell (p := ⟨g, q * 9 + 3, none⟩) hltg).trans cy3, (hbq.cell (p := ⟨g, q * 9 + 4, none⟩) hltg).trans cy4, (hbq.cell (p := ⟨g, q * 9 + 5, none⟩) hltg).trans cy5, (hbq.cell (p := ⟨g, q * 9 + 6, none⟩) hltg).trans cy6, (hbq.cell (p := ⟨g, q * 9 + 7, none⟩) hltg).trans cy7, (hbq.cell (p := ⟨g, q * 9 + 8, none⟩) hltg).trans cy8, (hbq.cell (p := ⟨b5, 0, none⟩) hltx).trans cx0, (hbq.cell (p := ⟨b5, 1, none⟩) hltx).trans cx1, (hbq.cell (p := ⟨b5, 2, none⟩) hltx).trans cx2, (hbq.cell (p := ⟨b5, 3, none⟩) hltx).trans cx3, (hbq.cell (p := ⟨b5, 4, none⟩) hltx).trans cx4, (hbq.cell (p := ⟨b5, 5, none⟩) hltx).trans cx5, (hbq.cell (p := ⟨b5, 6, none⟩) hltx).trans cx6, (hbq.cell (p := ⟨b5, 7, none⟩) hltx).trans cx7, (hbq.cell (p := ⟨b5, 8, none⟩) hltx).trans cx8⟩) (first | (go_at_call 44; refine (rcompare_any y r _).mono ?_; rintro e w3 ⟨rfl, hbq⟩))
            have HBI3 := Lib.hid (HBI.out.drew.trans (hbq.mono HBI.out.size))
            clear hbq cy0 cy1 cy2 cy3 cy4 cy5 cy6 cy7 cy8 cx0 cx1 cx2 cx3 cx4 cx5 cx6 cx7 cx8
            have HLO := Lib.hid (show 0 < m → ltR r (atR rs (m - 1)) = false from fun _ => by
              rw [show m - 1 = q by omega, ← HY.out]; exact HT.out)
            have hown6 : (w3.alloc (.cells #[] 62)).ownsRow w3.heap.size 62 9 (.slice (some ⟨w3.heap.size, 0, none⟩) 0 0) 0 (rcells []) := World.ownsRow_lit (base := w3.heap.size) (e := 62) (size := 9) w3 #[] 0 (Nat.le_refl _) (by unfold maxLen; omega) rfl
            have hb6 : Below w3.heap.size w3 (w3.alloc (.cells #[] 62)) := (Below.refl _ _).alloc (Nat.le_refl _) _
            have HOW := Lib.hid (own_below HO2.out HBI3.out)
            have HO6 := Lib.hid (own_below HOW.out hb6)
            have HN6 := Lib.hid hown6
            have HD6 := Lib.hid hb6
            have hs6 := hb6.size
            clear hown6 hb6
            have hmn : (m + 0) * 96 ≤ 140737488355328 := by omega
            have hlt6 : (rcells (rs.take m)).length = m * 9 := by rw [rcells_len, List.length_take, HS.out.1, Nat.min_eq_left hmk]
            go_wp2_with (at_builtin; refine wpList_append_own_at _ rfl (.tmp 31) (.tmp 34) 58 rfl w3.heap.size 62 i0 _ 9 96 Try.underlying58 hi hz0 hz1 hz2 rfl (by decide) _ _ _ rfl HN6.out ⟨g, 0, none⟩ m cap (rcells (rs.take m)) rfl hlt6 (src_take HO6.out) (rcells_all _) (by unfold maxLen; omega) (by omega) hs6 ?_)
            intro v7 w7 hown7 hgrow7 _ _
            have HN7 := Lib.hid hown7
            have HD7 := Lib.hid (HD6.out.grown hgrow7 HD6.out.size (fun p hp => (HN6.out.lt p hp).1))
            have HB7 := Lib.hid (HBI3.out.trans (HD7.out.mono HBI3.out.size))
            clear hown7 hgrow7 hs6 hlt6
            have cx0 : w7.cell? ⟨b5, 0, none⟩ = some (.int .i64 r.r.kind) := (HB7.out.cell (p := ⟨b5, 0, none⟩) HL5.out).trans (HX5.out 0 _ rfl)
            have cx1 : w7.cell? ⟨b5, 1, none⟩ = some (.int .i64 r.r.time) := (HB7.out.cell (p := ⟨b5, 1, none⟩) HL5.out).trans (HX5.out 1 _ rfl)
            have cx2 : w7.cell? ⟨b5, 2, none⟩ = some (.slice r.r.la r.r.ln r.r.lc) := (HB7.out.cell (p := ⟨b5, 2, none⟩) HL5.out).trans (HX5.out 2 _ rfl)
            have cx3 : w7.cell? ⟨b5, 3, none⟩ = some (.string r.r.text) := (HB7.out.cell (p := ⟨b5, 3, none⟩) HL5.out).trans (HX5.out 3 _ rfl)
            have cx4 : w7.cell? ⟨b5, 4, none⟩ = some (.int .i64 r.r.value) := (HB7.out.cell (p := ⟨b5, 4, none⟩) HL5.out).trans (HX5.out 4 _ rfl)
            have cx5 : w7.cell? ⟨b5, 5, none⟩ = some (.bool r.r.null) := (HB7.out.cell (p := ⟨b5, 5, none⟩) HL5.out).trans (HX5.out 5 _ rfl)
            have cx6 : w7.cell? ⟨b5, 6, none⟩ = some (.int .i64 r.who) := (HB7.out.cell (p := ⟨b5, 6, none⟩) HL5.out).trans (HX5.out 6 _ rfl)
            have cx7 : w7.cell? ⟨b5, 7, none⟩ = some (.int .i64 r.sq) := (HB7.out.cell (p := ⟨b5, 7, none⟩) HL5.out).trans (HX5.out 7 _ rfl)
            have cx8 : w7.cell? ⟨b5, 8, none⟩ = some (.int .i64 r.pl) := (HB7.out.cell (p := ⟨b5, 8, none⟩) HL5.out).trans (HX5.out 8 _ rfl)
            have hb8 : Below w7.heap.size w7 (w7.alloc (.cells #[.int .i64 r.r.kind, .int .i64 r.r.time, .slice r.r.la r.r.ln r.r.lc, .string r.r.text, .int .i64 r.r.value, .bool r.r.null, .int .i64 r.who, .int .i64 r.sq, .int .i64 r.pl] 62)) := (Below.refl _ _).alloc (Nat.le_refl _) _
            have HN8 := Lib.hid (own_below HN7.out hb8)
            have HD8 := Lib.hid (HD7.out.trans (hb8.mono HD7.out.size))
            have hs8 := HD8.out.size
            have HSRC8 := Lib.hid (row_src w7 r 62)
            clear hb8
            go_wp2_with (at_builtin; refine wpList_append_own_at _ rfl (.tmp 36) (.tmp 38) 58 rfl w3.heap.size 62 i0 _ 9 96 Try.underlying58 hi hz0 hz1 hz2 rfl (by decide) _ _ _ rfl HN8.out ⟨w7.heap.size, 0, none⟩ 1 1 (RowV.cells r) rfl rfl HSRC8.out (rcells_one _) (by unfold maxLen; omega) (by omega) hs8 ?_)
            intro v9 w9 hown9 hgrow9 hnil9 _
            have HN9 := Lib.hid hown9
            have HD9 := Lib.hid (HD8.out.grown hgrow9 HD8.out.size (fun p hp => (HN8.out.lt p hp).1))
            have HO9 := Lib.hid (own_below HOW.out HD9.out)
            have hs9 := HD9.out.size
            clear hown9 hgrow9 hnil9 hs8
            have hld : (rcells (rs.drop m)).length = (k - m) * 9 := by rw [rcells_len, List.length_drop, HS.out.1]
            have hsum : m + 1 + (k - m) = k + 1 := by omega
            by_cases hcp : cap = m
            · have HNONE := Lib.hid (show ∀ j u, (rcells (rs.drop m))[j]? = some u → w9.cell? ((⟨g, 0, none⟩ : Addr).add j) = some u from fun j u hu => by
                have := (List.getElem?_eq_some_iff.1 hu).1
                omega)
              go_wp2_with (at_builtin; refine wpList_append_own_at _ rfl (.tmp 40) (.tmp 43) 58 rfl w3.heap.size 62 i0 _ 9 96 Try.underlying58 hi hz0 hz1 hz2 rfl (by decide) _ _ _ rfl HN9.out ⟨g, 0, none⟩ (k - m) 0 (rcells (rs.drop m)) rfl hld HNONE.out (rcells_all _) (by unfold maxLen; omega) (by omega) hs9 ?_)
              intro v10 w10 hown10 hgrow10 _ _
              have HB10 := Lib.hid (HBW.out.trans ((HBI3.out.trans ((HD9.out.grown hgrow10 HD9.out.size (fun p hp => (HN9.out.lt p hp).1)).mono HBI3.out.size)).mono HBW.out.size))
              have hown11 : w10.ownsRow w.heap.size 62 9 v10 (k + 1) (rcells (ins1 rs m r)) := by
                have h := hown10.mono (base' := w.heap.size) (Nat.le_trans HBW.out.size HBI3.out.size)
                try rw [hsum] at h
                have e : rcells (ins1 rs m r) = rcells [] ++ (rcells (rs.take m) ++ (RowV.cells r ++ rcells (rs.drop m))) := by
                  unfold ins1
                  rw [rcells_app, rcells_app]
                  simp [rcells]
                rw [e]; exact h
              obtain ⟨g2, cap2, rfl, hcap3⟩ : ∃ g2 cap2, v10 = .slice (some ⟨g2, 0, none⟩) (k + 1) cap2 ∧ k + 1 ≤ cap2 ∧ cap2 ≤ 9223372036854775807 := by
                rcases hown11.2 with ⟨_, h0⟩ | ⟨g2, cap2, cur, he, _, _, h4, h5, _⟩
                · omega
                · exact ⟨g2, cap2, he, h4, by unfold maxLen at h5; exact h5⟩
              have HO10 := Lib.hid hown11
              have HS10 := Lib.hid (show (ins1 rs m r).length = k + 1 ∧ (∀ x ∈ ins1 rs m r, x ∈ l) ∧ Stable ltR (atR l) (atR (ins1 rs m r)) (k + 1) from by
                have er : atR l k = r := HR.out.symm
                refine ⟨by rw [ins1_len rs m r (by rw [HS.out.1]; exact hmk), HS.out.1], fun x hx => ?_, ?_⟩
                · rcases ins1_mem hx with h | h
                  · exact HS.out.2.1 x h
                  · rw [h, HR.out]; exact row_mem (by rw [HL.out]; exact hkn)
                · have h := stable_ins (f := atR l) (m := m) HS.out.1 HS.out.2.2 hmk (by rw [er]; exact HLO.out) (by rw [er]; exact HGE.out)
                  rw [er] at h
                  exact h)
              clear hown10 hgrow10 hown11
              go_wp2_with fail
              go_roundw
              case rel => exact ⟨k + 1, g2, cap2, ins1 rs m r, by omega, hcap3.1, hcap3.2, rfl, by go_num, HO10, HS10, HB10⟩
              case measure => simp [intOf]; omega
            · go_wp2_with (at_builtin; refine wpList_append_own_at _ rfl (.tmp 40) (.tmp 43) 58 rfl w3.heap.size 62 i0 _ 9 96 Try.underlying58 hi hz0 hz1 hz2 rfl (by decide) _ _ _ rfl HN9.out ⟨g, m * 9, none⟩ (k - m) (cap - m) (rcells (rs.drop m)) rfl hld (src_drop HO9.out (by rw [HS.out.1]; exact hmk)) (rcells_all _) (by unfold maxLen; omega) (by omega) hs9 ?_)
              intro v10 w10 hown10 hgrow10 _ _
              have HB10 := Lib.hid (HBW.out.trans ((HBI3.out.trans ((HD9.out.grown hgrow10 HD9.out.size (fun p hp => (HN9.out.lt p hp).1)).mono HBI3.out.size)).mono HBW.out.size))
              have hown11 : w10.ownsRow w.heap.size 62 9 v10 (k + 1) (rcells (ins1 rs m r)) := by
                have h := hown10.mono (base' := w.heap.size) (Nat.le_trans HBW.out.size HBI3.out.size)
                try rw [hsum] at h
                have e : rcells (ins1 rs m r) = rcells [] ++ (rcells (rs.take m) ++ (RowV.cells r ++ rcells (rs.drop m))) := by
                  unfold ins1
                  rw [rcells_app, rcells_app]
                  simp [rcells]
                rw [e]; exact h
              obtain ⟨g2, cap2, rfl, hcap3⟩ : ∃ g2 cap2, v10 = .slice (some ⟨g2, 0, none⟩) (k + 1) cap2 ∧ k + 1 ≤ cap2 ∧ cap2 ≤ 9223372036854775807 := by
                rcases hown11.2 with ⟨_, h0⟩ | ⟨g2, cap2, cur, he, _, _, h4, h5, _⟩
                · omega
                · exact ⟨g2, cap2, he, h4, by unfold maxLen at h5; exact h5⟩
              have HO10 := Lib.hid hown11
              have HS10 := Lib.hid (show (ins1 rs m r).length = k + 1 ∧ (∀ x ∈ ins1 rs m r, x ∈ l) ∧ Stable ltR (atR l) (atR (ins1 rs m r)) (k + 1) from by
                have er : atR l k = r := HR.out.symm
                refine ⟨by rw [ins1_len rs m r (by rw [HS.out.1]; exact hmk), HS.out.1], fun x hx => ?_, ?_⟩
                · rcases ins1_mem hx with h | h
                  · exact HS.out.2.1 x h
                  · rw [h, HR.out]; exact row_mem (by rw [HL.out]; exact hkn)
                · have h := stable_ins (f := atR l) (m := m) HS.out.1 HS.out.2.2 hmk (by rw [er]; exact HLO.out) (by rw [er]; exact HGE.out)
                  rw [er] at h
                  exact h)
              clear hown10 hgrow10 hown11
              go_wp2_with fail
              go_roundw
              case rel => exact ⟨k + 1, g2, cap2, ins1 rs m r, by omega, hcap3.1, hcap3.2, rfl, by go_num, HO10, HS10, HB10⟩
              case measure => simp [intOf]; omega
        · have hm0i : ¬ (0 : Int) < (m : Int) := by omega
          go_wp2_with fail
          go_region
          have HBI3 := Lib.hid HBI.out.drew
          have HLO := Lib.hid (show 0 < m → ltR r (atR rs (m - 1)) = false from fun h => by omega)
          have hown6 : (wi.drew.alloc (.cells #[] 62)).ownsRow wi.drew.heap.size 62 9 (.slice (some ⟨wi.drew.heap.size, 0, none⟩) 0 0) 0 (rcells []) := World.ownsRow_lit (base := wi.drew.heap.size) (e := 62) (size := 9) wi.drew #[] 0 (Nat.le_refl _) (by unfold maxLen; omega) rfl
          have hb6 : Below wi.drew.heap.size wi.drew (wi.drew.alloc (.cells #[] 62)) := (Below.refl _ _).alloc (Nat.le_refl _) _
          have HOW := Lib.hid (own_below HO2.out HBI3.out)
          have HO6 := Lib.hid (own_below HOW.out hb6)
          have HN6 := Lib.hid hown6
          have HD6 := Lib.hid hb6
          have hs6 := hb6.size
          clear hown6 hb6
          have hmn : (m + 0) * 96 ≤ 140737488355328 := by omega
          have hlt6 : (rcells (rs.take m)).length = m * 9 := by rw [rcells_len, List.length_take, HS.out.1, Nat.min_eq_left hmk]
          go_wp2_with (at_builtin; refine wpList_append_own_at _ rfl (.tmp 31) (.tmp 34) 58 rfl wi.drew.heap.size 62 i0 _ 9 96 Try.underlying58 hi hz0 hz1 hz2 rfl (by decide) _ _ _ rfl HN6.out ⟨g, 0, none⟩ m cap (rcells (rs.take m)) rfl hlt6 (src_take HO6.out) (rcells_all _) (by unfold maxLen; omega) (by omega) hs6 ?_)
          intro v7 w7 hown7 hgrow7 _ _
          have HN7 := Lib.hid hown7
          have HD7 := Lib.hid (HD6.out.grown hgrow7 HD6.out.size (fun p hp => (HN6.out.lt p hp).1))
          have HB7 := Lib.hid (HBI3.out.trans (HD7.out.mono HBI3.out.size))
          clear hown7 hgrow7 hs6 hlt6
          have cx0 : w7.cell? ⟨b5, 0, none⟩ = some (.int .i64 r.r.kind) := (HB7.out.cell (p := ⟨b5, 0, none⟩) HL5.out).trans (HX5.out 0 _ rfl)
          have cx1 : w7.cell? ⟨b5, 1, none⟩ = some (.int .i64 r.r.time) := (HB7.out.cell (p := ⟨b5, 1, none⟩) HL5.out).trans (HX5.out 1 _ rfl)
          have cx2 : w7.cell? ⟨b5, 2, none⟩ = some (.slice r.r.la r.r.ln r.r.lc) := (HB7.out.cell (p := ⟨b5, 2, none⟩) HL5.out).trans (HX5.out 2 _ rfl)
          have cx3 : w7.cell? ⟨b5, 3, none⟩ = some (.string r.r.text) := (HB7.out.cell (p := ⟨b5, 3, none⟩) HL5.out).trans (HX5.out 3 _ rfl)
          have cx4 : w7.cell? ⟨b5, 4, none⟩ = some (.int .i64 r.r.value) := (HB7.out.cell (p := ⟨b5, 4, none⟩) HL5.out).trans (HX5.out 4 _ rfl)
          have cx5 : w7.cell? ⟨b5, 5, none⟩ = some (.bool r.r.null) := (HB7.out.cell (p := ⟨b5, 5, none⟩) HL5.out).trans (HX5.out 5 _ rfl)
          have cx6 : w7.cell? ⟨b5, 6, none⟩ = some (.int .i64 r.who) := (HB7.out.cell (p := ⟨b5, 6, none⟩) HL5.out).trans (HX5.out 6 _ rfl)
          have cx7 : w7.cell? ⟨b5, 7, none⟩ = some (.int .i64 r.sq) := (HB7.out.cell (p := ⟨b5, 7, none⟩) HL5.out).trans (HX5.out 7 _ rfl)
          have cx8 : w7.cell? ⟨b5, 8, none⟩ = some (.int .i64 r.pl) := (HB7.out.cell (p := ⟨b5, 8, none⟩) HL5.out).trans (HX5.out 8 _ rfl)
          have hb8 : Below w7.heap.size w7 (w7.alloc (.cells #[.int .i64 r.r.kind, .int .i64 r.r.time, .slice r.r.la r.r.ln r.r.lc, .string r.r.text, .int .i64 r.r.value, .bool r.r.null, .int .i64 r.who, .int .i64 r.sq, .int .i64 r.pl] 62)) := (Below.refl _ _).alloc (Nat.le_refl _) _
          have HN8 := Lib.hid (own_below HN7.out hb8)
          have HD8 := Lib.hid (HD7.out.trans (hb8.mono HD7.out.size))
          have hs8 := HD8.out.size
          have HSRC8 := Lib.hid (row_src w7 r 62)
          clear hb8
          go_wp2_with (at_builtin; refine wpList_append_own_at _ rfl (.tmp 36) (.tmp 38) 58 rfl wi.drew.heap.size 62 i0 _ 9 96 Try.underlying58 hi hz0 hz1 hz2 rfl (by decide) _ _ _ rfl HN8.out ⟨w7.heap.size, 0, none⟩ 1 1 (RowV.cells r) rfl rfl HSRC8.out (rcells_one _) (by unfold maxLen; omega) (by omega) hs8 ?_)
          intro v9 w9 hown9 hgrow9 hnil9 _
          have HN9 := Lib.hid hown9
          have HD9 := Lib.hid (HD8.out.grown hgrow9 HD8.out.size (fun p hp => (HN8.out.lt p hp).1))
          have HO9 := Lib.hid (own_below HOW.out HD9.out)
          have hs9 := HD9.out.size
          clear hown9 hgrow9 hnil9 hs8
          have hld : (rcells (rs.drop m)).length = (k - m) * 9 := by rw [rcells_len, List.length_drop, HS.out.1]
          have hsum : m + 1 + (k - m) = k + 1 := by omega
          by_cases hcp : cap = m
          · have HNONE := Lib.hid (show ∀ j u, (rcells (rs.drop m))[j]? = some u → w9.cell? ((⟨g, 0, none⟩ : Addr).add j) = some u from fun j u hu => by
              have := (List.getElem?_eq_some_iff.1 hu).1
              omega)
            go_wp2_with (at_builtin; refine wpList_append_own_at _ rfl (.tmp 40) (.tmp 43) 58 rfl wi.drew.heap.size 62 i0 _ 9 96 Try.underlying58 hi hz0 hz1 hz2 rfl (by decide) _ _ _ rfl HN9.out ⟨g, 0, none⟩ (k - m) 0 (rcells (rs.drop m)) rfl hld HNONE.out (rcells_all _) (by unfold maxLen; omega) (by omega) hs9 ?_)
            intro v10 w10 hown10 hgrow10 _ _
            have HB10 := Lib.hid (HBW.out.trans ((HBI3.out.trans ((HD9.out.grown hgrow10 HD9.out.size (fun p hp => (HN9.out.lt p hp).1)).mono HBI3.out.size)).mono HBW.out.size))
            have hown11 : w10.ownsRow w.heap.size 62 9 v10 (k + 1) (rcells (ins1 rs m r)) := by
              have h := hown10.mono (base' := w.heap.size) (Nat.le_trans HBW.out.size HBI3.out.size)
              try rw [hsum] at h
              have e : rcells (ins1 rs m r) = rcells [] ++ (rcells (rs.take m) ++ (RowV.cells r ++ rcells (rs.drop m))) := by
                unfold ins1
                rw [rcells_app, rcells_app]
                simp [rcells]
              rw [e]; exact h
            obtain ⟨g2, cap2, rfl, hcap3⟩ : ∃ g2 cap2, v10 = .slice (some ⟨g2, 0, none⟩) (k + 1) cap2 ∧ k + 1 ≤ cap2 ∧ cap2 ≤ 9223372036854775807 := by
              rcases hown11.2 with ⟨_, h0⟩ | ⟨g2, cap2, cur, he, _, _, h4, h5, _⟩
              · omega
              · exact ⟨g2, cap2, he, h4, by unfold maxLen at h5; exact h5⟩
            have HO10 := Lib.hid hown11
            have HS10 := Lib.hid (show (ins1 rs m r).length = k + 1 ∧ (∀ x ∈ ins1 rs m r, x ∈ l) ∧ Stable ltR (atR l) (atR (ins1 rs m r)) (k + 1) from by
              have er : atR l k = r := HR.out.symm
              refine ⟨by rw [ins1_len rs m r (by rw [HS.out.1]; exact hmk), HS.out.1], fun x hx => ?_, ?_⟩
              · rcases ins1_mem hx with h | h
                · exact HS.out.2.1 x h
                · rw [h, HR.out]; exact row_mem (by rw [HL.out]; exact hkn)
              · have h := stable_ins (f := atR l) (m := m) HS.out.1 HS.out.2.2 hmk (by rw [er]; exact HLO.out) (by rw [er]; exact HGE.out)
                rw [er] at h
                exact h)
            clear hown10 hgrow10 hown11
            go_wp2_with fail
            go_roundw
            case rel => exact ⟨k + 1, g2, cap2, ins1 rs m r, by omega, hcap3.1, hcap3.2, rfl, by go_num, HO10, HS10, HB10⟩
            case measure => simp [intOf]; omega
          · go_wp2_with (at_builtin; refine wpList_append_own_at _ rfl (.tmp 40) (.tmp 43) 58 rfl wi.drew.heap.size 62 i0 _ 9 96 Try.underlying58 hi hz0 hz1 hz2 rfl (by decide) _ _ _ rfl HN9.out ⟨g, m * 9, none⟩ (k - m) (cap - m) (rcells (rs.drop m)) rfl hld (src_drop HO9.out (by rw [HS.out.1]; exact hmk)) (rcells_all _) (by unfold maxLen; omega) (by omega) hs9 ?_)
            intro v10 w10 hown10 hgrow10 _ _
            have HB10 := Lib.hid (HBW.out.trans ((HBI3.out.trans ((HD9.out.grown hgrow10 HD9.out.size (fun p hp => (HN9.out.lt p hp).1)).mono HBI3.out.size)).mono HBW.out.size))
            have hown11 : w10.ownsRow w.heap.size 62 9 v10 (k + 1) (rcells (ins1 rs m r)) := by
              have h := hown10.mono (base' := w.heap.size) (Nat.le_trans HBW.out.size HBI3.out.size)
              try rw [hsum] at h
              have e : rcells (ins1 rs m r) = rcells [] ++ (rcells (rs.take m) ++ (RowV.cells r ++ rcells (rs.drop m))) := by
                unfold ins1
                rw [rcells_app, rcells_app]
                simp [rcells]
              rw [e]; exact h
            obtain ⟨g2, cap2, rfl, hcap3⟩ : ∃ g2 cap2, v10 = .slice (some ⟨g2, 0, none⟩) (k + 1) cap2 ∧ k + 1 ≤ cap2 ∧ cap2 ≤ 9223372036854775807 := by
              rcases hown11.2 with ⟨_, h0⟩ | ⟨g2, cap2, cur, he, _, _, h4, h5, _⟩
              · omega
              · exact ⟨g2, cap2, he, h4, by unfold maxLen at h5; exact h5⟩
            have HO10 := Lib.hid hown11
            have HS10 := Lib.hid (show (ins1 rs m r).length = k + 1 ∧ (∀ x ∈ ins1 rs m r, x ∈ l) ∧ Stable ltR (atR l) (atR (ins1 rs m r)) (k + 1) from by
              have er : atR l k = r := HR.out.symm
              refine ⟨by rw [ins1_len rs m r (by rw [HS.out.1]; exact hmk), HS.out.1], fun x hx => ?_, ?_⟩
              · rcases ins1_mem hx with h | h
                · exact HS.out.2.1 x h
                · rw [h, HR.out]; exact row_mem (by rw [HL.out]; exact hkn)
              · have h := stable_ins (f := atR l) (m := m) HS.out.1 HS.out.2.2 hmk (by rw [er]; exact HLO.out) (by rw [er]; exact HGE.out)
                rw [er] at h
                exact h)
            clear hown10 hgrow10 hown11
            go_wp2_with fail
            go_roundw
            case rel => exact ⟨k + 1, g2, cap2, ins1 rs m r, by omega, hcap3.1, hcap3.2, rfl, by go_num, HO10, HS10, HB10⟩
            case measure => simp [intOf]; omega
    · obtain rfl : k = n := by omega
      clear hkn
      have HAT := Lib.hid (show RowsAt wr (some ⟨g, 0, none⟩) k cap rs from ⟨HS.out.1, hkc, hcap2, (fun e => by cases e), (fun x hx => HH.out.fits x (HS.out.2.1 x hx)), (fun x hx => (HH.out.labs x (HS.out.2.1 x hx)).keep HB.out (Nat.le_refl _)), fun hp => ⟨g, 0, rfl, (HO.out.lt g rfl).2, fun i hi j u hu => by
        have hj : j < 9 := (List.getElem?_eq_some_iff.1 hu).1
        rw [Nat.zero_add]
        refine src_own HO.out _ u ?_
        unfold rcells
        rw [flat_at RowV.cells 9 (fun _ => rfl) row0 rs i j (by have := HS.out.1; omega) hj]; exact hu⟩⟩)
      go_wp2_with fail
      go_ret
      exact ⟨some ⟨g, 0, none⟩, cap, rs, rfl, HAT.out, HS.out.2.2, HB.out⟩
end Go.Proofs.Ytjbljplgkbnpmaa
