/- Put together out of XQRAns, XQLives. -/
import Derived.Test.YtjbljplgkbnpmaaQRA
import Derived.Test.YtjbljplgkbnpmaaRSort
section SecQRL0
/- The document's Answer, walked. Written by genqans.py. -/
namespace Go.Proofs.Ytjbljplgkbnpmaa
open Go.ChangeShapes Go.WideShapes Go.Deep Go.RowKit LabPlain RecPlain Stab
set_option linter.unusedVariables false

theorem heap_set {w : World} {B : Nat} {cur : Array Value} {t : TypeId} (g : w.heap[B]? = some (.cells cur t (0, 0))) (i : Nat) (u : Value) : (w.setCell ⟨B, i, none⟩ u).heap[B]? = some (.cells (cur.setIfInBounds i u) t (0, 0)) := heap_setCell_same w B i cur t u g
theorem fro_blk {w : World} {B : Nat} {cur : Array Value} {t : TypeId} (g : w.heap[B]? = some (.cells cur t (0, 0))) (i : Nat) : w.frozen? ⟨B, i, none⟩ = false := by simp [World.frozen?, g]
theorem fits_blank {x : RowV} (h : x.fits) : (blankR x).fits := by
  unfold RowV.fits RecV.fits at h ⊢
  refine ⟨?_, h.2⟩
  have h1 := h.1
  simp only [blankR]
  exact ⟨h1.1, h1.2.1, h1.2.2.1, by decide, h1.2.2.2.2⟩
theorem stepS_no {q : QP} {o : List Say} {s : Say} (h : (qRight q && keepS q s) = false) : stepS q o s = o := by unfold stepS; rw [if_pos (.inl h)]
theorem stepS_full {q : QP} {o : List Say} {s : Say} (h : 0 < q.lim ∧ q.lim ≤ (o.length : Int)) : stepS q o s = o := by unfold stepS; rw [if_pos (.inr h)]
theorem stepS_yes {q : QP} {o : List Say} {s : Say} (h : (qRight q && keepS q s) = true) (h2 : ¬ (0 < q.lim ∧ q.lim ≤ (o.length : Int))) : stepS q o s = o ++ [textS q s] := by
  unfold stepS
  rw [if_neg (fun e => by rcases e with e | e; rw [h] at e; cases e; exact h2 e)]

theorem stable_sub {l l3 : List RowV} {n : Nat} (hs : Stable ltR (atR l) (atR l3) n) (hl : l.length = n) (h3 : l3.length = n) : ∀ y ∈ l3, y ∈ l := by
  intro y hy
  obtain ⟨i, hi, rfl⟩ := List.mem_iff_getElem.1 hy
  obtain ⟨t, h1, h2, h3'⟩ := hs
  obtain ⟨k, hk, e⟩ := (h3' (t i)).1 ⟨i, Nat.zero_le _, by omega, rfl⟩
  have e1 : atR l3 i = l3[i] := by simp [atR, hi]
  rw [← e1, ← h1 i (by omega), e]
  exact row_mem (by omega)
theorem RowsAt.grown {w w' : World} {a : Option Addr} {n c : Nat} {l : List RowV} {row : Option Nat} (h : RowsAt w a n c l) (hg : w.grownBy w' row) (hne : 0 < n → ∀ b off, a = some ⟨b, off, none⟩ → some b ≠ row) (hl : ∀ x ∈ l, LabsAt w' x.r.la x.r.ln x.r.lc x.r.labs) : RowsAt w' a n c l :=
  ⟨h.len, h.cap, h.capm, h.nl, h.fits, hl, fun hn => by
    obtain ⟨b, off, ha, hlt, hc⟩ := h.cells hn
    exact ⟨b, off, ha, Nat.lt_of_lt_of_le hlt hg.size, fun i hi j u hu => hg.cell (hc i hi j u hu) (hne hn b off ha)⟩⟩

set_option maxRecDepth 100000 in
set_option maxHeartbeats 4000000 in
theorem ranswer_any {w : World} {a : Option Addr} {n c : Nat} {ms : List Mat} {fr to lim : Int} {tx : Bool} (h : MatsAt w a n c ms) {ra : Option Addr} {rn rc : Nat} {l : List RowV} (hr : RowsAt w ra rn rc l) (hn : rn ≤ 1000) :
    Calls Try.prog 56 #[.agg #[.int .i64 fr, .int .i64 to, .slice a n c, .int .i64 lim, .bool tx], .slice ra rn rc] w fun e w' => ∃ a' n' c' rs, e = .returned (.slice a' n' c') ∧ RowsAt w' a' n' c' rs ∧ rs.map RowV.says = ansS (⟨fr, to, ms, lim, tx⟩ : QP) (l.map RowV.says) ∧ Below w.heap.size w w' := by
  obtain ⟨i0, hi, hz0, hz1, hz2⟩ := info_parts row_info
  obtain ⟨w1, hw1⟩ : ∃ w1, w1 = w.alloc (.cells #[.int .i64 fr, .int .i64 to, .slice a n c, .int .i64 lim, .bool tx] 76) := ⟨_, rfl⟩
  obtain ⟨w2, hw2⟩ : ∃ w2, w2 = w1.alloc (.cells #[] 62) := ⟨_, rfl⟩
  have s1 : w1.heap.size = w.heap.size + 1 := by rw [hw1]; exact Array.size_push _
  have hb1 : Below w.heap.size w w1 := by rw [hw1]; exact (Below.refl _ _).alloc (Nat.le_refl _) _
  have hb2 : Below w1.heap.size w1 w2 := by rw [hw2]; exact (Below.refl _ _).alloc (Nat.le_refl _) _
  have hown2 : w2.ownsRow w1.heap.size 62 9 (.slice (some ⟨w1.heap.size, 0, none⟩) 0 0) 0 (rcells []) := by
    rw [hw2]
    exact World.ownsRow_lit (base := w1.heap.size) (e := 62) (size := 9) w1 #[] 0 (Nat.le_refl _) (by unfold maxLen; omega) rfl
  have HQ := Lib.hid (show ∀ wr, Below w1.heap.size w1 wr → Below (w.alloc (.cells #[.int .i64 fr, .int .i64 to, .slice a n c, .int .i64 lim, .bool tx] 76)).heap.size (w.alloc (.cells #[.int .i64 fr, .int .i64 to, .slice a n c, .int .i64 lim, .bool tx] 76)) wr from fun wr hb => by rw [hw1] at hb; exact hb)
  have HB1 := Lib.hid hb1
  have HB2 := Lib.hid hb2
  have HM := Lib.hid (h.keep hb1 (Nat.le_refl _))
  have HR1 := Lib.hid (hr.kept hb1)
  have HR := Lib.hid (HR1.out.kept hb2)
  have HL := Lib.hid hr.len
  have HO2 := Lib.hid hown2
  have HW2 := Lib.hid (show w2 = (w.alloc (.cells #[.int .i64 fr, .int .i64 to, .slice a n c, .int .i64 lim, .bool tx] 76)).alloc (.cells #[] 62) from by rw [hw2, hw1])
  have HS1 := Lib.hid s1
  clear h hr hb1 hb2 hown2 s1 hw2 hw1
  go_enter Try.func56, Try.ntmps56
  go_wp2_with fail
  rw [← HW2.out]
  refine (rsort_any HR.out hn).mono ?_
  rintro e w3 ⟨a3, c3, l3, rfl, hat3, hst3, hb3⟩
  have HSY := Lib.hid (show l3.map RowV.says = sortB ltS (l.map RowV.says) from sorted_says (l := l) (l1 := l) (fun j _ => rfl) hst3 HL.out hat3.len)
  have HSUB := Lib.hid (stable_sub hst3 HL.out hat3.len)
  have HAT3 := Lib.hid hat3
  have HB3 := Lib.hid (HB2.out.trans (hb3.mono HB2.out.size))
  have ho3 := own_below HO2.out hb3
  rw [HS1.out] at ho3
  have HO3 := Lib.hid ho3
  have HL3 := Lib.hid hat3.len
  have HNE3 := Lib.hid (show 0 < rn → ∀ b off, a3 = some ⟨b, off, none⟩ → b ≠ w.heap.size + 1 from fun hp b off ha e => by
    obtain ⟨b', off', ha', _, hc⟩ := hat3.cells hp
    rw [ha] at ha'
    cases ha'
    have h0 := hc 0 hp 0 _ rfl
    rcases ho3.2 with ⟨h1, _⟩ | ⟨g', cap', cur, he, _, hh, _, _, hsz, _⟩
    · cases h1
    · cases he
      rw [e, cell_of_row w3 _ _ _ _ (0, 0) hh] at h0
      have := (Array.getElem?_eq_some_iff.1 h0).1
      omega)
  have hc3 := hat3.cap
  have hcm3 := hat3.capm
  clear hat3 hst3 hb3 ho3
  go_wp2_with fail
  go_loopw [5, 7, 12] (fun s5 s7 s12 wr => ∃ (k g cap : Nat) (fs : List RowV) (N : Nat), k ≤ rn ∧ N ≤ k ∧ s5 = .slice (some ⟨g, 0, none⟩) N cap ∧ s12 = .int .i64 (k : Int) ∧ Hid (wr.ownsRow (w.heap.size + 1) 62 9 (.slice (some ⟨g, 0, none⟩) N cap) N (rcells fs)) ∧ Hid (fs.length = N ∧ (∀ x ∈ fs, ∃ y ∈ l3, x = y ∨ x = blankR y)) ∧ Hid (fs.map RowV.says = ((l3.take k).map RowV.says).foldl (stepS (⟨fr, to, ms, lim, tx⟩ : QP)) []) ∧ Hid (Below w1.heap.size w1 wr) ∧ Hid (RowsAt wr a3 rn c3 l3) ∧ Hid (0 < rn → ∀ b off, a3 = some ⟨b, off, none⟩ → b ≠ g)) (fun _ _ s12 _ => rn - (intOf s12).toNat)
  case atStart => exact ⟨0, w.heap.size + 1, 0, [], 0, by omega, by omega, by first | rfl | simp [HS1.out], rfl, HO3, Lib.hid ⟨rfl, fun x hx => by cases hx⟩, Lib.hid rfl, HB3, HAT3, HNE3⟩
  case round =>
    obtain ⟨k, g, cap, fs, N, hkn, hNk, rfl, rfl, HO, HF, HSAY, HB, HAT, HNE⟩ := hrel
    rename World => wr
    by_cases hlt : k < rn
    · have hlti : (k : Int) < (rn : Int) := by omega
      obtain ⟨b, off, ha3, hltb, hcell⟩ := HAT.out.cells (by omega)
      obtain ⟨x, hx⟩ : ∃ x, x = l3.getD k row0 := ⟨_, rfl⟩
      obtain ⟨d0, d1, d2, d3, d4, d5, d6, d7, d8⟩ := RowsAt.nine hcell hlt hx
      have HA3 := Lib.hid ha3
      subst ha3
      have hxm : x ∈ l3 := by rw [hx]; exact row_mem (by rw [HL3.out]; exact hlt)
      have HXM := Lib.hid hxm
      have HXL := Lib.hid (HAT.out.labs x hxm)
      have HTK := Lib.hid (show (l3.take (k + 1)).map RowV.says = (l3.take k).map RowV.says ++ [x.says] from by
        rw [List.take_succ_eq_append_getElem (by rw [HL3.out]; exact hlt), List.map_append]
        congr 2
        rw [hx]; simp [HL3.out, hlt])
      obtain ⟨b6, hb6⟩ : ∃ b6, b6 = wr.heap.size := ⟨_, rfl⟩
      obtain ⟨w6, hw6⟩ : ∃ w6, w6 = wr.alloc (.cells #[.int .i64 x.r.kind, .int .i64 x.r.time, .slice x.r.la x.r.ln x.r.lc, .string x.r.text, .int .i64 x.r.value, .bool x.r.null, .int .i64 x.who, .int .i64 x.sq, .int .i64 x.pl] 62) := ⟨_, rfl⟩
      have hb6w : Below wr.heap.size wr w6 := by rw [hw6]; exact (Below.refl _ _).alloc (Nat.le_refl _) _
      have HG6 := Lib.hid (show w6.heap[b6]? = some (.cells #[.int .i64 x.r.kind, .int .i64 x.r.time, .slice x.r.la x.r.ln x.r.lc, .string x.r.text, .int .i64 x.r.value, .bool x.r.null, .int .i64 x.who, .int .i64 x.sq, .int .i64 x.pl] 62 (0, 0)) from by rw [hw6, hb6]; exact heap_alloc_new _ _)
      have HL6 := Lib.hid (show b6 < w6.heap.size from (Array.getElem?_eq_some_iff.1 HG6.out).1)
      have HW6 := Lib.hid hw6
      have HB6 := Lib.hid hb6
      have HBW := Lib.hid (HB.out.trans (hb6w.mono HB.out.size))
      have HO6 := Lib.hid (own_below HO.out hb6w)
      have HAT6 := Lib.hid (HAT.out.kept hb6w)
      have HM6 := Lib.hid (HM.out.keep HBW.out (Nat.le_refl _))
      have HGN := Lib.hid (show g ≠ b6 from fun e => by
        have h1 := (HO.out.lt g rfl).2
        rw [e, hb6] at h1
        exact Nat.lt_irrefl _ h1)
      have HB36 := Lib.hid (show w1.heap.size ≤ b6 ∧ b < b6 from by rw [hb6]; exact ⟨HB.out.size, hltb⟩)
      have q0 : (wr.alloc (.cells #[.int .i64 x.r.kind, .int .i64 x.r.time, .slice x.r.la x.r.ln x.r.lc, .string x.r.text, .int .i64 x.r.value, .bool x.r.null, .int .i64 x.who, .int .i64 x.sq, .int .i64 x.pl] 62)).cell? ⟨w.heap.size, 0, none⟩ = some (.int .i64 fr) := box_cell (HQ.out _ (HB.out.alloc HB.out.size (.cells #[.int .i64 x.r.kind, .int .i64 x.r.time, .slice x.r.la x.r.ln x.r.lc, .string x.r.text, .int .i64 x.r.value, .bool x.r.null, .int .i64 x.who, .int .i64 x.sq, .int .i64 x.pl] 62))) rfl
      have q1 : (wr.alloc (.cells #[.int .i64 x.r.kind, .int .i64 x.r.time, .slice x.r.la x.r.ln x.r.lc, .string x.r.text, .int .i64 x.r.value, .bool x.r.null, .int .i64 x.who, .int .i64 x.sq, .int .i64 x.pl] 62)).cell? ⟨w.heap.size, 1, none⟩ = some (.int .i64 to) := box_cell (HQ.out _ (HB.out.alloc HB.out.size (.cells #[.int .i64 x.r.kind, .int .i64 x.r.time, .slice x.r.la x.r.ln x.r.lc, .string x.r.text, .int .i64 x.r.value, .bool x.r.null, .int .i64 x.who, .int .i64 x.sq, .int .i64 x.pl] 62))) rfl
      have q2 : (wr.alloc (.cells #[.int .i64 x.r.kind, .int .i64 x.r.time, .slice x.r.la x.r.ln x.r.lc, .string x.r.text, .int .i64 x.r.value, .bool x.r.null, .int .i64 x.who, .int .i64 x.sq, .int .i64 x.pl] 62)).cell? ⟨w.heap.size, 2, none⟩ = some (.slice a n c) := box_cell (HQ.out _ (HB.out.alloc HB.out.size (.cells #[.int .i64 x.r.kind, .int .i64 x.r.time, .slice x.r.la x.r.ln x.r.lc, .string x.r.text, .int .i64 x.r.value, .bool x.r.null, .int .i64 x.who, .int .i64 x.sq, .int .i64 x.pl] 62))) rfl
      have q3 : (wr.alloc (.cells #[.int .i64 x.r.kind, .int .i64 x.r.time, .slice x.r.la x.r.ln x.r.lc, .string x.r.text, .int .i64 x.r.value, .bool x.r.null, .int .i64 x.who, .int .i64 x.sq, .int .i64 x.pl] 62)).cell? ⟨w.heap.size, 3, none⟩ = some (.int .i64 lim) := box_cell (HQ.out _ (HB.out.alloc HB.out.size (.cells #[.int .i64 x.r.kind, .int .i64 x.r.time, .slice x.r.la x.r.ln x.r.lc, .string x.r.text, .int .i64 x.r.value, .bool x.r.null, .int .i64 x.who, .int .i64 x.sq, .int .i64 x.pl] 62))) rfl
      have q4 : (wr.alloc (.cells #[.int .i64 x.r.kind, .int .i64 x.r.time, .slice x.r.la x.r.ln x.r.lc, .string x.r.text, .int .i64 x.r.value, .bool x.r.null, .int .i64 x.who, .int .i64 x.sq, .int .i64 x.pl] 62)).cell? ⟨w.heap.size, 4, none⟩ = some (.bool tx) := box_cell (HQ.out _ (HB.out.alloc HB.out.size (.cells #[.int .i64 x.r.kind, .int .i64 x.r.time, .slice x.r.la x.r.ln x.r.lc, .string x.r.text, .int .i64 x.r.value, .bool x.r.null, .int .i64 x.who, .int .i64 x.sq, .int .i64 x.pl] 62))) rfl
      clear hx hxm hcell hltb hw6 hb6 hb6w
      go_wp2_with fail
      rw [← HW6.out, ← HB6.out]
      refine (rKeeps_any HM6.out (HAT6.out.labs x HXM.out)).mono ?_
      rintro e w7 ⟨rfl, hb7⟩
      have HB7 := Lib.hid (HBW.out.trans (hb7.mono HBW.out.size))
      have HAT7 := Lib.hid (HAT6.out.kept hb7)
      have HO7 := Lib.hid (own_below HO6.out hb7)
      have HG7 := Lib.hid ((hb7.block b6 HL6.out).trans HG6.out)
      have HL7 := Lib.hid (Nat.lt_of_lt_of_le HL6.out hb7.size)
      clear hb7 q0 q1 q2 q3 q4
      have q0 : w7.cell? ⟨w.heap.size, 0, none⟩ = some (.int .i64 fr) := box_cell (HQ.out w7 HB7.out) rfl
      have q1 : w7.cell? ⟨w.heap.size, 1, none⟩ = some (.int .i64 to) := box_cell (HQ.out w7 HB7.out) rfl
      have q2 : w7.cell? ⟨w.heap.size, 2, none⟩ = some (.slice a n c) := box_cell (HQ.out w7 HB7.out) rfl
      have q3 : w7.cell? ⟨w.heap.size, 3, none⟩ = some (.int .i64 lim) := box_cell (HQ.out w7 HB7.out) rfl
      have q4 : w7.cell? ⟨w.heap.size, 4, none⟩ = some (.bool tx) := box_cell (HQ.out w7 HB7.out) rfl
      cases hk : (qRight (⟨fr, to, ms, lim, tx⟩ : QP) && keepS (⟨fr, to, ms, lim, tx⟩ : QP) x.says) with
      | false =>
        have HS9 := Lib.hid (show fs.map RowV.says = ((l3.take (k + 1)).map RowV.says).foldl (stepS (⟨fr, to, ms, lim, tx⟩ : QP)) [] from by
          rw [HTK.out, List.foldl_append, ← HSAY.out, List.foldl_cons, List.foldl_nil, stepS_no hk])
        clear hk
        go_wp2_with fail
        go_roundw
        case rel => exact ⟨k + 1, g, cap, fs, N, by omega, by omega, rfl, by go_num, HO7, HF, HS9, HB7, HAT7, HNE⟩
        case measure => simp [intOf]; omega
      | true =>
        have HK := Lib.hid hk
        clear hk
        by_cases h1 : 0 < lim
        · by_cases h2 : lim ≤ (N : Int)
          · have z2 : decide (lim ≤ (N : Int)) = true := decide_eq_true h2
            have HS9 := Lib.hid (show fs.map RowV.says = ((l3.take (k + 1)).map RowV.says).foldl (stepS (⟨fr, to, ms, lim, tx⟩ : QP)) [] from by
              rw [HTK.out, List.foldl_append, ← HSAY.out, List.foldl_cons, List.foldl_nil, stepS_full ⟨h1, by rw [List.length_map, HF.out.1]; exact h2⟩])
            go_wp2_with fail
            go_roundw
            case rel => exact ⟨k + 1, g, cap, fs, N, by omega, by omega, rfl, by go_num, HO7, HF, HS9, HB7, HAT7, HNE⟩
            case measure => simp [intOf]; omega
          · have z2 : decide (lim ≤ (N : Int)) = false := decide_eq_false h2
            have HFUL := Lib.hid (show ¬ (0 < lim ∧ lim ≤ ((fs.map RowV.says).length : Int)) from fun e => h2 (by rw [List.length_map, HF.out.1] at e; exact e.2))
            cases tx with
            | true =>
              have HS9 := Lib.hid (show (fs ++ [x]).map RowV.says = ((l3.take (k + 1)).map RowV.says).foldl (stepS (⟨fr, to, ms, lim, true⟩ : QP)) [] from by
                rw [HTK.out, List.foldl_append, ← HSAY.out, List.foldl_cons, List.foldl_nil, stepS_yes HK.out HFUL.out, textS_yes rfl, List.map_append]; rfl)
              have HF9 := Lib.hid (show (fs ++ [x]).length = N + 1 ∧ ∀ z ∈ fs ++ [x], ∃ y ∈ l3, z = y ∨ z = blankR y from ⟨by rw [List.length_append, HF.out.1]; rfl, fun z hz => by
                rcases List.mem_append.1 hz with h | h
                · exact HF.out.2 z h
                · rw [List.mem_singleton.1 h]; exact ⟨x, HXM.out, .inl rfl⟩⟩)
              have x0 : w7.cell? ⟨b6, 0, none⟩ = some (.int .i64 x.r.kind) := cell_blk HG7.out rfl
              have x1 : w7.cell? ⟨b6, 1, none⟩ = some (.int .i64 x.r.time) := cell_blk HG7.out rfl
              have x2 : w7.cell? ⟨b6, 2, none⟩ = some (.slice x.r.la x.r.ln x.r.lc) := cell_blk HG7.out rfl
              have x3 : w7.cell? ⟨b6, 3, none⟩ = some (.string x.r.text) := cell_blk HG7.out rfl
              have x4 : w7.cell? ⟨b6, 4, none⟩ = some (.int .i64 x.r.value) := cell_blk HG7.out rfl
              have x5 : w7.cell? ⟨b6, 5, none⟩ = some (.bool x.r.null) := cell_blk HG7.out rfl
              have x6 : w7.cell? ⟨b6, 6, none⟩ = some (.int .i64 x.who) := cell_blk HG7.out rfl
              have x7 : w7.cell? ⟨b6, 7, none⟩ = some (.int .i64 x.sq) := cell_blk HG7.out rfl
              have x8 : w7.cell? ⟨b6, 8, none⟩ = some (.int .i64 x.pl) := cell_blk HG7.out rfl
              have hb8 : Below w7.heap.size w7 (w7.alloc (.cells #[.int .i64 x.r.kind, .int .i64 x.r.time, .slice x.r.la x.r.ln x.r.lc, .string x.r.text, .int .i64 x.r.value, .bool x.r.null, .int .i64 x.who, .int .i64 x.sq, .int .i64 x.pl] 62)) := (Below.refl _ _).alloc (Nat.le_refl _) _
              have HN8 := Lib.hid (own_below HO7.out hb8)
              have HB8 := Lib.hid (HB7.out.trans (hb8.mono HB7.out.size))
              have HAT8 := Lib.hid (HAT7.out.kept hb8)
              have hs8 : w.heap.size + 1 ≤ (w7.alloc (.cells #[.int .i64 x.r.kind, .int .i64 x.r.time, .slice x.r.la x.r.ln x.r.lc, .string x.r.text, .int .i64 x.r.value, .bool x.r.null, .int .i64 x.who, .int .i64 x.sq, .int .i64 x.pl] 62)).heap.size := by have h1 := HB8.out.size; have h2 := HS1.out; omega
              have hsrc8 := row_src w7 x 62
              have hszW : w7.heap.size = w7.heap.size := by first | rfl | simp [World.setCell]
              rw [hszW] at hsrc8
              have HSRC8 := Lib.hid hsrc8
              clear hb8 hsrc8 hszW
              go_wp2_with (at_builtin; refine wpList_append_own_at _ rfl (.tmp 37) (.tmp 39) 58 rfl (w.heap.size + 1) 62 i0 _ 9 96 Try.underlying58 hi hz0 hz1 hz2 rfl (by decide) _ _ _ rfl HN8.out ⟨w7.heap.size, 0, none⟩ 1 1 (RowV.cells x) rfl rfl HSRC8.out (rcells_one _) (by unfold maxLen; omega) (by omega) hs8 ?_)
              intro v9 w9 hown9 hgrow9 _ hob9
              have HN9 := Lib.hid (show w9.ownsRow (w.heap.size + 1) 62 9 v9 (N + 1) (rcells (fs ++ [x])) from by rw [rcells_snoc]; exact hown9)
              have HB9 := Lib.hid (HB8.out.grown hgrow9 HB8.out.size (fun p hp => by have h1 := (HN8.out.lt p hp).1; have h2 := HS1.out; omega))
              have HAT9 := Lib.hid (HAT8.out.grown hgrow9 (fun hp b' off' ha e => HNE.out hp b' off' ha (Option.some.inj e)) (fun y hy => (HR1.out.kept HB9.out).labs y (HSUB.out y hy)))
              obtain ⟨g9, cap9, rfl⟩ : ∃ g9 cap9, v9 = .slice (some ⟨g9, 0, none⟩) (N + 1) cap9 := by
                rcases HN9.out.2 with ⟨_, h0⟩ | ⟨g9, cap9, cur, he, _⟩
                · omega
                · exact ⟨g9, cap9, he⟩
              have HNE9 := Lib.hid (show 0 < rn → ∀ b' off', some (⟨b, off, none⟩ : Addr) = some ⟨b', off', none⟩ → b' ≠ g9 from fun hp b' off' ha e => by
                rcases hob9 with h | h
                · have h1 : g9 = g := Option.some.inj h
                  exact HNE.out hp b' off' ha (by rw [e, h1])
                · have h1 : g9 = w7.heap.size + 1 := Option.some.inj h
                  have h2 := HB36.out.2
                  have h3 := HL7.out
                  cases ha
                  omega)
              clear hown9 hgrow9 hs8 hob9
              go_wp2_with fail
              go_roundw
              case rel => exact ⟨k + 1, g9, cap9, fs ++ [x], N + 1, by omega, by omega, rfl, by go_num, HN9, HF9, HS9, HB9, HAT9, HNE9⟩
              case measure => simp [intOf]; omega
            | false =>
              have HS9 := Lib.hid (show (fs ++ [blankR x]).map RowV.says = ((l3.take (k + 1)).map RowV.says).foldl (stepS (⟨fr, to, ms, lim, false⟩ : QP)) [] from by
                rw [HTK.out, List.foldl_append, ← HSAY.out, List.foldl_cons, List.foldl_nil, stepS_yes HK.out HFUL.out, textS_no rfl, List.map_append]; rfl)
              have HF9 := Lib.hid (show (fs ++ [blankR x]).length = N + 1 ∧ ∀ z ∈ fs ++ [blankR x], ∃ y ∈ l3, z = y ∨ z = blankR y from ⟨by rw [List.length_append, HF.out.1]; rfl, fun z hz => by
                rcases List.mem_append.1 hz with h | h
                · exact HF.out.2 z h
                · rw [List.mem_singleton.1 h]; exact ⟨x, HXM.out, .inr rfl⟩⟩)
              have e3 : w7.cell? ⟨b6, 3, none⟩ = some (.string x.r.text) := cell_blk HG7.out rfl
              have f3 := fro_blk HG7.out 3
              obtain ⟨w8, hw8⟩ : ∃ w8, w8 = w7.setCell ⟨b6, 3, none⟩ (.string { data := #[] }) := ⟨_, rfl⟩
              have hb78 : Below b6 w7 w8 := by rw [hw8]; exact (Below.refl b6 w7).setCell (p := ⟨b6, 3, none⟩) (Nat.le_refl b6) _
              have HG8 := Lib.hid (show w8.heap[b6]? = some (.cells #[.int .i64 x.r.kind, .int .i64 x.r.time, .slice x.r.la x.r.ln x.r.lc, .string ByteArray.empty, .int .i64 x.r.value, .bool x.r.null, .int .i64 x.who, .int .i64 x.sq, .int .i64 x.pl] 62) from by rw [hw8, heap_set HG7.out 3]; rfl)
              have HS8 := Lib.hid (show w8.heap.size = w7.heap.size from by rw [hw8]; simp [World.setCell])
              have HBB8 := Lib.hid (HB7.out.trans (hb78.mono HB36.out.1))
              have HO8 := Lib.hid (HO7.out.kept (w' := w8) (row := some b6) ⟨hb78.os, hb78.tape, hb78.output, hb78.size, fun q hq hne => by rw [hw8]; exact Below.heap_setCell w7 _ _ q (fun e => hne (by rw [e]))⟩ (.inr (fun e => HGN.out (Option.some.inj e))))
              have HAT8' := Lib.hid (show RowsAt w8 (some ⟨b, off, none⟩) rn c3 l3 from HAT7.out.grown (w' := w8) (row := some b6) ⟨hb78.os, hb78.tape, hb78.output, hb78.size, fun q hq hne => by rw [hw8]; exact Below.heap_setCell w7 _ _ q (fun e => hne (by rw [e]))⟩ (fun _ b' off' ha e => by
                cases ha
                have h1 := HB36.out.2
                have h2 := Option.some.inj e
                omega) (fun y hy => (HR1.out.kept HBB8.out).labs y (HSUB.out y hy)))
              have y0 : w8.cell? ⟨b6, 0, none⟩ = some (.int .i64 x.r.kind) := cell_blk HG8.out rfl
              have y1 : w8.cell? ⟨b6, 1, none⟩ = some (.int .i64 x.r.time) := cell_blk HG8.out rfl
              have y2 : w8.cell? ⟨b6, 2, none⟩ = some (.slice x.r.la x.r.ln x.r.lc) := cell_blk HG8.out rfl
              have y3 : w8.cell? ⟨b6, 3, none⟩ = some (.string ByteArray.empty) := cell_blk HG8.out rfl
              have y4 : w8.cell? ⟨b6, 4, none⟩ = some (.int .i64 x.r.value) := cell_blk HG8.out rfl
              have y5 : w8.cell? ⟨b6, 5, none⟩ = some (.bool x.r.null) := cell_blk HG8.out rfl
              have y6 : w8.cell? ⟨b6, 6, none⟩ = some (.int .i64 x.who) := cell_blk HG8.out rfl
              have y7 : w8.cell? ⟨b6, 7, none⟩ = some (.int .i64 x.sq) := cell_blk HG8.out rfl
              have y8 : w8.cell? ⟨b6, 8, none⟩ = some (.int .i64 x.pl) := cell_blk HG8.out rfl
              rw [hw8] at y0 y1 y2 y3 y4 y5 y6 y7 y8 HS8 HBB8 HO8 HAT8'
              clear hw8 hb78 HG8
              have hb8 : Below (w7.setCell ⟨b6, 3, none⟩ (.string { data := #[] })).heap.size (w7.setCell ⟨b6, 3, none⟩ (.string { data := #[] })) ((w7.setCell ⟨b6, 3, none⟩ (.string { data := #[] })).alloc (.cells #[.int .i64 x.r.kind, .int .i64 x.r.time, .slice x.r.la x.r.ln x.r.lc, .string ByteArray.empty, .int .i64 x.r.value, .bool x.r.null, .int .i64 x.who, .int .i64 x.sq, .int .i64 x.pl] 62)) := (Below.refl _ _).alloc (Nat.le_refl _) _
              have HN8 := Lib.hid (own_below HO8.out hb8)
              have HB8 := Lib.hid (HBB8.out.trans (hb8.mono HBB8.out.size))
              have HAT8 := Lib.hid (HAT8'.out.kept hb8)
              have hs8 : w.heap.size + 1 ≤ ((w7.setCell ⟨b6, 3, none⟩ (.string { data := #[] })).alloc (.cells #[.int .i64 x.r.kind, .int .i64 x.r.time, .slice x.r.la x.r.ln x.r.lc, .string ByteArray.empty, .int .i64 x.r.value, .bool x.r.null, .int .i64 x.who, .int .i64 x.sq, .int .i64 x.pl] 62)).heap.size := by have h1 := HB8.out.size; have h2 := HS1.out; omega
              have hsrc8 := row_src (w7.setCell ⟨b6, 3, none⟩ (.string { data := #[] })) (blankR x) 62
              have hszW : (w7.setCell ⟨b6, 3, none⟩ (.string { data := #[] })).heap.size = w7.heap.size := by first | rfl | simp [World.setCell]
              rw [hszW] at hsrc8
              have HSRC8 := Lib.hid hsrc8
              clear hb8 hsrc8 hszW
              go_wp2_with (at_builtin; refine wpList_append_own_at _ rfl (.tmp 37) (.tmp 39) 58 rfl (w.heap.size + 1) 62 i0 _ 9 96 Try.underlying58 hi hz0 hz1 hz2 rfl (by decide) _ _ _ rfl HN8.out ⟨w7.heap.size, 0, none⟩ 1 1 (RowV.cells (blankR x)) rfl rfl HSRC8.out (rcells_one _) (by unfold maxLen; omega) (by omega) hs8 ?_)
              intro v9 w9 hown9 hgrow9 _ hob9
              have HN9 := Lib.hid (show w9.ownsRow (w.heap.size + 1) 62 9 v9 (N + 1) (rcells (fs ++ [(blankR x)])) from by rw [rcells_snoc]; exact hown9)
              have HB9 := Lib.hid (HB8.out.grown hgrow9 HB8.out.size (fun p hp => by have h1 := (HN8.out.lt p hp).1; have h2 := HS1.out; omega))
              have HAT9 := Lib.hid (HAT8.out.grown hgrow9 (fun hp b' off' ha e => HNE.out hp b' off' ha (Option.some.inj e)) (fun y hy => (HR1.out.kept HB9.out).labs y (HSUB.out y hy)))
              obtain ⟨g9, cap9, rfl⟩ : ∃ g9 cap9, v9 = .slice (some ⟨g9, 0, none⟩) (N + 1) cap9 := by
                rcases HN9.out.2 with ⟨_, h0⟩ | ⟨g9, cap9, cur, he, _⟩
                · omega
                · exact ⟨g9, cap9, he⟩
              have HNE9 := Lib.hid (show 0 < rn → ∀ b' off', some (⟨b, off, none⟩ : Addr) = some ⟨b', off', none⟩ → b' ≠ g9 from fun hp b' off' ha e => by
                rcases hob9 with h | h
                · have h1 : g9 = g := Option.some.inj h
                  exact HNE.out hp b' off' ha (by rw [e, h1])
                · have h1 : g9 = w7.heap.size + 1 := Option.some.inj h
                  have h2 := HB36.out.2
                  have h3 := HL7.out
                  cases ha
                  omega)
              clear hown9 hgrow9 hs8 hob9
              go_wp2_with fail
              go_roundw
              case rel => exact ⟨k + 1, g9, cap9, fs ++ [(blankR x)], N + 1, by omega, by omega, rfl, by go_num, HN9, HF9, HS9, HB9, HAT9, HNE9⟩
              case measure => simp [intOf]; omega
        · have HFUL := Lib.hid (show ¬ (0 < lim ∧ lim ≤ ((fs.map RowV.says).length : Int)) from fun e => h1 e.1)
          cases tx with
          | true =>
            have HS9 := Lib.hid (show (fs ++ [x]).map RowV.says = ((l3.take (k + 1)).map RowV.says).foldl (stepS (⟨fr, to, ms, lim, true⟩ : QP)) [] from by
              rw [HTK.out, List.foldl_append, ← HSAY.out, List.foldl_cons, List.foldl_nil, stepS_yes HK.out HFUL.out, textS_yes rfl, List.map_append]; rfl)
            have HF9 := Lib.hid (show (fs ++ [x]).length = N + 1 ∧ ∀ z ∈ fs ++ [x], ∃ y ∈ l3, z = y ∨ z = blankR y from ⟨by rw [List.length_append, HF.out.1]; rfl, fun z hz => by
              rcases List.mem_append.1 hz with h | h
              · exact HF.out.2 z h
              · rw [List.mem_singleton.1 h]; exact ⟨x, HXM.out, .inl rfl⟩⟩)
            have x0 : w7.cell? ⟨b6, 0, none⟩ = some (.int .i64 x.r.kind) := cell_blk HG7.out rfl
            have x1 : w7.cell? ⟨b6, 1, none⟩ = some (.int .i64 x.r.time) := cell_blk HG7.out rfl
            have x2 : w7.cell? ⟨b6, 2, none⟩ = some (.slice x.r.la x.r.ln x.r.lc) := cell_blk HG7.out rfl
            have x3 : w7.cell? ⟨b6, 3, none⟩ = some (.string x.r.text) := cell_blk HG7.out rfl
            have x4 : w7.cell? ⟨b6, 4, none⟩ = some (.int .i64 x.r.value) := cell_blk HG7.out rfl
            have x5 : w7.cell? ⟨b6, 5, none⟩ = some (.bool x.r.null) := cell_blk HG7.out rfl
            have x6 : w7.cell? ⟨b6, 6, none⟩ = some (.int .i64 x.who) := cell_blk HG7.out rfl
            have x7 : w7.cell? ⟨b6, 7, none⟩ = some (.int .i64 x.sq) := cell_blk HG7.out rfl
            have x8 : w7.cell? ⟨b6, 8, none⟩ = some (.int .i64 x.pl) := cell_blk HG7.out rfl
            have hb8 : Below w7.heap.size w7 (w7.alloc (.cells #[.int .i64 x.r.kind, .int .i64 x.r.time, .slice x.r.la x.r.ln x.r.lc, .string x.r.text, .int .i64 x.r.value, .bool x.r.null, .int .i64 x.who, .int .i64 x.sq, .int .i64 x.pl] 62)) := (Below.refl _ _).alloc (Nat.le_refl _) _
            have HN8 := Lib.hid (own_below HO7.out hb8)
            have HB8 := Lib.hid (HB7.out.trans (hb8.mono HB7.out.size))
            have HAT8 := Lib.hid (HAT7.out.kept hb8)
            have hs8 : w.heap.size + 1 ≤ (w7.alloc (.cells #[.int .i64 x.r.kind, .int .i64 x.r.time, .slice x.r.la x.r.ln x.r.lc, .string x.r.text, .int .i64 x.r.value, .bool x.r.null, .int .i64 x.who, .int .i64 x.sq, .int .i64 x.pl] 62)).heap.size := by have h1 := HB8.out.size; have h2 := HS1.out; omega
            have hsrc8 := row_src w7 x 62
            have hszW : w7.heap.size = w7.heap.size := by first | rfl | simp [World.setCell]
            rw [hszW] at hsrc8
            have HSRC8 := Lib.hid hsrc8
            clear hb8 hsrc8 hszW
            go_wp2_with (at_builtin; refine wpList_append_own_at _ rfl (.tmp 37) (.tmp 39) 58 rfl (w.heap.size + 1) 62 i0 _ 9 96 Try.underlying58 hi hz0 hz1 hz2 rfl (by decide) _ _ _ rfl HN8.out ⟨w7.heap.size, 0, none⟩ 1 1 (RowV.cells x) rfl rfl HSRC8.out (rcells_one _) (by unfold maxLen; omega) (by omega) hs8 ?_)
            intro v9 w9 hown9 hgrow9 _ hob9
            have HN9 := Lib.hid (show w9.ownsRow (w.heap.size + 1) 62 9 v9 (N + 1) (rcells (fs ++ [x])) from by rw [rcells_snoc]; exact hown9)
            have HB9 := Lib.hid (HB8.out.grown hgrow9 HB8.out.size (fun p hp => by have h1 := (HN8.out.lt p hp).1; have h2 := HS1.out; omega))
            have HAT9 := Lib.hid (HAT8.out.grown hgrow9 (fun hp b' off' ha e => HNE.out hp b' off' ha (Option.some.inj e)) (fun y hy => (HR1.out.kept HB9.out).labs y (HSUB.out y hy)))
            obtain ⟨g9, cap9, rfl⟩ : ∃ g9 cap9, v9 = .slice (some ⟨g9, 0, none⟩) (N + 1) cap9 := by
              rcases HN9.out.2 with ⟨_, h0⟩ | ⟨g9, cap9, cur, he, _⟩
              · omega
              · exact ⟨g9, cap9, he⟩
            have HNE9 := Lib.hid (show 0 < rn → ∀ b' off', some (⟨b, off, none⟩ : Addr) = some ⟨b', off', none⟩ → b' ≠ g9 from fun hp b' off' ha e => by
              rcases hob9 with h | h
              · have h1 : g9 = g := Option.some.inj h
                exact HNE.out hp b' off' ha (by rw [e, h1])
              · have h1 : g9 = w7.heap.size + 1 := Option.some.inj h
                have h2 := HB36.out.2
                have h3 := HL7.out
                cases ha
                omega)
            clear hown9 hgrow9 hs8 hob9
            go_wp2_with fail
            go_roundw
            case rel => exact ⟨k + 1, g9, cap9, fs ++ [x], N + 1, by omega, by omega, rfl, by go_num, HN9, HF9, HS9, HB9, HAT9, HNE9⟩
            case measure => simp [intOf]; omega
          | false =>
            have HS9 := Lib.hid (show (fs ++ [blankR x]).map RowV.says = ((l3.take (k + 1)).map RowV.says).foldl (stepS (⟨fr, to, ms, lim, false⟩ : QP)) [] from by
              rw [HTK.out, List.foldl_append, ← HSAY.out, List.foldl_cons, List.foldl_nil, stepS_yes HK.out HFUL.out, textS_no rfl, List.map_append]; rfl)
            have HF9 := Lib.hid (show (fs ++ [blankR x]).length = N + 1 ∧ ∀ z ∈ fs ++ [blankR x], ∃ y ∈ l3, z = y ∨ z = blankR y from ⟨by rw [List.length_append, HF.out.1]; rfl, fun z hz => by
              rcases List.mem_append.1 hz with h | h
              · exact HF.out.2 z h
              · rw [List.mem_singleton.1 h]; exact ⟨x, HXM.out, .inr rfl⟩⟩)
            have e3 : w7.cell? ⟨b6, 3, none⟩ = some (.string x.r.text) := cell_blk HG7.out rfl
            have f3 := fro_blk HG7.out 3
            obtain ⟨w8, hw8⟩ : ∃ w8, w8 = w7.setCell ⟨b6, 3, none⟩ (.string { data := #[] }) := ⟨_, rfl⟩
            have hb78 : Below b6 w7 w8 := by rw [hw8]; exact (Below.refl b6 w7).setCell (p := ⟨b6, 3, none⟩) (Nat.le_refl b6) _
            have HG8 := Lib.hid (show w8.heap[b6]? = some (.cells #[.int .i64 x.r.kind, .int .i64 x.r.time, .slice x.r.la x.r.ln x.r.lc, .string ByteArray.empty, .int .i64 x.r.value, .bool x.r.null, .int .i64 x.who, .int .i64 x.sq, .int .i64 x.pl] 62) from by rw [hw8, heap_set HG7.out 3]; rfl)
            have HS8 := Lib.hid (show w8.heap.size = w7.heap.size from by rw [hw8]; simp [World.setCell])
            have HBB8 := Lib.hid (HB7.out.trans (hb78.mono HB36.out.1))
            have HO8 := Lib.hid (HO7.out.kept (w' := w8) (row := some b6) ⟨hb78.os, hb78.tape, hb78.output, hb78.size, fun q hq hne => by rw [hw8]; exact Below.heap_setCell w7 _ _ q (fun e => hne (by rw [e]))⟩ (.inr (fun e => HGN.out (Option.some.inj e))))
            have HAT8' := Lib.hid (show RowsAt w8 (some ⟨b, off, none⟩) rn c3 l3 from HAT7.out.grown (w' := w8) (row := some b6) ⟨hb78.os, hb78.tape, hb78.output, hb78.size, fun q hq hne => by rw [hw8]; exact Below.heap_setCell w7 _ _ q (fun e => hne (by rw [e]))⟩ (fun _ b' off' ha e => by
              cases ha
              have h1 := HB36.out.2
              have h2 := Option.some.inj e
              omega) (fun y hy => (HR1.out.kept HBB8.out).labs y (HSUB.out y hy)))
            have y0 : w8.cell? ⟨b6, 0, none⟩ = some (.int .i64 x.r.kind) := cell_blk HG8.out rfl
            have y1 : w8.cell? ⟨b6, 1, none⟩ = some (.int .i64 x.r.time) := cell_blk HG8.out rfl
            have y2 : w8.cell? ⟨b6, 2, none⟩ = some (.slice x.r.la x.r.ln x.r.lc) := cell_blk HG8.out rfl
            have y3 : w8.cell? ⟨b6, 3, none⟩ = some (.string ByteArray.empty) := cell_blk HG8.out rfl
            have y4 : w8.cell? ⟨b6, 4, none⟩ = some (.int .i64 x.r.value) := cell_blk HG8.out rfl
            have y5 : w8.cell? ⟨b6, 5, none⟩ = some (.bool x.r.null) := cell_blk HG8.out rfl
            have y6 : w8.cell? ⟨b6, 6, none⟩ = some (.int .i64 x.who) := cell_blk HG8.out rfl
            have y7 : w8.cell? ⟨b6, 7, none⟩ = some (.int .i64 x.sq) := cell_blk HG8.out rfl
            have y8 : w8.cell? ⟨b6, 8, none⟩ = some (.int .i64 x.pl) := cell_blk HG8.out rfl
            rw [hw8] at y0 y1 y2 y3 y4 y5 y6 y7 y8 HS8 HBB8 HO8 HAT8'
            clear hw8 hb78 HG8
            have hb8 : Below (w7.setCell ⟨b6, 3, none⟩ (.string { data := #[] })).heap.size (w7.setCell ⟨b6, 3, none⟩ (.string { data := #[] })) ((w7.setCell ⟨b6, 3, none⟩ (.string { data := #[] })).alloc (.cells #[.int .i64 x.r.kind, .int .i64 x.r.time, .slice x.r.la x.r.ln x.r.lc, .string ByteArray.empty, .int .i64 x.r.value, .bool x.r.null, .int .i64 x.who, .int .i64 x.sq, .int .i64 x.pl] 62)) := (Below.refl _ _).alloc (Nat.le_refl _) _
            have HN8 := Lib.hid (own_below HO8.out hb8)
            have HB8 := Lib.hid (HBB8.out.trans (hb8.mono HBB8.out.size))
            have HAT8 := Lib.hid (HAT8'.out.kept hb8)
            have hs8 : w.heap.size + 1 ≤ ((w7.setCell ⟨b6, 3, none⟩ (.string { data := #[] })).alloc (.cells #[.int .i64 x.r.kind, .int .i64 x.r.time, .slice x.r.la x.r.ln x.r.lc, .string ByteArray.empty, .int .i64 x.r.value, .bool x.r.null, .int .i64 x.who, .int .i64 x.sq, .int .i64 x.pl] 62)).heap.size := by have h1 := HB8.out.size; have h2 := HS1.out; omega
            have hsrc8 := row_src (w7.setCell ⟨b6, 3, none⟩ (.string { data := #[] })) (blankR x) 62
            have hszW : (w7.setCell ⟨b6, 3, none⟩ (.string { data := #[] })).heap.size = w7.heap.size := by first | rfl | simp [World.setCell]
            rw [hszW] at hsrc8
            have HSRC8 := Lib.hid hsrc8
            clear hb8 hsrc8 hszW
            go_wp2_with (at_builtin; refine wpList_append_own_at _ rfl (.tmp 37) (.tmp 39) 58 rfl (w.heap.size + 1) 62 i0 _ 9 96 Try.underlying58 hi hz0 hz1 hz2 rfl (by decide) _ _ _ rfl HN8.out ⟨w7.heap.size, 0, none⟩ 1 1 (RowV.cells (blankR x)) rfl rfl HSRC8.out (rcells_one _) (by unfold maxLen; omega) (by omega) hs8 ?_)
            intro v9 w9 hown9 hgrow9 _ hob9
            have HN9 := Lib.hid (show w9.ownsRow (w.heap.size + 1) 62 9 v9 (N + 1) (rcells (fs ++ [(blankR x)])) from by rw [rcells_snoc]; exact hown9)
            have HB9 := Lib.hid (HB8.out.grown hgrow9 HB8.out.size (fun p hp => by have h1 := (HN8.out.lt p hp).1; have h2 := HS1.out; omega))
            have HAT9 := Lib.hid (HAT8.out.grown hgrow9 (fun hp b' off' ha e => HNE.out hp b' off' ha (Option.some.inj e)) (fun y hy => (HR1.out.kept HB9.out).labs y (HSUB.out y hy)))
            obtain ⟨g9, cap9, rfl⟩ : ∃ g9 cap9, v9 = .slice (some ⟨g9, 0, none⟩) (N + 1) cap9 := by
              rcases HN9.out.2 with ⟨_, h0⟩ | ⟨g9, cap9, cur, he, _⟩
              · omega
              · exact ⟨g9, cap9, he⟩
            have HNE9 := Lib.hid (show 0 < rn → ∀ b' off', some (⟨b, off, none⟩ : Addr) = some ⟨b', off', none⟩ → b' ≠ g9 from fun hp b' off' ha e => by
              rcases hob9 with h | h
              · have h1 : g9 = g := Option.some.inj h
                exact HNE.out hp b' off' ha (by rw [e, h1])
              · have h1 : g9 = w7.heap.size + 1 := Option.some.inj h
                have h2 := HB36.out.2
                have h3 := HL7.out
                cases ha
                omega)
            clear hown9 hgrow9 hs8 hob9
            go_wp2_with fail
            go_roundw
            case rel => exact ⟨k + 1, g9, cap9, fs ++ [(blankR x)], N + 1, by omega, by omega, rfl, by go_num, HN9, HF9, HS9, HB9, HAT9, HNE9⟩
            case measure => simp [intOf]; omega
    · obtain rfl : k = rn := by omega
      have hat := RowsAt.ofOwn HO.out HF.out.1 (fun x hx => by
        obtain ⟨y, hy, e⟩ := HF.out.2 x hx
        rcases e with e | e
        · rw [e]; exact HAT.out.fits y hy
        · rw [e]; exact fits_blank (HAT.out.fits y hy)) (fun x hx => by
        obtain ⟨y, hy, e⟩ := HF.out.2 x hx
        have h1 := HAT.out.labs y hy
        rcases e with e | e
        · rw [e]; exact h1
        · rw [e]; exact h1)
      obtain ⟨a9, c9, he9, hat⟩ := hat
      have HAT9 := Lib.hid hat
      have HE := Lib.hid (show fs.map RowV.says = ansS (⟨fr, to, ms, lim, tx⟩ : QP) (l.map RowV.says) from by
        rw [HSAY.out, List.take_of_length_le (by rw [HL3.out]; exact Nat.le_refl _), HSY.out, ref_ans])
      cases he9
      clear hat hlt
      go_wp2_with fail
      go_ret
      first | exact ⟨some ⟨g, 0, none⟩, N, cap, fs, rfl, HAT9.out, HE.out, HB1.out.trans (HB.out.mono HB1.out.size)⟩ | exact ⟨some ⟨g, 0, none⟩, N, cap, rfl, fs, HAT9.out, HE.out, HB1.out.trans (HB.out.mono HB1.out.size)⟩
end Go.Proofs.Ytjbljplgkbnpmaa
end SecQRL0
section SecQRL1
/- few and lives, of the laws on queries, walked. Written by genqlives.py. -/
namespace Go.Proofs.Ytjbljplgkbnpmaa
open Go.ChangeShapes Go.WideShapes Go.Deep Go.RowKit LabPlain RecPlain Stab
set_option linter.unusedVariables false

set_option maxRecDepth 100000 in
set_option maxHeartbeats 2000000 in
theorem qfew_any {w : World} {a : Option Addr} {n c : Nat} {ms : List Mat} {fr to lim : Int} {tx : Bool} (h : MatsAt w a n c ms) {ra : Option Addr} {rn rc : Nat} {l : List RowV} (hr : RowsAt w ra rn rc l) :
    Calls Try.prog 52 #[.agg #[.int .i64 fr, .int .i64 to, .slice a n c, .int .i64 lim, .bool tx], .slice ra rn rc] w fun e w' => ∃ r : Bool, e = .returned (.bool r) ∧ (r = true → rn ≤ 60 ∧ n ≤ 20) ∧ Below w.heap.size w w' := by
  obtain ⟨w1, hw1⟩ : ∃ w1, w1 = w.alloc (.cells #[.int .i64 fr, .int .i64 to, .slice a n c, .int .i64 lim, .bool tx] 76) := ⟨_, rfl⟩
  have hb1 : Below w.heap.size w w1 := by rw [hw1]; exact (Below.refl _ _).alloc (Nat.le_refl _) _
  have HB1 := Lib.hid hb1
  have HW1 := Lib.hid hw1
  have HB1L := Lib.hid (show Below w.heap.size w (w.alloc (.cells #[.int .i64 fr, .int .i64 to, .slice a n c, .int .i64 lim, .bool tx] 76)) from by rw [← hw1]; exact hb1)
  have HR := Lib.hid (hr.kept hb1)
  have hrc := hr.cap
  have hrm := hr.capm
  have hcap := h.cap
  have hcm := h.capm
  clear h hr hb1 hw1
  by_cases c1 : (20 : Int) < (n : Int)
  case pos =>
    go_enter Try.func52, Try.ntmps52
    go_wp2_with fail
    go_ret
    first | exact ⟨false, rfl, (fun h => by cases h), HB1L.out⟩ | exact .inl ⟨rfl, HB1L.out⟩
  case neg =>
    by_cases c2 : (60 : Int) < (rn : Int)
    case pos =>
      go_enter Try.func52, Try.ntmps52
      go_wp2_with fail
      go_ret
      first | exact ⟨false, rfl, (fun h => by cases h), HB1L.out⟩ | exact .inl ⟨rfl, HB1L.out⟩
    case neg =>
      have HN := Lib.hid (show rn ≤ 60 ∧ n ≤ 20 from by omega)
      go_enter Try.func52, Try.ntmps52
      go_wp2_with fail
      rw [← HW1.out]
      go_loopw [6, 18] (fun s6 s18 wr => ∃ k : Nat, k ≤ rn ∧ s18 = .int .i64 (k : Int) ∧ Hid (Below w1.heap.size w1 wr)) (fun _ s18 _ => rn - (intOf s18).toNat)
      case atStart => exact ⟨0, by omega, rfl, Lib.hid (Below.refl _ _)⟩
      case round =>
        obtain ⟨k, hkn, rfl, HB⟩ := hrel
        rename World => wr
        by_cases hlt : k < rn
        · have hlti : (k : Int) < (rn : Int) := by omega
          have hkp := HR.out.kept HB.out
          obtain ⟨b, off, rfl, hltb, hcell⟩ := hkp.cells (by omega)
          obtain ⟨x, hx⟩ : ∃ x, x = l.getD k row0 := ⟨_, rfl⟩
          obtain ⟨d0, d1, d2, d3, d4, d5, d6, d7, d8⟩ := RowsAt.nine hcell hlt hx
          have HBX := Lib.hid (HB.out.alloc HB.out.size (.cells #[.int .i64 x.r.kind, .int .i64 x.r.time, .slice x.r.la x.r.ln x.r.lc, .string x.r.text, .int .i64 x.r.value, .bool x.r.null, .int .i64 x.who, .int .i64 x.sq, .int .i64 x.pl] 62))
          have HBZ := Lib.hid (HB1.out.trans (HBX.out.mono HB1.out.size))
          clear hkp hcell hx hltb
          by_cases c3 : (50 : Int) < (x.r.ln : Int)
          case pos =>
            go_wp2_with fail
            go_ret
            first | exact ⟨false, rfl, (fun h => by cases h), HBZ.out⟩ | exact .inl ⟨rfl, HBZ.out⟩
          case neg =>
            by_cases c4 : (2000 : Int) < (x.r.text.size : Int)
            case pos =>
              go_wp2_with fail
              go_ret
              first | exact ⟨false, rfl, (fun h => by cases h), HBZ.out⟩ | exact .inl ⟨rfl, HBZ.out⟩
            case neg =>
              go_wp2_with fail
              go_roundw
              case rel => exact ⟨k + 1, by omega, by go_num, HBX⟩
              case measure => simp [intOf]; omega
        · obtain rfl : k = rn := by omega
          go_wp2_with fail
          go_ret
          first | exact ⟨true, rfl, (fun _ => HN.out), HB1.out.trans (HB.out.mono HB1.out.size)⟩ | exact .inr ⟨rfl, HN.out.1, HN.out.2, HB1.out.trans (HB.out.mono HB1.out.size)⟩

def qrow : RowV := ⟨⟨1, 5, none, 0, 0, [], { data := #[120] }, 0, false⟩, 1, 1, 0⟩
def qone : QP := ⟨5, 9, [], 0, true⟩
theorem qone_right : qRight qone = true := by decide
theorem qone_keeps : keepS qone qrow.says = true := by
  have h : meetsB [] [] = true := rfl
  unfold keepS qone qrow RowV.says
  simp [h]
theorem qone_ans : ansS qone [qrow.says] = [qrow.says] := by
  unfold ansS
  rw [if_pos qone_right, textS_yes rfl, List.map_id, List.filter_cons_of_pos qone_keeps, List.filter_nil]
  unfold cutS
  rw [if_neg (by decide)]; rfl
set_option maxRecDepth 100000 in
set_option maxHeartbeats 2000000 in
theorem lives12_any (w : World) : Calls Try.prog 51 #[] w fun e w' => e = .returned (.bool true) ∧ Below w.heap.size w w' := by
  obtain ⟨w1, hw1⟩ : ∃ w1, w1 = w.alloc (.cells #[.int .i64 5, .int .i64 9, .slice none 0 0, .int .i64 0, .bool true] 76) := ⟨_, rfl⟩
  obtain ⟨w2, hw2⟩ : ∃ w2, w2 = w1.alloc (.cells #[.int .i64 1, .int .i64 5, .slice none 0 0, .string { data := #[120] }, .int .i64 0, .bool false, .int .i64 1, .int .i64 1, .int .i64 0] 62) := ⟨_, rfl⟩
  obtain ⟨w3, hw3⟩ : ∃ w3, w3 = w2.alloc (.cells #[.int .i64 1, .int .i64 5, .slice none 0 0, .string { data := #[120] }, .int .i64 0, .bool false, .int .i64 1, .int .i64 1, .int .i64 0] 62) := ⟨_, rfl⟩
  have s1 : w1.heap.size = w.heap.size + 1 := by rw [hw1]; exact Array.size_push _
  have s2 : w2.heap.size = w.heap.size + 1 + 1 := by rw [hw2, ← s1]; exact Array.size_push _
  have hb1 : Below w.heap.size w w1 := by rw [hw1]; exact (Below.refl _ _).alloc (Nat.le_refl _) _
  have hb2 : Below w1.heap.size w1 w2 := by rw [hw2]; exact (Below.refl _ _).alloc (Nat.le_refl _) _
  have hb3 : Below w2.heap.size w2 w3 := by rw [hw3]; exact (Below.refl _ _).alloc (Nat.le_refl _) _
  have hq : ∀ wr, Below w3.heap.size w3 wr → wr.cell? ⟨w.heap.size, 0, none⟩ = some (.int .i64 5) ∧ wr.cell? ⟨w.heap.size, 1, none⟩ = some (.int .i64 9) ∧ wr.cell? ⟨w.heap.size, 2, none⟩ = some (.slice none 0 0) ∧ wr.cell? ⟨w.heap.size, 3, none⟩ = some (.int .i64 0) ∧ wr.cell? ⟨w.heap.size, 4, none⟩ = some (.bool true) := fun wr hb => by
    have h1 : Below w1.heap.size w1 wr := hb2.trans ((hb3.trans (hb.mono hb3.size)).mono hb2.size)
    rw [hw1] at h1
    exact ⟨box_cell h1 rfl, box_cell h1 rfl, box_cell h1 rfl, box_cell h1 rfl, box_cell h1 rfl⟩
  have hx : ∀ wr, Below w3.heap.size w3 wr → ∀ j u, (#[.int .i64 1, .int .i64 5, .slice none 0 0, .string { data := #[120] }, .int .i64 0, .bool false, .int .i64 1, .int .i64 1, .int .i64 0] : Array Value)[j]? = some u → wr.cell? ⟨w.heap.size + 1, j, none⟩ = some u := fun wr hb j u hu => by
    have h1 : Below w2.heap.size w2 wr := hb3.trans (hb.mono hb3.size)
    rw [hw2] at h1
    rw [← s1]
    exact box_cell h1 hu
  have hat : RowsAt w3 (some ⟨w.heap.size + 1 + 1, 0, none⟩) 1 1 [qrow] := by
    refine ⟨rfl, Nat.le_refl _, by omega, (fun e => by cases e), fun x hx => ?_, fun x hx => ?_, fun _ => ⟨w.heap.size + 1 + 1, 0, rfl, ?_, fun i hi j u hu => ?_⟩⟩
    · rw [List.mem_singleton.1 hx]; unfold RowV.fits RecV.fits qrow; decide
    · rw [List.mem_singleton.1 hx]; exact LabsAt.empty _ _ _ (by decide) (fun _ => rfl)
    · rw [← s2, hw3]; exact (Array.getElem?_eq_some_iff.1 (heap_alloc_new w2 _)).1
    · obtain rfl : i = 0 := by omega
      rw [← s2, hw3, Nat.zero_mul, Nat.zero_add]
      exact box_cell (Below.refl _ _) (by rw [← List.getElem?_toArray] at hu; exact hu)
  have HW3 := Lib.hid (show w3 = ((w.alloc (.cells #[.int .i64 5, .int .i64 9, .slice none 0 0, .int .i64 0, .bool true] 76)).alloc (.cells #[.int .i64 1, .int .i64 5, .slice none 0 0, .string { data := #[120] }, .int .i64 0, .bool false, .int .i64 1, .int .i64 1, .int .i64 0] 62)).alloc (.cells #[.int .i64 1, .int .i64 5, .slice none 0 0, .string { data := #[120] }, .int .i64 0, .bool false, .int .i64 1, .int .i64 1, .int .i64 0] 62) from by rw [hw3, hw2, hw1])
  have HB3 := Lib.hid (hb1.trans ((hb2.trans (hb3.mono hb2.size)).mono hb1.size))
  have HQ := Lib.hid hq
  have HX := Lib.hid hx
  have HAT := Lib.hid hat
  clear hw1 hw2 hw3 s1 s2 hb1 hb2 hb3 hq hx hat
  go_enter Try.func51, Try.ntmps51
  go_wp2_with fail
  rw [← HW3.out]
  refine (answer_any (MatsAt.empty w3 none 0 (by omega) (fun _ => rfl)) HAT.out (by omega)).mono ?_
  rintro e w4 ⟨a4, n4, c4, rs, rfl, hat4, hs4, hn4, _, hb4⟩
  have hs5 : rs.map RowV.says = [qrow.says] := by rw [hs4]; exact qone_ans
  obtain ⟨r, rfl⟩ : ∃ r, rs = [r] := by
    match rs, hs5 with
    | [r], _ => exact ⟨r, rfl⟩
    | [], h => simp at h
    | _ :: _ :: _, h => simp at h
  have hl4 := hat4.len
  simp only [List.length_cons, List.length_nil] at hl4
  obtain rfl : n4 = 1 := by omega
  obtain ⟨b, off, rfl, hltb, hc⟩ := hat4.cells (by omega)
  have ht : r.r.text = { data := #[120] } := by
    simp only [List.map_cons, List.map_nil, List.cons.injEq, and_true] at hs5
    unfold RowV.says qrow at hs5
    simp only [Prod.mk.injEq] at hs5
    exact hs5.2.2.2.1
  have d3 : w4.cell? ⟨b, off + 3, none⟩ = some (.string { data := #[120] }) := by
    have := hc 0 (by omega) 3 _ rfl
    rw [Nat.zero_mul, Nat.add_zero] at this
    rw [this]
    show some (Value.string r.r.text) = _
    rw [ht]
  have HD3 := Lib.hid d3
  have HLB := Lib.hid hltb
  have HB4 := Lib.hid hb4
  obtain ⟨q0, q1, q2, q3, q4⟩ := HQ.out w4 hb4
  clear hat4 hs4 hs5 hl4 hc ht d3 hltb hb4
  go_wp2_with fail
  refine (qright_any (MatsAt.empty w4 none 0 (by omega) (fun _ => rfl))).mono ?_
  rintro e w5 ⟨rfl, hb5⟩
  have HB5 := Lib.hid (HB4.out.trans (hb5.mono HB4.out.size))
  have hR := qone_right
  unfold qone at hR
  rw [hR]
  have d3 := (hb5.cell (p := ⟨b, off + 3, none⟩) HLB.out).trans HD3.out
  have HD3 := Lib.hid d3
  have HLB := Lib.hid (Nat.lt_of_lt_of_le HLB.out hb5.size)
  clear q0 q1 q2 q3 q4 d3 hb5 hR
  obtain ⟨q0, q1, q2, q3, q4⟩ := HQ.out w5 HB5.out
  have x0 : w5.cell? ⟨w.heap.size + 1, 0, none⟩ = some (.int .i64 1) := HX.out w5 HB5.out 0 _ rfl
  have x1 : w5.cell? ⟨w.heap.size + 1, 1, none⟩ = some (.int .i64 5) := HX.out w5 HB5.out 1 _ rfl
  have x2 : w5.cell? ⟨w.heap.size + 1, 2, none⟩ = some (.slice none 0 0) := HX.out w5 HB5.out 2 _ rfl
  have x3 : w5.cell? ⟨w.heap.size + 1, 3, none⟩ = some (.string { data := #[120] }) := HX.out w5 HB5.out 3 _ rfl
  have x4 : w5.cell? ⟨w.heap.size + 1, 4, none⟩ = some (.int .i64 0) := HX.out w5 HB5.out 4 _ rfl
  have x5 : w5.cell? ⟨w.heap.size + 1, 5, none⟩ = some (.bool false) := HX.out w5 HB5.out 5 _ rfl
  have x6 : w5.cell? ⟨w.heap.size + 1, 6, none⟩ = some (.int .i64 1) := HX.out w5 HB5.out 6 _ rfl
  have x7 : w5.cell? ⟨w.heap.size + 1, 7, none⟩ = some (.int .i64 1) := HX.out w5 HB5.out 7 _ rfl
  have x8 : w5.cell? ⟨w.heap.size + 1, 8, none⟩ = some (.int .i64 0) := HX.out w5 HB5.out 8 _ rfl
  go_wp2_with fail
  refine (qKeeps_any (x := qrow) (MatsAt.empty w5 none 0 (by omega) (fun _ => rfl)) (LabsAt.empty _ _ _ (by decide) (fun _ => rfl))).mono ?_
  rintro e w6 ⟨rfl, hb6⟩
  have hK := qone_keeps
  have hR := qone_right
  unfold qone at hR hK
  rw [hR, hK, Bool.true_and]
  have d3 := (hb6.cell (p := ⟨b, off + 3, none⟩) HLB.out).trans HD3.out
  have HB6 := Lib.hid (HB3.out.trans ((HB5.out.trans (hb6.mono HB5.out.size)).mono HB3.out.size))
  clear hK hR hb6 q0 q1 q2 q3 q4
  go_wp2_with fail
  go_ret
  exact ⟨rfl, HB6.out⟩
end Go.Proofs.Ytjbljplgkbnpmaa
end SecQRL1
