/- slices.Equal of labels, record.Same: walked. Written by gensame.py. -/
import Derived.Test.YtaolljfpmbmfpaaCompare
namespace Go.Proofs.Ytaolljfpmbmfpaa
open Go.RowKit LabPlain RecPlain
set_option linter.unusedVariables false

set_option maxRecDepth 100000 in
set_option maxHeartbeats 1000000 in
theorem lequal_any {w : World} {a b : Option Addr} {n c n' c' : Nat} {l m : List Lab} (h : LabsAt w a n c l) (h' : LabsAt w b n' c' m) :
    Calls Try.prog 41 #[.slice a n c, .slice b n' c'] w fun e w' => e = .returned (.bool (decide (l = m))) ∧ Below w.heap.size w w' := by
  have hcap := h.cap
  have hcm := h.capm
  have hcap' := h'.cap
  have hcm' := h'.capm
  have HH := Lib.hid h
  have HH' := Lib.hid h'
  have HL := Lib.hid h.len
  have HL' := Lib.hid h'.len
  clear h h'
  by_cases hn : n = n'
  · subst hn
    have z0 : ((n : Int) != (n : Int)) = false := by simp
    go_enter Try.func41, Try.ntmps41
    go_wp2_with fail
    go_loopw [13] (fun s13 wr => ∃ k : Nat, k ≤ n ∧ s13 = .int .i64 (k : Int) ∧ Hid (∀ i, i < k → l.getD i lab0 = m.getD i lab0) ∧ Hid (Below w.heap.size w wr)) (fun s13 _ => n - (intOf s13).toNat)
    case atStart => exact ⟨0, by omega, rfl, Lib.hid (fun i hi => absurd hi (Nat.not_lt_zero _)), Lib.hid (Below.refl _ _)⟩
    case round =>
      obtain ⟨k, hk, rfl, HU, HB⟩ := hrel
      rename World => wr
      by_cases hkn : k < n
      · obtain ⟨b1, off, rfl, hlt, hcell⟩ := (HH.out.kept HB.out).cells (by omega)
        obtain ⟨h1, h2⟩ := hcell k hkn
        obtain ⟨b2, off2, rfl, hlt2, hcell2⟩ := (HH'.out.kept HB.out).cells (by omega)
        obtain ⟨g1, g2⟩ := hcell2 k hkn
        obtain ⟨x1, hx1⟩ : ∃ x, x = (l.getD k lab0).1 := ⟨_, rfl⟩
        obtain ⟨x2, hx2⟩ : ∃ x, x = (l.getD k lab0).2 := ⟨_, rfl⟩
        obtain ⟨y1, hy1⟩ : ∃ x, x = (m.getD k lab0).1 := ⟨_, rfl⟩
        obtain ⟨y2, hy2⟩ : ∃ x, x = (m.getD k lab0).2 := ⟨_, rfl⟩
        rw [← hx1] at h1
        rw [← hx2] at h2
        rw [← hy1] at g1
        rw [← hy2] at g2
        have HX := Lib.hid (show l.getD k lab0 = (x1, x2) by rw [hx1, hx2])
        have HY := Lib.hid (show m.getD k lab0 = (y1, y2) by rw [hy1, hy2])
        clear hx1 hx2 hy1 hy2 hcell hcell2
        have hkni : (k : Int) < (n : Int) := by omega
        have hk0 : (0 : Int) ≤ (k : Int) := by omega
        by_cases he : x1 = y1 ∧ x2 = y2
        · have q1 : (x1.toList == y1.toList) = true := by rw [eq_toList]; exact decide_eq_true he.1
          have q2 : (x2.toList == y2.toList) = true := by rw [eq_toList]; exact decide_eq_true he.2
          have HU2 := Lib.hid (show ∀ i, i < k + 1 → l.getD i lab0 = m.getD i lab0 from fun i hi => by
            rcases Nat.lt_or_ge i k with g | g
            · exact HU.out i g
            · obtain rfl : i = k := by omega
              rw [HX.out, HY.out, he.1, he.2])
          clear he
          go_wp2_with fail
          go_region
          go_wp2_with fail
          go_roundw
          case rel => exact ⟨k + 1, by omega, by go_num, HU2, Lib.hid HB.out.drew⟩
          case measure => simp [intOf]; omega
        · have HF := Lib.hid (show decide (l = m) = false by
            refine decide_eq_false fun e => he ?_
            have h1 := HX.out
            rw [e, HY.out] at h1
            simp only [Prod.mk.injEq] at h1
            exact ⟨h1.1.symm, h1.2.symm⟩)
          have q12 : (x1.toList = y1.toList ∧ ¬ x2.toList = y2.toList) ∨ ¬ x1.toList = y1.toList := by
            by_cases g1 : x1.toList = y1.toList
            · exact .inl ⟨g1, fun g2 => he ⟨toList_inj g1, toList_inj g2⟩⟩
            · exact .inr g1
          clear he
          rcases q12 with ⟨q1, q2⟩ | q1
          all_goals
            go_wp2_with fail
            go_region
            go_wp2_with fail
            go_ret
            rw [HF.out]; exact ⟨rfl, HB.out.drew⟩
      · obtain rfl : k = n := by omega
        have HT := Lib.hid (show decide (l = m) = true from decide_eq_true (labs_ext (by rw [HL.out, HL'.out]) (by rw [HL.out]; exact HU.out)))
        clear hkn
        go_wp2_with fail
        go_ret
        rw [HT.out]; exact ⟨rfl, HB.out⟩
  · have z0 : ((n : Int) != (n' : Int)) = true := by rw [bne_iff_ne]; omega
    have HF := Lib.hid (show decide (l = m) = false from decide_eq_false fun e => hn (by rw [← HL.out, ← HL'.out, e]))
    clear hn
    go_enter Try.func41, Try.ntmps41
    go_wp2_with fail
    go_ret
    rw [HF.out]; exact ⟨rfl, Below.refl _ _⟩

set_option maxRecDepth 100000 in
set_option maxHeartbeats 4000000 in
theorem psame_any {w : World} (x y : RowV) (hx : LabsAt w x.r.la x.r.ln x.r.lc x.r.labs) (hy : LabsAt w y.r.la y.r.ln y.r.lc y.r.labs) :
    Calls Try.prog 22 #[.agg #[.int .i64 x.r.kind, .int .i64 x.r.time, .slice x.r.la x.r.ln x.r.lc, .string x.r.text, .int .i64 x.r.value, .bool x.r.null, .int .i64 x.who, .int .i64 x.sq, .int .i64 x.pl], .agg #[.int .i64 y.r.kind, .int .i64 y.r.time, .slice y.r.la y.r.ln y.r.lc, .string y.r.text, .int .i64 y.r.value, .bool y.r.null, .int .i64 y.who, .int .i64 y.sq, .int .i64 y.pl]] w fun e w' => e = .returned (.bool (sameB x y)) ∧ Below w.heap.size w w' := by
  obtain ⟨w1, hw1⟩ : ∃ w1, w1 = w.alloc (.cells #[.int .i64 x.r.kind, .int .i64 x.r.time, .slice x.r.la x.r.ln x.r.lc, .string x.r.text, .int .i64 x.r.value, .bool x.r.null, .int .i64 x.who, .int .i64 x.sq, .int .i64 x.pl] 37) := ⟨_, rfl⟩
  obtain ⟨w2, hw2⟩ : ∃ w2, w2 = w1.alloc (.cells #[.int .i64 y.r.kind, .int .i64 y.r.time, .slice y.r.la y.r.ln y.r.lc, .string y.r.text, .int .i64 y.r.value, .bool y.r.null, .int .i64 y.who, .int .i64 y.sq, .int .i64 y.pl] 37) := ⟨_, rfl⟩
  have s1 : w1.heap.size = w.heap.size + 1 := by rw [hw1]; exact Array.size_push _
  have s2 : w2.heap.size = w.heap.size + 2 := by rw [hw2]; exact (Array.size_push _).trans (by rw [s1])
  have hb1 : Below w.heap.size w w1 := by rw [hw1]; exact (Below.refl _ _).alloc (Nat.le_refl _) _
  have hb2 : Below w1.heap.size w1 w2 := by rw [hw2]; exact (Below.refl _ _).alloc (Nat.le_refl _) _
  have g0 : w1.heap[w.heap.size]? = some (.cells #[.int .i64 x.r.kind, .int .i64 x.r.time, .slice x.r.la x.r.ln x.r.lc, .string x.r.text, .int .i64 x.r.value, .bool x.r.null, .int .i64 x.who, .int .i64 x.sq, .int .i64 x.pl] 37 (0, 0)) := by rw [hw1]; exact heap_alloc_new w _
  have g1 : w2.heap[w.heap.size + 1]? = some (.cells #[.int .i64 y.r.kind, .int .i64 y.r.time, .slice y.r.la y.r.ln y.r.lc, .string y.r.text, .int .i64 y.r.value, .bool y.r.null, .int .i64 y.who, .int .i64 y.sq, .int .i64 y.pl] 37 (0, 0)) := by rw [← s1, hw2]; exact heap_alloc_new w1 _
  have cx : ∀ k v, #[.int .i64 x.r.kind, .int .i64 x.r.time, .slice x.r.la x.r.ln x.r.lc, .string x.r.text, .int .i64 x.r.value, .bool x.r.null, .int .i64 x.who, .int .i64 x.sq, .int .i64 x.pl][k]? = some v → ∀ wr, Below w2.heap.size w2 wr → wr.cell? ⟨w.heap.size, k, none⟩ = some v := by
    intro k v hv wr h
    rw [cell_of_row _ _ _ _ _ (0, 0) (((h.block _ (by omega)).trans (hb2.block _ (by omega))).trans g0)]; exact hv
  have cy : ∀ k v, #[.int .i64 y.r.kind, .int .i64 y.r.time, .slice y.r.la y.r.ln y.r.lc, .string y.r.text, .int .i64 y.r.value, .bool y.r.null, .int .i64 y.who, .int .i64 y.sq, .int .i64 y.pl][k]? = some v → ∀ wr, Below w2.heap.size w2 wr → wr.cell? ⟨w.heap.size + 1, k, none⟩ = some v := by
    intro k v hv wr h
    rw [cell_of_row _ _ _ _ _ (0, 0) ((h.block _ (by omega)).trans g1)]; exact hv
  have hb : Below w.heap.size w w2 := hb1.trans (hb2.mono (by omega))
  have a0 := cx 0 _ rfl w2 (Below.refl _ _)
  have b0 := cy 0 _ rfl w2 (Below.refl _ _)
  have a1 := cx 1 _ rfl w2 (Below.refl _ _)
  have b1 := cy 1 _ rfl w2 (Below.refl _ _)
  have a2 := cx 2 _ rfl w2 (Below.refl _ _)
  have b2 := cy 2 _ rfl w2 (Below.refl _ _)
  have a3 := cx 3 _ rfl w2 (Below.refl _ _)
  have b3 := cy 3 _ rfl w2 (Below.refl _ _)
  have a4 := cx 4 _ rfl w2 (Below.refl _ _)
  have b4 := cy 4 _ rfl w2 (Below.refl _ _)
  have a5 := cx 5 _ rfl w2 (Below.refl _ _)
  have b5 := cy 5 _ rfl w2 (Below.refl _ _)
  have a6 := cx 6 _ rfl w2 (Below.refl _ _)
  have b6 := cy 6 _ rfl w2 (Below.refl _ _)
  have a7 := cx 7 _ rfl w2 (Below.refl _ _)
  have b7 := cy 7 _ rfl w2 (Below.refl _ _)
  have a8 := cx 8 _ rfl w2 (Below.refl _ _)
  have b8 := cy 8 _ rfl w2 (Below.refl _ _)
  have HCM := Lib.hid (compare_any x y w2)
  have HCX := Lib.hid cx
  have HCY := Lib.hid cy
  have HB := Lib.hid hb
  have HLX := Lib.hid (hx.kept hb)
  have HLY := Lib.hid (hy.kept hb)
  rw [hw2] at HCM HCX HCY HB HLX HLY a0 a1 a2 a3 a4 a5 a6 a7 a8 b0 b1 b2 b3 b4 b5 b6 b7 b8
  rw [hw1] at HCM HCX HCY HB HLX HLY a0 a1 a2 a3 a4 a5 a6 a7 a8 b0 b1 b2 b3 b4 b5 b6 b7 b8
  have HCM := Lib.hid HCM.out
  have HCX := Lib.hid HCX.out
  have HCY := Lib.hid HCY.out
  have HLX := Lib.hid HLX.out
  have HLY := Lib.hid HLY.out
  clear cx cy hb hb1 hb2 g0 g1 s1 s2 hx hy
  subst hw2
  subst hw1
  by_cases hk : x.key = y.key
  case neg =>
    have HF := Lib.hid (show sameB x y = false from sameB_no fun e => hk (by unfold RowV.says at e; simp only [Prod.mk.injEq] at e; simp [RowV.key, e]))
    have hz : (cmpRow x y == 0) = false := by rw [beq_eq_false_iff_ne]; exact fun e => hk (cmpL_zero rfl e)
    clear hk
    go_enter Try.func22, Try.ntmps22
    go_wp2_with fail
    refine HCM.out.mono ?_
    rintro e w3 ⟨rfl, hb3⟩
    clear a0 a1 a2 a3 a4 a5 a6 a7 a8 b0 b1 b2 b3 b4 b5 b6 b7 b8
    have a0 := HCX.out 0 _ rfl w3 hb3
    have b0 := HCY.out 0 _ rfl w3 hb3
    have a2 := HCX.out 2 _ rfl w3 hb3
    have b2 := HCY.out 2 _ rfl w3 hb3
    have a3 := HCX.out 3 _ rfl w3 hb3
    have b3 := HCY.out 3 _ rfl w3 hb3
    have a4 := HCX.out 4 _ rfl w3 hb3
    have b4 := HCY.out 4 _ rfl w3 hb3
    have a5 := HCX.out 5 _ rfl w3 hb3
    have b5 := HCY.out 5 _ rfl w3 hb3
    have HB3 := Lib.hid (HB.out.trans (hb3.mono HB.out.size))
    have HLX3 := Lib.hid (HLX.out.kept hb3)
    have HLY3 := Lib.hid (HLY.out.kept hb3)
    clear hb3
    go_wp2_with fail
    go_ret
    rw [HF.out]; exact ⟨rfl, HB3.out⟩
  case pos =>
    have hz : (cmpRow x y == 0) = true := by rw [beq_iff_eq]; unfold cmpRow; rw [hk]; exact cmpL_all rfl (fun _ _ => rfl)
    have HK := Lib.hid hk
    clear hk
    by_cases hkind : x.r.kind = y.r.kind
    case neg =>
      have HF := Lib.hid (show sameB x y = false from sameB_no fun e => hkind (by unfold RowV.says at e; simp only [Prod.mk.injEq] at e; simp [e]))
      have zkind : (x.r.kind == y.r.kind) = false := by rw [beq_eq_false_iff_ne]; exact hkind
      clear hkind
      go_enter Try.func22, Try.ntmps22
      go_wp2_with fail
      refine HCM.out.mono ?_
      rintro e w3 ⟨rfl, hb3⟩
      clear a0 a1 a2 a3 a4 a5 a6 a7 a8 b0 b1 b2 b3 b4 b5 b6 b7 b8
      have a0 := HCX.out 0 _ rfl w3 hb3
      have b0 := HCY.out 0 _ rfl w3 hb3
      have a2 := HCX.out 2 _ rfl w3 hb3
      have b2 := HCY.out 2 _ rfl w3 hb3
      have a3 := HCX.out 3 _ rfl w3 hb3
      have b3 := HCY.out 3 _ rfl w3 hb3
      have a4 := HCX.out 4 _ rfl w3 hb3
      have b4 := HCY.out 4 _ rfl w3 hb3
      have a5 := HCX.out 5 _ rfl w3 hb3
      have b5 := HCY.out 5 _ rfl w3 hb3
      have HB3 := Lib.hid (HB.out.trans (hb3.mono HB.out.size))
      have HLX3 := Lib.hid (HLX.out.kept hb3)
      have HLY3 := Lib.hid (HLY.out.kept hb3)
      clear hb3
      go_wp2_with fail
      go_ret
      rw [HF.out]; exact ⟨rfl, HB3.out⟩
    case pos =>
      have zkind : (x.r.kind == y.r.kind) = true := by rw [beq_iff_eq]; exact hkind
      have HKIND := Lib.hid hkind
      clear hkind
      by_cases htext : x.r.text.toList = y.r.text.toList
      case neg =>
        have HF := Lib.hid (show sameB x y = false from sameB_no fun e => htext (by unfold RowV.says at e; simp only [Prod.mk.injEq] at e; simp [e]))
        have ztext : (x.r.text.toList == y.r.text.toList) = false := by rw [beq_eq_false_iff_ne]; exact htext
        clear htext
        go_enter Try.func22, Try.ntmps22
        go_wp2_with fail
        refine HCM.out.mono ?_
        rintro e w3 ⟨rfl, hb3⟩
        clear a0 a1 a2 a3 a4 a5 a6 a7 a8 b0 b1 b2 b3 b4 b5 b6 b7 b8
        have a0 := HCX.out 0 _ rfl w3 hb3
        have b0 := HCY.out 0 _ rfl w3 hb3
        have a2 := HCX.out 2 _ rfl w3 hb3
        have b2 := HCY.out 2 _ rfl w3 hb3
        have a3 := HCX.out 3 _ rfl w3 hb3
        have b3 := HCY.out 3 _ rfl w3 hb3
        have a4 := HCX.out 4 _ rfl w3 hb3
        have b4 := HCY.out 4 _ rfl w3 hb3
        have a5 := HCX.out 5 _ rfl w3 hb3
        have b5 := HCY.out 5 _ rfl w3 hb3
        have HB3 := Lib.hid (HB.out.trans (hb3.mono HB.out.size))
        have HLX3 := Lib.hid (HLX.out.kept hb3)
        have HLY3 := Lib.hid (HLY.out.kept hb3)
        clear hb3
        go_wp2_with fail
        go_ret
        rw [HF.out]; exact ⟨rfl, HB3.out⟩
      case pos =>
        have ztext : (x.r.text.toList == y.r.text.toList) = true := by rw [beq_iff_eq]; exact htext
        have HTEXT := Lib.hid htext
        clear htext
        by_cases hvalue : x.r.value = y.r.value
        case neg =>
          have HF := Lib.hid (show sameB x y = false from sameB_no fun e => hvalue (by unfold RowV.says at e; simp only [Prod.mk.injEq] at e; simp [e]))
          have zvalue : (x.r.value == y.r.value) = false := by rw [beq_eq_false_iff_ne]; exact hvalue
          clear hvalue
          go_enter Try.func22, Try.ntmps22
          go_wp2_with fail
          refine HCM.out.mono ?_
          rintro e w3 ⟨rfl, hb3⟩
          clear a0 a1 a2 a3 a4 a5 a6 a7 a8 b0 b1 b2 b3 b4 b5 b6 b7 b8
          have a0 := HCX.out 0 _ rfl w3 hb3
          have b0 := HCY.out 0 _ rfl w3 hb3
          have a2 := HCX.out 2 _ rfl w3 hb3
          have b2 := HCY.out 2 _ rfl w3 hb3
          have a3 := HCX.out 3 _ rfl w3 hb3
          have b3 := HCY.out 3 _ rfl w3 hb3
          have a4 := HCX.out 4 _ rfl w3 hb3
          have b4 := HCY.out 4 _ rfl w3 hb3
          have a5 := HCX.out 5 _ rfl w3 hb3
          have b5 := HCY.out 5 _ rfl w3 hb3
          have HB3 := Lib.hid (HB.out.trans (hb3.mono HB.out.size))
          have HLX3 := Lib.hid (HLX.out.kept hb3)
          have HLY3 := Lib.hid (HLY.out.kept hb3)
          clear hb3
          go_wp2_with fail
          go_ret
          rw [HF.out]; exact ⟨rfl, HB3.out⟩
        case pos =>
          have zvalue : (x.r.value == y.r.value) = true := by rw [beq_iff_eq]; exact hvalue
          have HVALUE := Lib.hid hvalue
          clear hvalue
          by_cases hnull : x.r.null = y.r.null
          case neg =>
            have HF := Lib.hid (show sameB x y = false from sameB_no fun e => hnull (by unfold RowV.says at e; simp only [Prod.mk.injEq] at e; simp [e]))
            have znull : (x.r.null == y.r.null) = false := by rw [beq_eq_false_iff_ne]; exact hnull
            clear hnull
            go_enter Try.func22, Try.ntmps22
            go_wp2_with fail
            refine HCM.out.mono ?_
            rintro e w3 ⟨rfl, hb3⟩
            clear a0 a1 a2 a3 a4 a5 a6 a7 a8 b0 b1 b2 b3 b4 b5 b6 b7 b8
            have a0 := HCX.out 0 _ rfl w3 hb3
            have b0 := HCY.out 0 _ rfl w3 hb3
            have a2 := HCX.out 2 _ rfl w3 hb3
            have b2 := HCY.out 2 _ rfl w3 hb3
            have a3 := HCX.out 3 _ rfl w3 hb3
            have b3 := HCY.out 3 _ rfl w3 hb3
            have a4 := HCX.out 4 _ rfl w3 hb3
            have b4 := HCY.out 4 _ rfl w3 hb3
            have a5 := HCX.out 5 _ rfl w3 hb3
            have b5 := HCY.out 5 _ rfl w3 hb3
            have HB3 := Lib.hid (HB.out.trans (hb3.mono HB.out.size))
            have HLX3 := Lib.hid (HLX.out.kept hb3)
            have HLY3 := Lib.hid (HLY.out.kept hb3)
            clear hb3
            go_wp2_with fail
            go_ret
            rw [HF.out]; exact ⟨rfl, HB3.out⟩
          case pos =>
            have znull : (x.r.null == y.r.null) = true := by rw [beq_iff_eq]; exact hnull
            have HNULL := Lib.hid hnull
            clear hnull
            have HD := Lib.hid (show decide (x.r.labs = y.r.labs) = sameB x y from by
              refine (Bool.eq_iff_iff.2 ((decide_eq_true_iff).trans (Iff.trans ⟨fun e => ?_, fun e => by unfold RowV.says at e; simp only [Prod.mk.injEq] at e; exact e.2.2.1⟩ sameB_iff.symm)))
              have hk := HK.out
              simp only [RowV.key, List.cons.injEq] at hk
              unfold RowV.says
              rw [e, HKIND.out, HVALUE.out, HNULL.out, toList_inj HTEXT.out, hk.1, hk.2.1, hk.2.2.1, hk.2.2.2.1])
            go_enter Try.func22, Try.ntmps22
            go_wp2_with fail
            refine HCM.out.mono ?_
            rintro e w3 ⟨rfl, hb3⟩
            clear a0 a1 a2 a3 a4 a5 a6 a7 a8 b0 b1 b2 b3 b4 b5 b6 b7 b8
            have a0 := HCX.out 0 _ rfl w3 hb3
            have b0 := HCY.out 0 _ rfl w3 hb3
            have a2 := HCX.out 2 _ rfl w3 hb3
            have b2 := HCY.out 2 _ rfl w3 hb3
            have a3 := HCX.out 3 _ rfl w3 hb3
            have b3 := HCY.out 3 _ rfl w3 hb3
            have a4 := HCX.out 4 _ rfl w3 hb3
            have b4 := HCY.out 4 _ rfl w3 hb3
            have a5 := HCX.out 5 _ rfl w3 hb3
            have b5 := HCY.out 5 _ rfl w3 hb3
            have HB3 := Lib.hid (HB.out.trans (hb3.mono HB.out.size))
            have HLX3 := Lib.hid (HLX.out.kept hb3)
            have HLY3 := Lib.hid (HLY.out.kept hb3)
            clear hb3
            go_wp2_with fail
            refine (lequal_any HLX3.out HLY3.out).mono ?_
            rw [HD.out]
            rintro e w4 ⟨rfl, hb4⟩
            have HB4 := Lib.hid (HB3.out.trans (hb4.mono HB3.out.size))
            clear hb4
            go_wp2_with fail
            go_ret
            exact ⟨rfl, HB4.out⟩
end Go.Proofs.Ytaolljfpmbmfpaa
