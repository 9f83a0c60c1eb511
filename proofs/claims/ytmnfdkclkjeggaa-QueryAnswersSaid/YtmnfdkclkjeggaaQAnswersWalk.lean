/- The law QueryAnswers, walked. Written by genqlives.py. -/
import Derived.Test.YtmnfdkclkjeggaaQLives
import Derived.Test.YtmnfdkclkjeggaaTwins
import Derived.Test.YtmnfdkclkjeggaaRowCmp
import Derived.Deep.RegionHeld3
namespace Go.Proofs.Ytmnfdkclkjeggaa
open Go.ChangeShapes Go.WideShapes Go.Deep Go.RowKit LabPlain RecPlain Stab
set_option linter.unusedVariables false

set_option maxRecDepth 100000 in
set_option maxHeartbeats 8000000 in
theorem query_answers (fr to : Int) (a : Option Addr) (n c : Nat) (ms : List Mat) (lim : Int) (tx : Bool) (ra : Option Addr) (rn rc : Nat) (l : List RowV) (w : World) (h : MatsAt w a n c ms) (hr : RowsAt w ra rn rc l) :
    Calls Try.prog 9 #[.agg #[.int .i64 fr, .int .i64 to, .slice a n c, .int .i64 lim, .bool tx], .slice ra rn rc] w fun e w' => e = .returned (.bool true) ∧ Below w.heap.size w w' := by
  obtain ⟨w1, hw1⟩ : ∃ w1, w1 = w.alloc (.cells #[.int .i64 fr, .int .i64 to, .slice a n c, .int .i64 lim, .bool tx] 59) := ⟨_, rfl⟩
  have hb1 : Below w.heap.size w w1 := by rw [hw1]; exact (Below.refl _ _).alloc (Nat.le_refl _) _
  have HW1 := Lib.hid hw1
  have HB1 := Lib.hid hb1
  have HM := Lib.hid (h.keep hb1 (Nat.le_refl _))
  have HR := Lib.hid (hr.kept hb1)
  have HL := Lib.hid hr.len
  have hrc := hr.cap
  have hrm := hr.capm
  have HQ := Lib.hid (show ∀ wr, Below w1.heap.size w1 wr → Below (w.alloc (.cells #[.int .i64 fr, .int .i64 to, .slice a n c, .int .i64 lim, .bool tx] 59)).heap.size (w.alloc (.cells #[.int .i64 fr, .int .i64 to, .slice a n c, .int .i64 lim, .bool tx] 59)) wr from fun wr hb => by rw [hw1] at hb; exact hb)
  clear h hr hb1 hw1
  go_enter Try.func9, Try.ntmps9
  go_wp2_with fail
  rw [← HW1.out]
  refine (lives12_any _).mono ?_
  rintro e w2 ⟨rfl, hb2⟩
  have HB2 := Lib.hid hb2
  have q0 : w2.cell? ⟨w.heap.size, 0, none⟩ = some (.int .i64 fr) := box_cell (HQ.out w2 HB2.out) rfl
  have q1 : w2.cell? ⟨w.heap.size, 1, none⟩ = some (.int .i64 to) := box_cell (HQ.out w2 HB2.out) rfl
  have q2 : w2.cell? ⟨w.heap.size, 2, none⟩ = some (.slice a n c) := box_cell (HQ.out w2 HB2.out) rfl
  have q3 : w2.cell? ⟨w.heap.size, 3, none⟩ = some (.int .i64 lim) := box_cell (HQ.out w2 HB2.out) rfl
  have q4 : w2.cell? ⟨w.heap.size, 4, none⟩ = some (.bool tx) := box_cell (HQ.out w2 HB2.out) rfl
  clear hb2
  go_wp2_with fail
  refine (qfew_any (HM.out.keep HB2.out (Nat.le_refl _)) (HR.out.kept HB2.out)).mono ?_
  rintro e w3 ⟨r, rfl, hfew, hb3⟩
  have HB3 := Lib.hid (HB2.out.trans (hb3.mono HB2.out.size))
  have HFEW := Lib.hid hfew
  clear hb3 hfew q0 q1 q2 q3 q4
  cases r
  case false =>
    go_wp2_with fail
    refine (lives12_any _).mono ?_
    rintro e w4 ⟨rfl, hb4⟩
    have HB4 := Lib.hid (HB3.out.trans (hb4.mono HB3.out.size))
    clear hb4
    go_wp2_with fail
    go_ret
    exact ⟨rfl, HB1.out.trans (HB4.out.mono HB1.out.size)⟩
  case true =>
    have hn : rn ≤ 60 := HFEW.out rfl
    go_wp2_with fail
    refine (twins_any (HR.out.kept HB3.out) (by omega)).mono ?_
    rintro e w4 ⟨v4, rs4, rfl, hown4, hs4, hb4⟩
    obtain ⟨a4, c4, rfl, hat4⟩ := hown4.at
    have HB4 := Lib.hid (HB3.out.trans (hb4.mono HB3.out.size))
    have HS4 := Lib.hid (show rs4.map RowV.says = l.map RowV.says from by
      apply List.ext_getElem
      · rw [List.length_map, List.length_map, hat4.len, HL.out]
      · intro i h1 h2
        rw [List.length_map] at h1 h2
        rw [List.getElem_map, List.getElem_map]
        have h3 := hs4 i (by rw [← HL.out]; exact h2)
        have e1 : atR rs4 i = rs4[i] := by simp [atR, h1]
        have e2 : atR l i = l[i] := by simp [atR, h2]
        rw [← e1, ← e2]; exact h3)
    have HAT4' := Lib.hid hat4
    clear hown4 hat4 hs4 hb4
    have q0 : w4.cell? ⟨w.heap.size, 0, none⟩ = some (.int .i64 fr) := box_cell (HQ.out w4 HB4.out) rfl
    have q1 : w4.cell? ⟨w.heap.size, 1, none⟩ = some (.int .i64 to) := box_cell (HQ.out w4 HB4.out) rfl
    have q2 : w4.cell? ⟨w.heap.size, 2, none⟩ = some (.slice a n c) := box_cell (HQ.out w4 HB4.out) rfl
    have q3 : w4.cell? ⟨w.heap.size, 3, none⟩ = some (.int .i64 lim) := box_cell (HQ.out w4 HB4.out) rfl
    have q4 : w4.cell? ⟨w.heap.size, 4, none⟩ = some (.bool tx) := box_cell (HQ.out w4 HB4.out) rfl
    go_wp2_with fail
    refine (answer_any (HM.out.keep HB4.out (Nat.le_refl _)) HAT4'.out (by omega)).mono ?_
    rintro e w5 ⟨a5, n5, c5, rs5, rfl, hat5, hs5, hn5, hb5⟩
    have HBW := Lib.hid (HB4.out.trans (hb5.mono HB4.out.size))
    have HAT4 := Lib.hid (HAT4'.out.kept hb5)
    have HAT5 := Lib.hid hat5
    have HS5 := Lib.hid (hs5.trans (by rw [HS4.out]))
    have z1 : (qRight (⟨fr, to, ms, lim, tx⟩ : QP) != qRight (⟨fr, to, ms, lim, tx⟩ : QP)) = false := by simp
    clear hat5 hs5 hb5 q0 q1 q2 q3 q4
    go_wp2_with fail
    have HBC := Lib.hid (Below.refl w5.heap.size w5).drew
    have q0 : w5.cell? ⟨w.heap.size, 0, none⟩ = some (.int .i64 fr) := box_cell (HQ.out w5 HBW.out) rfl
    have q1 : w5.cell? ⟨w.heap.size, 1, none⟩ = some (.int .i64 to) := box_cell (HQ.out w5 HBW.out) rfl
    have q2 : w5.cell? ⟨w.heap.size, 2, none⟩ = some (.slice a n c) := box_cell (HQ.out w5 HBW.out) rfl
    have q3 : w5.cell? ⟨w.heap.size, 3, none⟩ = some (.int .i64 lim) := box_cell (HQ.out w5 HBW.out) rfl
    have q4 : w5.cell? ⟨w.heap.size, 4, none⟩ = some (.bool tx) := box_cell (HQ.out w5 HBW.out) rfl
    go_region_held3 (fun w' => w'.cell? ⟨w.heap.size, 0, none⟩ = some (.int .i64 fr) ∧ w'.cell? ⟨w.heap.size, 1, none⟩ = some (.int .i64 to) ∧ w'.cell? ⟨w.heap.size, 2, none⟩ = some (.slice a n c) ∧ w'.cell? ⟨w.heap.size, 3, none⟩ = some (.int .i64 lim) ∧ w'.cell? ⟨w.heap.size, 4, none⟩ = some (.bool tx)) (first | exact ⟨box_cell (HQ.out _ (HBW.out.trans (HBC.out.mono HBW.out.size))) rfl, box_cell (HQ.out _ (HBW.out.trans (HBC.out.mono HBW.out.size))) rfl, box_cell (HQ.out _ (HBW.out.trans (HBC.out.mono HBW.out.size))) rfl, box_cell (HQ.out _ (HBW.out.trans (HBC.out.mono HBW.out.size))) rfl, box_cell (HQ.out _ (HBW.out.trans (HBC.out.mono HBW.out.size))) rfl⟩ | go_keep) (first | (go_at_call 42; refine (qright_any (HM.out.keep (HBW.out.trans (HBC.out.mono HBW.out.size)) (Nat.le_refl _))).mono ?_; rintro e w3 ⟨rfl, hbq⟩; have HBC := Lib.hid (HBC.out.trans (hbq.mono HBC.out.size)); try (have HAT8 := Lib.hid (HAT8.out.kept hbq))) | (go_at_call 43; refine (rqright_any (HM.out.keep (HBW.out.trans (HBC.out.mono HBW.out.size)) (Nat.le_refl _))).mono ?_; rintro e w3 ⟨rfl, hbq⟩; have HBC := Lib.hid (HBC.out.trans (hbq.mono HBC.out.size)); try (have HAT8 := Lib.hid (HAT8.out.kept hbq))) | (go_at_call 44; refine (ranswer_any (HM.out.keep (HBW.out.trans (HBC.out.mono HBW.out.size)) (Nat.le_refl _)) (HR.out.kept (HBW.out.trans (HBC.out.mono HBW.out.size))) (by omega)).mono ?_; rintro e w3 ⟨a8, n8, c8, rs8, rfl, hat8, hs8, hbq⟩; have HBC := Lib.hid (HBC.out.trans (hbq.mono HBC.out.size)); have HAT8 := Lib.hid hat8; have HS8 := Lib.hid hs8; clear hat8 hs8) | (go_at_call 31; refine (samerows_any (HAT5.out.kept HBC.out) HAT8.out).mono ?_; rintro e w3 ⟨he, hbq⟩; have HBC := Lib.hid (HBC.out.trans (hbq.mono HBC.out.size)); rw [show sameRs rs5 rs8 = true from sameRs_says (HS5.out.trans HS8.out.symm)] at he; subst he) | (go_at_call 31; refine (samerows_any (HAT4.out.kept HBC.out) (HR.out.kept (HBW.out.trans (HBC.out.mono HBW.out.size)))).mono ?_; rintro e w3 ⟨he, hbq⟩; have HBC := Lib.hid (HBC.out.trans (hbq.mono HBC.out.size)); rw [show sameRs rs4 l = true from sameRs_says HS4.out] at he; subst he))
    all_goals
      have HBL := Lib.hid (HBW.out.trans (HBC.out.mono HBW.out.size))
      clear HBC HBW q0 q1 q2 q3 q4 z1
      go_wp2_with fail
      go_loopw [8, 44] (fun s8 s44 wr => ∃ k : Nat, k ≤ rn ∧ s44 = .int .i64 (k : Int) ∧ Hid (Below w1.heap.size w1 wr)) (fun _ s44 _ => rn - (intOf s44).toNat)
      case atStart => exact ⟨0, by omega, rfl, HBL⟩
      case round =>
        obtain ⟨k, hkn, rfl, HBK⟩ := hrel
        rename World => wr
        by_cases hlt : k < rn
        · have hlti : (k : Int) < (rn : Int) := by omega
          have hkp := HR.out.kept HBK.out
          obtain ⟨b, off, rfl, hltb, hcell⟩ := hkp.cells (by omega)
          obtain ⟨x, hx⟩ : ∃ x, x = l.getD k row0 := ⟨_, rfl⟩
          obtain ⟨d0, d1, d2, d3, d4, d5, d6, d7, d8⟩ := RowsAt.nine hcell hlt hx
          have HXL0 := Lib.hid (hkp.labs x (by rw [hx]; exact row_mem (by rw [HL.out]; exact hlt)))
          obtain ⟨b6, hb6⟩ : ∃ b6, b6 = wr.heap.size := ⟨_, rfl⟩
          obtain ⟨w6, hw6⟩ : ∃ w6, w6 = wr.alloc (.cells #[.int .i64 x.r.kind, .int .i64 x.r.time, .slice x.r.la x.r.ln x.r.lc, .string x.r.text, .int .i64 x.r.value, .bool x.r.null, .int .i64 x.who, .int .i64 x.sq, .int .i64 x.pl] 51) := ⟨_, rfl⟩
          have hb6w : Below wr.heap.size wr w6 := by rw [hw6]; exact (Below.refl _ _).alloc (Nat.le_refl _) _
          have hx6 : ∀ w7, Below w6.heap.size w6 w7 → ∀ j u, x.cells[j]? = some u → w7.cell? ⟨b6, j, none⟩ = some u := by
            intro w7 h7 j u hu
            rw [hw6] at h7
            rw [hb6]
            exact box_cell h7 (by rw [RowV.cells] at hu; rw [← hu, List.getElem?_toArray])
          have HX6 := Lib.hid hx6
          have HW6 := Lib.hid hw6
          have HB6 := Lib.hid hb6
          have HBW := Lib.hid (HBK.out.trans (hb6w.mono HBK.out.size))
          have HXL := Lib.hid (HXL0.out.kept hb6w)
          have z1 : ((qRight (⟨fr, to, ms, lim, tx⟩ : QP) && keepS (⟨fr, to, ms, lim, tx⟩ : QP) x.says) != (qRight (⟨fr, to, ms, lim, tx⟩ : QP) && keepS (⟨fr, to, ms, lim, tx⟩ : QP) x.says)) = false := by simp
          clear hx hcell hltb hkp hx6 hw6 hb6 hb6w
          go_wp2_with fail
          rw [← HW6.out, ← HB6.out]
          have HBC := Lib.hid (Below.refl w6.heap.size w6).drew
          have q0 : w6.cell? ⟨w.heap.size, 0, none⟩ = some (.int .i64 fr) := box_cell (HQ.out w6 HBW.out) rfl
          have q1 : w6.cell? ⟨w.heap.size, 1, none⟩ = some (.int .i64 to) := box_cell (HQ.out w6 HBW.out) rfl
          have q2 : w6.cell? ⟨w.heap.size, 2, none⟩ = some (.slice a n c) := box_cell (HQ.out w6 HBW.out) rfl
          have q3 : w6.cell? ⟨w.heap.size, 3, none⟩ = some (.int .i64 lim) := box_cell (HQ.out w6 HBW.out) rfl
          have q4 : w6.cell? ⟨w.heap.size, 4, none⟩ = some (.bool tx) := box_cell (HQ.out w6 HBW.out) rfl
          have x0 : w6.cell? ⟨b6, 0, none⟩ = some (.int .i64 x.r.kind) := HX6.out w6 (Below.refl _ _) 0 _ rfl
          have x1 : w6.cell? ⟨b6, 1, none⟩ = some (.int .i64 x.r.time) := HX6.out w6 (Below.refl _ _) 1 _ rfl
          have x2 : w6.cell? ⟨b6, 2, none⟩ = some (.slice x.r.la x.r.ln x.r.lc) := HX6.out w6 (Below.refl _ _) 2 _ rfl
          have x3 : w6.cell? ⟨b6, 3, none⟩ = some (.string x.r.text) := HX6.out w6 (Below.refl _ _) 3 _ rfl
          have x4 : w6.cell? ⟨b6, 4, none⟩ = some (.int .i64 x.r.value) := HX6.out w6 (Below.refl _ _) 4 _ rfl
          have x5 : w6.cell? ⟨b6, 5, none⟩ = some (.bool x.r.null) := HX6.out w6 (Below.refl _ _) 5 _ rfl
          have x6 : w6.cell? ⟨b6, 6, none⟩ = some (.int .i64 x.who) := HX6.out w6 (Below.refl _ _) 6 _ rfl
          have x7 : w6.cell? ⟨b6, 7, none⟩ = some (.int .i64 x.sq) := HX6.out w6 (Below.refl _ _) 7 _ rfl
          have x8 : w6.cell? ⟨b6, 8, none⟩ = some (.int .i64 x.pl) := HX6.out w6 (Below.refl _ _) 8 _ rfl
          go_region_held3 (fun w' => w'.cell? ⟨w.heap.size, 0, none⟩ = some (.int .i64 fr) ∧ w'.cell? ⟨w.heap.size, 1, none⟩ = some (.int .i64 to) ∧ w'.cell? ⟨w.heap.size, 2, none⟩ = some (.slice a n c) ∧ w'.cell? ⟨w.heap.size, 3, none⟩ = some (.int .i64 lim) ∧ w'.cell? ⟨w.heap.size, 4, none⟩ = some (.bool tx) ∧ w'.cell? ⟨b6, 0, none⟩ = some (.int .i64 x.r.kind) ∧ w'.cell? ⟨b6, 1, none⟩ = some (.int .i64 x.r.time) ∧ w'.cell? ⟨b6, 2, none⟩ = some (.slice x.r.la x.r.ln x.r.lc) ∧ w'.cell? ⟨b6, 3, none⟩ = some (.string x.r.text) ∧ w'.cell? ⟨b6, 4, none⟩ = some (.int .i64 x.r.value) ∧ w'.cell? ⟨b6, 5, none⟩ = some (.bool x.r.null) ∧ w'.cell? ⟨b6, 6, none⟩ = some (.int .i64 x.who) ∧ w'.cell? ⟨b6, 7, none⟩ = some (.int .i64 x.sq) ∧ w'.cell? ⟨b6, 8, none⟩ = some (.int .i64 x.pl)) (first | exact ⟨box_cell (HQ.out _ (HBW.out.trans (HBC.out.mono HBW.out.size))) rfl, box_cell (HQ.out _ (HBW.out.trans (HBC.out.mono HBW.out.size))) rfl, box_cell (HQ.out _ (HBW.out.trans (HBC.out.mono HBW.out.size))) rfl, box_cell (HQ.out _ (HBW.out.trans (HBC.out.mono HBW.out.size))) rfl, box_cell (HQ.out _ (HBW.out.trans (HBC.out.mono HBW.out.size))) rfl, HX6.out _ HBC.out 0 _ rfl, HX6.out _ HBC.out 1 _ rfl, HX6.out _ HBC.out 2 _ rfl, HX6.out _ HBC.out 3 _ rfl, HX6.out _ HBC.out 4 _ rfl, HX6.out _ HBC.out 5 _ rfl, HX6.out _ HBC.out 6 _ rfl, HX6.out _ HBC.out 7 _ rfl, HX6.out _ HBC.out 8 _ rfl⟩ | go_keep) (first | (go_at_call 45; refine (qKeeps_any (x := x) (HM.out.keep (HBW.out.trans (HBC.out.mono HBW.out.size)) (Nat.le_refl _)) (HXL.out.kept HBC.out)).mono ?_; rintro e w3 ⟨rfl, hbq⟩; have HBC := Lib.hid (HBC.out.trans (hbq.mono HBC.out.size))) | (go_at_call 46; refine (rKeeps_any (x := x) (HM.out.keep (HBW.out.trans (HBC.out.mono HBW.out.size)) (Nat.le_refl _)) (HXL.out.kept HBC.out)).mono ?_; rintro e w3 ⟨rfl, hbq⟩; have HBC := Lib.hid (HBC.out.trans (hbq.mono HBC.out.size))))
          all_goals
            have HBK2 := Lib.hid (HBW.out.trans (HBC.out.mono HBW.out.size))
            clear HBC HBW q0 q1 q2 q3 q4 x0 x1 x2 x3 x4 x5 x6 x7 x8 z1
            go_wp2_with fail
            go_roundw
            case rel => exact ⟨k + 1, by omega, by go_num, HBK2⟩
            case measure => simp [intOf]; omega
        · obtain rfl : k = rn := by omega
          go_wp2_with fail
          go_ret
          exact ⟨rfl, HB1.out.trans (HBK.out.mono HB1.out.size)⟩
end Go.Proofs.Ytmnfdkclkjeggaa
