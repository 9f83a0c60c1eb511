/- The law RecordOrders, walked. Written by genorders.py. -/
import Derived.Test.YtaolljfpmbmfpaaOrdersPlain
import Derived.Test.YtaolljfpmbmfpaaRSort
import Derived.Test.YtaolljfpmbmfpaaTwins
import Derived.Test.YtaolljfpmbmfpaaSame
import Derived.Test.YtaolljfpmbmfpaaRecLives
namespace Go.Proofs.Ytaolljfpmbmfpaa
open Go.ChangeShapes Go.WideShapes Go.Deep Go.RowKit LabPlain RecPlain Stab
set_option linter.unusedVariables false

set_option maxRecDepth 100000 in
set_option maxHeartbeats 8000000 in
theorem record_orders (a : Option Addr) (n c : Nat) (l : List RowV) (w : World) (h : RowsAt w a n c l) :
    Calls Try.prog 5 #[.slice a n c] w fun e w' => e = .returned (.bool true) ∧ Below w.heap.size w w' := by
  have hcap := h.cap
  have hcm := h.capm
  have HH := Lib.hid h
  have HL := Lib.hid h.len
  clear h
  by_cases hn : n ≤ 60
  case neg =>
    have hni : (60 : Int) < (n : Int) := by omega
    go_enter Try.func5, Try.ntmps5
    go_wp2_with fail
    refine (lives9_any _).mono ?_
    rintro e w2 ⟨rfl, hb2⟩
    have HB2 := Lib.hid hb2
    clear hb2
    go_wp2_with fail
    refine (lives9_any _).mono ?_
    rintro e w3 ⟨rfl, hb3⟩
    have HB3 := Lib.hid (HB2.out.trans (hb3.mono HB2.out.size))
    clear hb3
    go_wp2_with fail
    go_ret
    exact ⟨rfl, HB3.out⟩
  case pos =>
    have hni : ¬ (60 : Int) < (n : Int) := by omega
    go_enter Try.func5, Try.ntmps5
    go_wp2_with fail
    refine (lives9_any _).mono ?_
    rintro e w2 ⟨rfl, hb2⟩
    have HB2 := Lib.hid hb2
    have HH2 := Lib.hid (HH.out.kept hb2)
    clear hb2
    go_wp2_with fail
    refine (twins_any HH2.out (by omega)).mono ?_
    rintro e w3 ⟨v3, l3, rfl, hown3, hs3, hb3⟩
    have HB3 := Lib.hid (HB2.out.trans (hb3.mono HB2.out.size))
    obtain ⟨a3, c3, rfl, hat3⟩ := hown3.at
    have HO3 := Lib.hid hat3
    have HS3 := Lib.hid hs3
    clear hown3 hs3 hb3 hat3
    go_wp2_with fail
    refine (sort_any HO3.out (by omega)).mono ?_
    rintro e w4 ⟨a4, c4, l1, l4, rfl, hat4, hs4, hst4, hb4⟩
    have HB4 := Lib.hid (HB3.out.trans (hb4.mono HB3.out.size))
    have HO4 := Lib.hid (HO3.out.kept hb4)
    have HAT4 := Lib.hid hat4
    have HS4 := Lib.hid hs4
    have HST4 := Lib.hid hst4
    clear hat4 hs4 hst4 hb4
    go_wp2_with fail
    refine (rsort_any (HH.out.kept HB4.out) (by omega)).mono ?_
    rintro e w5 ⟨a5, c5, l5, rfl, hat5, hst5, hb5⟩
    have HB5 := Lib.hid (HB4.out.trans (hb5.mono HB4.out.size))
    have HO5 := Lib.hid (HO4.out.kept hb5)
    have HAT45 := Lib.hid (HAT4.out.kept hb5)
    have HAT5 := Lib.hid hat5
    have HST5 := Lib.hid hst5
    have hsame : sameRs l4 l5 = true := sorts_same (l := l) (l2 := l) (fun j hj => (HS4.out j hj).trans (HS3.out j hj)) HST4.out hst5 HAT4.out.len hat5.len
    have hsame2 : sameRs l3 l = true := by
      unfold sameRs
      rw [decide_eq_true (by rw [HO3.out.len, HL.out]), sameTo_yes (fun j hj => HS3.out j (by rw [← HO3.out.len]; exact hj))]
      rfl
    clear hat5 hst5 hb5
    go_wp2_with fail
    refine (samerows_any HAT45.out HAT5.out).mono ?_
    rintro e w6 ⟨rfl, hb6⟩
    have HB6 := Lib.hid (HB5.out.trans (hb6.mono HB5.out.size))
    have HO6 := Lib.hid (HO5.out.kept hb6)
    clear hb6
    go_wp2_with fail
    refine (samerows_any HO6.out (HH.out.kept HB6.out)).mono ?_
    rintro e w7 ⟨rfl, hb7⟩
    have HB7 := Lib.hid (HB6.out.trans (hb7.mono HB6.out.size))
    clear hb7
    go_wp2_with fail
    go_loopw [5, 6, 32, 37] (fun s5 s6 s32 s37 wr => ∃ i : Nat, i ≤ n ∧ s32 = .int .i64 (i : Int) ∧ Hid (Below w.heap.size w wr)) (fun _ _ s32 _ _ => n - (intOf s32).toNat)
    case atStart => exact ⟨0, by omega, rfl, HB7⟩
    case round =>
      obtain ⟨i, hin, rfl, HBR⟩ := hrel
      rename World => wr
      by_cases hlt : i < n
      · have hlti : (i : Int) < (n : Int) := by omega
        go_wp2_with fail
        go_loopw [6, 37] (fun s6 s37 wq => ∃ k : Nat, k ≤ n ∧ s37 = .int .i64 (k : Int) ∧ Hid (Below w.heap.size w wq)) (fun _ s37 _ => n - (intOf s37).toNat)
        case atStart => exact ⟨0, by omega, rfl, HBR⟩
        case round =>
          obtain ⟨k, hkn, rfl, HBQ⟩ := hrel
          rename World => wq
          by_cases hkt : k < n
          · have hkti : (k : Int) < (n : Int) := by omega
            have hkp := HH.out.kept HBQ.out
            obtain ⟨b, off, rfl, hltb, hcell⟩ := hkp.cells (by omega)
            obtain ⟨x, hx⟩ : ∃ x, x = l.getD i row0 := ⟨_, rfl⟩
            obtain ⟨y, hy⟩ : ∃ y, y = l.getD k row0 := ⟨_, rfl⟩
            obtain ⟨cx0, cx1, cx2, cx3, cx4, cx5, cx6, cx7, cx8⟩ := RowsAt.nine hcell hlt hx
            obtain ⟨cy0, cy1, cy2, cy3, cy4, cy5, cy6, cy7, cy8⟩ := RowsAt.nine hcell hkt hy
            have HLX := Lib.hid (hkp.labs x (by rw [hx]; exact row_mem (by rw [HL.out]; exact hlt)))
            have HLY := Lib.hid (hkp.labs y (by rw [hy]; exact row_mem (by rw [HL.out]; exact hkt)))
            have z1 : (cmpRow x y != cmpRow x y) = false := by simp
            have z2 : (sameB x y != sameB x y) = false := by simp
            clear hx hy hcell hkp
            go_wp2_with fail
            have HBC := Lib.hid (Below.refl wq.heap.size wq).drew
            go_region_held3 (fun w' => w'.cell? ⟨b, off + i * 9, none⟩ = some (.int .i64 x.r.kind) ∧ w'.cell? ⟨b, off + i * 9 + 1, none⟩ = some (.int .i64 x.r.time) ∧ w'.cell? ⟨b, off + i * 9 + 2, none⟩ = some (.slice x.r.la x.r.ln x.r.lc) ∧ w'.cell? ⟨b, off + i * 9 + 3, none⟩ = some (.string x.r.text) ∧ w'.cell? ⟨b, off + i * 9 + 4, none⟩ = some (.int .i64 x.r.value) ∧ w'.cell? ⟨b, off + i * 9 + 5, none⟩ = some (.bool x.r.null) ∧ w'.cell? ⟨b, off + i * 9 + 6, none⟩ = some (.int .i64 x.who) ∧ w'.cell? ⟨b, off + i * 9 + 7, none⟩ = some (.int .i64 x.sq) ∧ w'.cell? ⟨b, off + i * 9 + 8, none⟩ = some (.int .i64 x.pl) ∧ w'.cell? ⟨b, off + k * 9, none⟩ = some (.int .i64 y.r.kind) ∧ w'.cell? ⟨b, off + k * 9 + 1, none⟩ = some (.int .i64 y.r.time) ∧ w'.cell? ⟨b, off + k * 9 + 2, none⟩ = some (.slice y.r.la y.r.ln y.r.lc) ∧ w'.cell? ⟨b, off + k * 9 + 3, none⟩ = some (.string y.r.text) ∧ w'.cell? ⟨b, off + k * 9 + 4, none⟩ = some (.int .i64 y.r.value) ∧ w'.cell? ⟨b, off + k * 9 + 5, none⟩ = some (.bool y.r.null) ∧ w'.cell? ⟨b, off + k * 9 + 6, none⟩ = some (.int .i64 y.who) ∧ w'.cell? ⟨b, off + k * 9 + 7, none⟩ = some (.int .i64 y.sq) ∧ w'.cell? ⟨b, off + k * 9 + 8, none⟩ = some (.int .i64 y.pl)) (first | exact ⟨(HBC.out.cell (p := ⟨b, off + i * 9, none⟩) hltb).trans cx0, (HBC.out.cell (p := ⟨b, off + i * 9 + 1, none⟩) hltb).trans cx1, (HBC.out.cell (p := ⟨b, off + i * 9 + 2, none⟩) hltb).trans cx2, (HBC.out.cell (p := ⟨b, off + i * 9 + 3, none⟩) hltb).trans cx3, (HBC.out.cell (p := ⟨b, off + i * 9 + 4, none⟩) hltb).trans cx4, (HBC.out.cell (p := ⟨b, off + i * 9 + 5, none⟩) hltb).trans cx5, (HBC.out.cell (p := ⟨b, off + i * 9 + 6, none⟩) hltb).trans cx6, (HBC.out.cell (p := ⟨b, off + i * 9 + 7, none⟩) hltb).trans cx7, (HBC.out.cell (p := ⟨b, off + i * 9 + 8, none⟩) hltb).trans cx8, (HBC.out.cell (p := ⟨b, off + k * 9, none⟩) hltb).trans cy0, (HBC.out.cell (p := ⟨b, off + k * 9 + 1, none⟩) hltb).trans cy1, (HBC.out.cell (p := ⟨b, off + k * 9 + 2, none⟩) hltb).trans cy2, (HBC.out.cell (p := ⟨b, off + k * 9 + 3, none⟩) hltb).trans cy3, (HBC.out.cell (p := ⟨b, off + k * 9 + 4, none⟩) hltb).trans cy4, (HBC.out.cell (p := ⟨b, off + k * 9 + 5, none⟩) hltb).trans cy5, (HBC.out.cell (p := ⟨b, off + k * 9 + 6, none⟩) hltb).trans cy6, (HBC.out.cell (p := ⟨b, off + k * 9 + 7, none⟩) hltb).trans cy7, (HBC.out.cell (p := ⟨b, off + k * 9 + 8, none⟩) hltb).trans cy8⟩ | go_keep) (first | (go_at_call 20; refine (compare_any x y _).mono ?_; rintro e w3 ⟨rfl, hbq⟩; have HBC := Lib.hid (HBC.out.trans (hbq.mono HBC.out.size))) | (go_at_call 21; refine (rcompare_any x y _).mono ?_; rintro e w3 ⟨rfl, hbq⟩; have HBC := Lib.hid (HBC.out.trans (hbq.mono HBC.out.size))) | (go_at_call 22; refine (psame_any x y (HLX.out.kept HBC.out) (HLY.out.kept HBC.out)).mono ?_; rintro e w3 ⟨rfl, hbq⟩; have HBC := Lib.hid (HBC.out.trans (hbq.mono HBC.out.size))) | (go_at_call 23; refine (rsame_any x y (HLX.out.kept HBC.out) (HLY.out.kept HBC.out)).mono ?_; rintro e w3 ⟨rfl, hbq⟩; have HBC := Lib.hid (HBC.out.trans (hbq.mono HBC.out.size))))
            all_goals
              have HBQ2 := Lib.hid (HBQ.out.trans (HBC.out.mono HBQ.out.size))
              clear cx0 cx1 cx2 cx3 cx4 cx5 cx6 cx7 cx8 cy0 cy1 cy2 cy3 cy4 cy5 cy6 cy7 cy8 HBC
              go_wp2_with fail
              go_roundw
              case rel => exact ⟨k + 1, by omega, by go_num, HBQ2⟩
              case measure => simp [intOf]; omega
          · obtain rfl : k = n := by omega
            go_wp2_with fail
            go_roundw
            case rel => exact ⟨i + 1, by omega, by go_num, HBQ⟩
            case measure => simp [intOf]; omega
      · obtain rfl : i = n := by omega
        go_wp2_with fail
        go_ret
        exact ⟨rfl, HBR.out⟩
end Go.Proofs.Ytaolljfpmbmfpaa
