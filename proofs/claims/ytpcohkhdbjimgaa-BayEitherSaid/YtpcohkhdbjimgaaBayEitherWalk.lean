/- The law BayEither, walked. Written by genbayeither.py. -/
import Derived.Test.YtpcohkhdbjimgaaBay2
namespace Go.Proofs.Ytpcohkhdbjimgaa
open Go.RowKit Go.Conc
set_option linter.unusedVariables false

set_option maxRecDepth 100000 in
set_option maxHeartbeats 4000000 in
theorem bay_either (a : Option Addr) (n c : Nat) (zs : List Int) (a1 : Option Addr) (n1 c1 : Nat) (zs1 : List Int) (z : Int) (w : World) (h : IsRow .i64 8 w a n c zs) (h1 : IsRow .i64 8 w a1 n1 c1 zs1) (hz : (Lit.int .i64 z).wf = true) :
    Calls Try.prog 4 #[.slice a n c, .slice a1 n1 c1, .int .i64 z] w fun e w' => e = .returned (.bool true) ∧ Below w.heap.size w w' := by
  obtain ⟨fs, hfs⟩ : ∃ fs, IntsAt w a n c fs := ⟨_, h.ints⟩
  obtain ⟨gs, hgs⟩ : ∃ gs, IntsAt w a1 n1 c1 gs := ⟨_, h1.ints⟩
  have HH := Lib.hid hfs
  have H1 := Lib.hid hgs
  have cp0 := hfs.cap
  have cm0 := hfs.capm
  have cp1 := hgs.cap
  have cm1 := hgs.capm
  have HLV := Lib.hid (lives_any w)
  clear h h1 hfs hgs hz
  have quit : ∀ w1, Below w.heap.size w w1 → Calls Try.prog 8 #[] w1 fun e w' => e = .returned (.bool true) ∧ Below w.heap.size w w' := fun w1 h1 =>
    (lives_any w1).mono fun e w' he => ⟨he.1, h1.trans (he.2.mono h1.size)⟩
  have HQ := Lib.hid quit
  clear quit
  by_cases g0 : 100 < n
  · have g0i : (100 : Int) < (n : Int) := by omega
    clear g0
    go_enter Try.func4, Try.ntmps4
    go_wp2_with fail
    refine HLV.out.mono ?_
    rintro e w1 ⟨rfl, hb1⟩
    have HB1 := Lib.hid hb1
    clear hb1
    go_wp2_with fail
    refine (HQ.out _ HB1.out).mono ?_
    rintro e w3 ⟨rfl, hb3⟩
    have HB3 := Lib.hid hb3
    clear hb3
    go_wp2_with fail
    go_ret
    exact ⟨rfl, HB3.out⟩
  have g0i : (n : Int) ≤ 100 := by omega
  by_cases g1 : 100 < n1
  · have g1i : (100 : Int) < (n1 : Int) := by omega
    clear g0 g1
    go_enter Try.func4, Try.ntmps4
    go_wp2_with fail
    refine HLV.out.mono ?_
    rintro e w1 ⟨rfl, hb1⟩
    have HB1 := Lib.hid hb1
    clear hb1
    go_wp2_with fail
    refine (HQ.out _ HB1.out).mono ?_
    rintro e w3 ⟨rfl, hb3⟩
    have HB3 := Lib.hid hb3
    clear hb3
    go_wp2_with fail
    go_ret
    exact ⟨rfl, HB3.out⟩
  have g1i : (n1 : Int) ≤ 100 := by omega
  cases hb1 : (bits .and .i64 z 1 == 1) <;> cases hb2 : (bits .and .i64 z 2 == 2)
  · go_enter Try.func4, Try.ntmps4
    go_wp2_with fail
    refine HLV.out.mono ?_
    rintro e w1 ⟨rfl, hb1⟩
    have HB1 := Lib.hid hb1
    clear hb1
    go_wp2_with fail
    refine (new_yes 101 (by omega) (by omega) w1).mono ?_
    rintro e w2 ⟨rfl, hx2, hb2⟩
    have HX2 := Lib.hid hx2
    have HB2 := Lib.hid (HB1.out.trans (hb2.mono HB1.out.size))
    have hlt2 : w1.heap.size + 1 < w2.heap.size := hx2.ltB
    have hlw1 : w.heap.size ≤ w1.heap.size := HB1.out.size
    have hlw2 : w.heap.size ≤ w2.heap.size := HB2.out.size
    clear hx2 hb2
    go_wp2_with fail
    refine (new_yes 101 (by omega) (by omega) w2).mono ?_
    rintro e w3 ⟨rfl, hx3, hb3⟩
    have HB3 := Lib.hid (HB2.out.trans (hb3.mono HB2.out.size))
    have HT3 := Lib.hid (show Two w3 w.heap.size 101 (some (w1.heap.size + 1)) w1.heap.size (some (w2.heap.size + 1)) w2.heap.size ([]) ([]) from ⟨⟨HX2.out.kept hb3, hlw1⟩, ⟨hx3, hlw2⟩, fun B E h1 h2 => by simp only [Option.some.injEq] at h1 h2; omega⟩)
    clear hx3 hb3
    go_wp2_with fail
    go_loopw [46] (fun s46 wr => ∃ k : Nat, k ≤ n ∧ s46 = .int .i64 (k : Int) ∧ Hid (Two wr w.heap.size 101 (some (w1.heap.size + 1)) w1.heap.size (some (w2.heap.size + 1)) w2.heap.size (fs.take k) ([])) ∧ Hid (Below w.heap.size w wr)) (fun s46 _ => n - (intOf s46).toNat)
    case atStart => exact ⟨0, by omega, rfl, Lib.hid (by simpa using HT3.out), HB3⟩
    case round =>
      clear HT3 HB3
      obtain ⟨k, hk, rfl, HT, HB⟩ := hrel
      rename World => wr
      by_cases hkn : k < n
      · have hkl : k < fs.length := by rw [HH.out.len]; exact hkn
        have hdr : fs.drop k = fs.getD k 0 :: fs.drop (k + 1) := by rw [List.drop_eq_getElem_cons hkl]; simp [hkl]
        have htk : fs.take (k + 1) = fs.take k ++ [fs.getD k 0] := by rw [List.take_succ_eq_append_getElem hkl]; simp [hkl]
        obtain ⟨b, off, rfl, hlt, hcell⟩ := (HH.out.kept HB.out).cells (by omega)
        have hc1 := hcell k hkn
        obtain ⟨x, hx⟩ : ∃ x, x = fs.getD k 0 := ⟨_, rfl⟩
        rw [← hx] at hc1 hdr htk
        have hki : (k : Int) < (n : Int) := by omega
        have hbw := HB.out.size
        have HDR := Lib.hid hdr
        have HTK := Lib.hid htk
        clear hcell hx hdr htk
        go_wp2_with fail
        refine (two_put HT.out x (by rw [List.length_take]; omega)).mono ?_
        rintro e w5 ⟨rfl, ht5, hg5, _⟩
        have HB5 := Lib.hid (HB.out.grown hg5 hbw (fun j hj => by simp at hj; omega))
        have HT5 := Lib.hid (ht5)
        clear ht5 hg5
        go_wp2_with fail
        go_roundw
        case rel => exact ⟨k + 1, by omega, by go_num, Lib.hid (by rw [HTK.out]; exact HT5.out), HB5⟩
        case measure => simp [intOf] <;> omega
      · obtain rfl : n = k := by omega
        clear hkn hk
        have HTE := Lib.hid (show Two wr w.heap.size 101 (some (w1.heap.size + 1)) w1.heap.size (some (w2.heap.size + 1)) w2.heap.size (fs) ([]) from (by have := HT.out; rw [List.take_of_length_le (by rw [HH.out.len]; omega)] at this; exact this))
        go_wp2_with fail
        go_loopw [56] (fun s56 wr => ∃ k : Nat, k ≤ n1 ∧ s56 = .int .i64 (k : Int) ∧ Hid (Two wr w.heap.size 101 (some (w1.heap.size + 1)) w1.heap.size (some (w2.heap.size + 1)) w2.heap.size (fs) (gs.take k)) ∧ Hid (Below w.heap.size w wr)) (fun s56 _ => n1 - (intOf s56).toNat)
        case atStart => exact ⟨0, by omega, rfl, Lib.hid (by simpa using HTE.out), HB⟩
        case round =>
          clear HTE HB
          obtain ⟨k, hk, rfl, HT, HB⟩ := hrel
          rename World => wr
          by_cases hkn : k < n1
          · have hkl : k < gs.length := by rw [H1.out.len]; exact hkn
            have hdr : gs.drop k = gs.getD k 0 :: gs.drop (k + 1) := by rw [List.drop_eq_getElem_cons hkl]; simp [hkl]
            have htk : gs.take (k + 1) = gs.take k ++ [gs.getD k 0] := by rw [List.take_succ_eq_append_getElem hkl]; simp [hkl]
            obtain ⟨b, off, rfl, hlt, hcell⟩ := (H1.out.kept HB.out).cells (by omega)
            have hc1 := hcell k hkn
            obtain ⟨x, hx⟩ : ∃ x, x = gs.getD k 0 := ⟨_, rfl⟩
            rw [← hx] at hc1 hdr htk
            have hki : (k : Int) < (n1 : Int) := by omega
            have hbw := HB.out.size
            have HDR := Lib.hid hdr
            have HTK := Lib.hid htk
            clear hcell hx hdr htk
            go_wp2_with fail
            refine (two_put HT.out.symm x (by rw [List.length_take]; omega)).mono ?_
            rintro e w5 ⟨rfl, ht5, hg5, _⟩
            have HB5 := Lib.hid (HB.out.grown hg5 hbw (fun j hj => by simp at hj; omega))
            have HT5 := Lib.hid (ht5.symm)
            clear ht5 hg5
            go_wp2_with fail
            go_roundw
            case rel => exact ⟨k + 1, by omega, by go_num, Lib.hid (by rw [HTK.out]; exact HT5.out), HB5⟩
            case measure => simp [intOf] <;> omega
          · obtain rfl : n1 = k := by omega
            clear hkn hk
            have HTE := Lib.hid (show Two wr w.heap.size 101 (some (w1.heap.size + 1)) w1.heap.size (some (w2.heap.size + 1)) w2.heap.size (fs) (gs) from (by have := HT.out; rw [List.take_of_length_le (by rw [H1.out.len]; omega)] at this; exact this))
            go_wp2_with fail
            go_loopw [66] (fun s66 wr => ∃ k : Nat, k ≤ n ∧ s66 = .int .i64 (k : Int) ∧ Hid (Two wr w.heap.size 101 (some (w1.heap.size + 1)) w1.heap.size (some (w2.heap.size + 1)) w2.heap.size (fs.drop k) (gs)) ∧ Hid (Below w.heap.size w wr)) (fun s66 _ => n - (intOf s66).toNat)
            case atStart => exact ⟨0, by omega, rfl, Lib.hid (by simpa using HTE.out), HB⟩
            case round =>
              clear HTE HB
              obtain ⟨k, hk, rfl, HT, HB⟩ := hrel
              rename World => wr
              by_cases hkn : k < n
              · have hkl : k < fs.length := by rw [HH.out.len]; exact hkn
                have hdr : fs.drop k = fs.getD k 0 :: fs.drop (k + 1) := by rw [List.drop_eq_getElem_cons hkl]; simp [hkl]
                have htk : fs.take (k + 1) = fs.take k ++ [fs.getD k 0] := by rw [List.take_succ_eq_append_getElem hkl]; simp [hkl]
                obtain ⟨b, off, rfl, hlt, hcell⟩ := (HH.out.kept HB.out).cells (by omega)
                have hc1 := hcell k hkn
                obtain ⟨x, hx⟩ : ∃ x, x = fs.getD k 0 := ⟨_, rfl⟩
                rw [← hx] at hc1 hdr htk
                have hki : (k : Int) < (n : Int) := by omega
                have hbw := HB.out.size
                have HDR := Lib.hid hdr
                have HTK := Lib.hid htk
                clear hcell hx hdr htk
                go_wp2_with fail
                have HT0 := Lib.hid (show Two wr w.heap.size 101 (some (w1.heap.size + 1)) w1.heap.size (some (w2.heap.size + 1)) w2.heap.size (x :: fs.drop (k + 1)) (gs) by have := HT.out; rw [HDR.out] at this; exact this)
                refine (either_one HT0.out).mono ?_
                rintro e w5 ⟨rfl, ht5, hg5, _⟩
                have HB5 := Lib.hid (HB.out.grown hg5 hbw (fun j hj => by simp at hj; omega))
                have HT5 := Lib.hid ht5
                clear ht5 hg5
                go_wp2_with fail
                go_roundw
                case rel => exact ⟨k + 1, by omega, by go_num, HT5, HB5⟩
                case measure => simp [intOf] <;> omega
              · obtain rfl : n = k := by omega
                clear hkn hk
                have HTE := Lib.hid (show Two wr w.heap.size 101 (some (w1.heap.size + 1)) w1.heap.size (some (w2.heap.size + 1)) w2.heap.size (([] : List Int)) (gs) from (by have := HT.out; rw [List.drop_eq_nil_of_le (by rw [HH.out.len]; omega)] at this; exact this))
                go_wp2_with fail
                go_loopw [86] (fun s86 wr => ∃ k : Nat, k ≤ n1 ∧ s86 = .int .i64 (k : Int) ∧ Hid (Two wr w.heap.size 101 (some (w1.heap.size + 1)) w1.heap.size (some (w2.heap.size + 1)) w2.heap.size ([]) (gs.drop k)) ∧ Hid (Below w.heap.size w wr)) (fun s86 _ => n1 - (intOf s86).toNat)
                case atStart => exact ⟨0, by omega, rfl, Lib.hid (by simpa using HTE.out), HB⟩
                case round =>
                  clear HTE HB
                  obtain ⟨k, hk, rfl, HT, HB⟩ := hrel
                  rename World => wr
                  by_cases hkn : k < n1
                  · have hkl : k < gs.length := by rw [H1.out.len]; exact hkn
                    have hdr : gs.drop k = gs.getD k 0 :: gs.drop (k + 1) := by rw [List.drop_eq_getElem_cons hkl]; simp [hkl]
                    have htk : gs.take (k + 1) = gs.take k ++ [gs.getD k 0] := by rw [List.take_succ_eq_append_getElem hkl]; simp [hkl]
                    obtain ⟨b, off, rfl, hlt, hcell⟩ := (H1.out.kept HB.out).cells (by omega)
                    have hc1 := hcell k hkn
                    obtain ⟨x, hx⟩ : ∃ x, x = gs.getD k 0 := ⟨_, rfl⟩
                    rw [← hx] at hc1 hdr htk
                    have hki : (k : Int) < (n1 : Int) := by omega
                    have hbw := HB.out.size
                    have HDR := Lib.hid hdr
                    have HTK := Lib.hid htk
                    clear hcell hx hdr htk
                    go_wp2_with fail
                    have HT0 := Lib.hid (show Two wr w.heap.size 101 (some (w1.heap.size + 1)) w1.heap.size (some (w2.heap.size + 1)) w2.heap.size ([]) (x :: gs.drop (k + 1)) by have := HT.out; rw [HDR.out] at this; exact this)
                    refine (either_two HT0.out).mono ?_
                    rintro e w5 ⟨rfl, ht5, hg5, _⟩
                    have HB5 := Lib.hid (HB.out.grown hg5 hbw (fun j hj => by simp at hj; omega))
                    have HT5 := Lib.hid ht5
                    clear ht5 hg5
                    go_wp2_with fail
                    go_roundw
                    case rel => exact ⟨k + 1, by omega, by go_num, HT5, HB5⟩
                    case measure => simp [intOf] <;> omega
                  · obtain rfl : n1 = k := by omega
                    clear hkn hk
                    have HTE := Lib.hid (show Two wr w.heap.size 101 (some (w1.heap.size + 1)) w1.heap.size (some (w2.heap.size + 1)) w2.heap.size ([]) (([] : List Int)) from (by have := HT.out; rw [List.drop_eq_nil_of_le (by rw [H1.out.len]; omega)] at this; exact this))
                    go_wp2_with fail
                    refine (either_no HTE.out).mono ?_
                    rintro e w9 ⟨rfl, rfl⟩
                    go_wp2_with fail
                    go_ret
                    exact ⟨rfl, HB.out⟩
  · go_enter Try.func4, Try.ntmps4
    go_wp2_with fail
    refine HLV.out.mono ?_
    rintro e w1 ⟨rfl, hb1⟩
    have HB1 := Lib.hid hb1
    clear hb1
    go_wp2_with fail
    refine (new_yes 101 (by omega) (by omega) w1).mono ?_
    rintro e w2 ⟨rfl, hx2, hb2⟩
    have HX2 := Lib.hid hx2
    have HB2 := Lib.hid (HB1.out.trans (hb2.mono HB1.out.size))
    have hlt2 : w1.heap.size + 1 < w2.heap.size := hx2.ltB
    have hlw1 : w.heap.size ≤ w1.heap.size := HB1.out.size
    have hlw2 : w.heap.size ≤ w2.heap.size := HB2.out.size
    clear hx2 hb2
    go_wp2_with fail
    refine (new_yes 101 (by omega) (by omega) w2).mono ?_
    rintro e w3 ⟨rfl, hx3, hb3⟩
    have HB3 := Lib.hid (HB2.out.trans (hb3.mono HB2.out.size))
    have HT3 := Lib.hid (show Two w3 w.heap.size 101 (some (w1.heap.size + 1)) w1.heap.size none w2.heap.size ([]) ([]) from ⟨⟨HX2.out.kept hb3, hlw1⟩, rfl, fun B E h1 h2 => by cases h2⟩)
    clear hx3 hb3
    go_wp2_with fail
    go_loopw [46] (fun s46 wr => ∃ k : Nat, k ≤ n ∧ s46 = .int .i64 (k : Int) ∧ Hid (Two wr w.heap.size 101 (some (w1.heap.size + 1)) w1.heap.size none w2.heap.size (fs.take k) ([])) ∧ Hid (Below w.heap.size w wr)) (fun s46 _ => n - (intOf s46).toNat)
    case atStart => exact ⟨0, by omega, rfl, Lib.hid (by simpa using HT3.out), HB3⟩
    case round =>
      clear HT3 HB3
      obtain ⟨k, hk, rfl, HT, HB⟩ := hrel
      rename World => wr
      by_cases hkn : k < n
      · have hkl : k < fs.length := by rw [HH.out.len]; exact hkn
        have hdr : fs.drop k = fs.getD k 0 :: fs.drop (k + 1) := by rw [List.drop_eq_getElem_cons hkl]; simp [hkl]
        have htk : fs.take (k + 1) = fs.take k ++ [fs.getD k 0] := by rw [List.take_succ_eq_append_getElem hkl]; simp [hkl]
        obtain ⟨b, off, rfl, hlt, hcell⟩ := (HH.out.kept HB.out).cells (by omega)
        have hc1 := hcell k hkn
        obtain ⟨x, hx⟩ : ∃ x, x = fs.getD k 0 := ⟨_, rfl⟩
        rw [← hx] at hc1 hdr htk
        have hki : (k : Int) < (n : Int) := by omega
        have hbw := HB.out.size
        have HDR := Lib.hid hdr
        have HTK := Lib.hid htk
        clear hcell hx hdr htk
        go_wp2_with fail
        refine (two_put HT.out x (by rw [List.length_take]; omega)).mono ?_
        rintro e w5 ⟨rfl, ht5, hg5, _⟩
        have HB5 := Lib.hid (HB.out.grown hg5 hbw (fun j hj => by simp at hj; omega))
        have HT5 := Lib.hid (ht5)
        clear ht5 hg5
        go_wp2_with fail
        go_roundw
        case rel => exact ⟨k + 1, by omega, by go_num, Lib.hid (by rw [HTK.out]; exact HT5.out), HB5⟩
        case measure => simp [intOf] <;> omega
      · obtain rfl : n = k := by omega
        clear hkn hk
        have HTE := Lib.hid (show Two wr w.heap.size 101 (some (w1.heap.size + 1)) w1.heap.size none w2.heap.size (fs) ([]) from (by have := HT.out; rw [List.take_of_length_le (by rw [HH.out.len]; omega)] at this; exact this))
        go_wp2_with fail
        go_loopw [56] (fun s56 wr => ∃ k : Nat, k ≤ 0 ∧ s56 = .int .i64 (k : Int) ∧ Hid (Two wr w.heap.size 101 (some (w1.heap.size + 1)) w1.heap.size none w2.heap.size (fs) (([] : List Int))) ∧ Hid (Below w.heap.size w wr)) (fun s56 _ => 0 - (intOf s56).toNat)
        case atStart => exact ⟨0, by omega, rfl, Lib.hid (by simpa using HTE.out), HB⟩
        case round =>
          clear HTE HB
          obtain ⟨k, hk, rfl, HT, HB⟩ := hrel
          rename World => wr
          by_cases hkn : k < 0
          · exact absurd hkn (Nat.not_lt_zero _)
          · have hki0 : (0 : Int) ≤ (k : Int) := by omega
            clear hkn hk
            have HTE := Lib.hid (show Two wr w.heap.size 101 (some (w1.heap.size + 1)) w1.heap.size none w2.heap.size (fs) (([] : List Int)) from HT.out)
            go_wp2_with fail
            go_loopw [66] (fun s66 wr => ∃ k : Nat, k ≤ n ∧ s66 = .int .i64 (k : Int) ∧ Hid (Two wr w.heap.size 101 (some (w1.heap.size + 1)) w1.heap.size none w2.heap.size (fs.drop k) (([] : List Int))) ∧ Hid (Below w.heap.size w wr)) (fun s66 _ => n - (intOf s66).toNat)
            case atStart => exact ⟨0, by omega, rfl, Lib.hid (by simpa using HTE.out), HB⟩
            case round =>
              clear HTE HB
              obtain ⟨k, hk, rfl, HT, HB⟩ := hrel
              rename World => wr
              by_cases hkn : k < n
              · have hkl : k < fs.length := by rw [HH.out.len]; exact hkn
                have hdr : fs.drop k = fs.getD k 0 :: fs.drop (k + 1) := by rw [List.drop_eq_getElem_cons hkl]; simp [hkl]
                have htk : fs.take (k + 1) = fs.take k ++ [fs.getD k 0] := by rw [List.take_succ_eq_append_getElem hkl]; simp [hkl]
                obtain ⟨b, off, rfl, hlt, hcell⟩ := (HH.out.kept HB.out).cells (by omega)
                have hc1 := hcell k hkn
                obtain ⟨x, hx⟩ : ∃ x, x = fs.getD k 0 := ⟨_, rfl⟩
                rw [← hx] at hc1 hdr htk
                have hki : (k : Int) < (n : Int) := by omega
                have hbw := HB.out.size
                have HDR := Lib.hid hdr
                have HTK := Lib.hid htk
                clear hcell hx hdr htk
                go_wp2_with fail
                have HT0 := Lib.hid (show Two wr w.heap.size 101 (some (w1.heap.size + 1)) w1.heap.size none w2.heap.size (x :: fs.drop (k + 1)) (([] : List Int)) by have := HT.out; rw [HDR.out] at this; exact this)
                refine (either_one HT0.out).mono ?_
                rintro e w5 ⟨rfl, ht5, hg5, _⟩
                have HB5 := Lib.hid (HB.out.grown hg5 hbw (fun j hj => by simp at hj; omega))
                have HT5 := Lib.hid ht5
                clear ht5 hg5
                go_wp2_with fail
                go_roundw
                case rel => exact ⟨k + 1, by omega, by go_num, HT5, HB5⟩
                case measure => simp [intOf] <;> omega
              · obtain rfl : n = k := by omega
                clear hkn hk
                have HTE := Lib.hid (show Two wr w.heap.size 101 (some (w1.heap.size + 1)) w1.heap.size none w2.heap.size (([] : List Int)) (([] : List Int)) from (by have := HT.out; rw [List.drop_eq_nil_of_le (by rw [HH.out.len]; omega)] at this; exact this))
                go_wp2_with fail
                go_loopw [86] (fun s86 wr => ∃ k : Nat, k ≤ 0 ∧ s86 = .int .i64 (k : Int) ∧ Hid (Two wr w.heap.size 101 (some (w1.heap.size + 1)) w1.heap.size none w2.heap.size ([]) (([] : List Int))) ∧ Hid (Below w.heap.size w wr)) (fun s86 _ => 0 - (intOf s86).toNat)
                case atStart => exact ⟨0, by omega, rfl, Lib.hid (by simpa using HTE.out), HB⟩
                case round =>
                  clear HTE HB
                  obtain ⟨k, hk, rfl, HT, HB⟩ := hrel
                  rename World => wr
                  by_cases hkn : k < 0
                  · exact absurd hkn (Nat.not_lt_zero _)
                  · have hki0 : (0 : Int) ≤ (k : Int) := by omega
                    clear hkn hk
                    have HTE := Lib.hid (show Two wr w.heap.size 101 (some (w1.heap.size + 1)) w1.heap.size none w2.heap.size ([]) (([] : List Int)) from HT.out)
                    go_wp2_with fail
                    refine (either_no HTE.out).mono ?_
                    rintro e w9 ⟨rfl, rfl⟩
                    go_wp2_with fail
                    go_ret
                    exact ⟨rfl, HB.out⟩
  · go_enter Try.func4, Try.ntmps4
    go_wp2_with fail
    refine HLV.out.mono ?_
    rintro e w1 ⟨rfl, hb1⟩
    have HB1 := Lib.hid hb1
    clear hb1
    go_wp2_with fail
    refine (new_yes 101 (by omega) (by omega) w1).mono ?_
    rintro e w2 ⟨rfl, hx2, hb2⟩
    have HX2 := Lib.hid hx2
    have HB2 := Lib.hid (HB1.out.trans (hb2.mono HB1.out.size))
    have hlt2 : w1.heap.size + 1 < w2.heap.size := hx2.ltB
    have hlw1 : w.heap.size ≤ w1.heap.size := HB1.out.size
    have hlw2 : w.heap.size ≤ w2.heap.size := HB2.out.size
    clear hx2 hb2
    go_wp2_with fail
    refine (new_yes 101 (by omega) (by omega) w2).mono ?_
    rintro e w3 ⟨rfl, hx3, hb3⟩
    have HB3 := Lib.hid (HB2.out.trans (hb3.mono HB2.out.size))
    have HT3 := Lib.hid (show Two w3 w.heap.size 101 none w1.heap.size (some (w2.heap.size + 1)) w2.heap.size ([]) ([]) from ⟨rfl, ⟨hx3, hlw2⟩, fun B E h1 h2 => by cases h1⟩)
    clear hx3 hb3
    go_wp2_with fail
    go_loopw [46] (fun s46 wr => ∃ k : Nat, k ≤ 0 ∧ s46 = .int .i64 (k : Int) ∧ Hid (Two wr w.heap.size 101 none w1.heap.size (some (w2.heap.size + 1)) w2.heap.size (([] : List Int)) ([])) ∧ Hid (Below w.heap.size w wr)) (fun s46 _ => 0 - (intOf s46).toNat)
    case atStart => exact ⟨0, by omega, rfl, Lib.hid (by simpa using HT3.out), HB3⟩
    case round =>
      clear HT3 HB3
      obtain ⟨k, hk, rfl, HT, HB⟩ := hrel
      rename World => wr
      by_cases hkn : k < 0
      · exact absurd hkn (Nat.not_lt_zero _)
      · have hki0 : (0 : Int) ≤ (k : Int) := by omega
        clear hkn hk
        have HTE := Lib.hid (show Two wr w.heap.size 101 none w1.heap.size (some (w2.heap.size + 1)) w2.heap.size (([] : List Int)) ([]) from HT.out)
        go_wp2_with fail
        go_loopw [56] (fun s56 wr => ∃ k : Nat, k ≤ n1 ∧ s56 = .int .i64 (k : Int) ∧ Hid (Two wr w.heap.size 101 none w1.heap.size (some (w2.heap.size + 1)) w2.heap.size (([] : List Int)) (gs.take k)) ∧ Hid (Below w.heap.size w wr)) (fun s56 _ => n1 - (intOf s56).toNat)
        case atStart => exact ⟨0, by omega, rfl, Lib.hid (by simpa using HTE.out), HB⟩
        case round =>
          clear HTE HB
          obtain ⟨k, hk, rfl, HT, HB⟩ := hrel
          rename World => wr
          by_cases hkn : k < n1
          · have hkl : k < gs.length := by rw [H1.out.len]; exact hkn
            have hdr : gs.drop k = gs.getD k 0 :: gs.drop (k + 1) := by rw [List.drop_eq_getElem_cons hkl]; simp [hkl]
            have htk : gs.take (k + 1) = gs.take k ++ [gs.getD k 0] := by rw [List.take_succ_eq_append_getElem hkl]; simp [hkl]
            obtain ⟨b, off, rfl, hlt, hcell⟩ := (H1.out.kept HB.out).cells (by omega)
            have hc1 := hcell k hkn
            obtain ⟨x, hx⟩ : ∃ x, x = gs.getD k 0 := ⟨_, rfl⟩
            rw [← hx] at hc1 hdr htk
            have hki : (k : Int) < (n1 : Int) := by omega
            have hbw := HB.out.size
            have HDR := Lib.hid hdr
            have HTK := Lib.hid htk
            clear hcell hx hdr htk
            go_wp2_with fail
            refine (two_put HT.out.symm x (by rw [List.length_take]; omega)).mono ?_
            rintro e w5 ⟨rfl, ht5, hg5, _⟩
            have HB5 := Lib.hid (HB.out.grown hg5 hbw (fun j hj => by simp at hj; omega))
            have HT5 := Lib.hid (ht5.symm)
            clear ht5 hg5
            go_wp2_with fail
            go_roundw
            case rel => exact ⟨k + 1, by omega, by go_num, Lib.hid (by rw [HTK.out]; exact HT5.out), HB5⟩
            case measure => simp [intOf] <;> omega
          · obtain rfl : n1 = k := by omega
            clear hkn hk
            have HTE := Lib.hid (show Two wr w.heap.size 101 none w1.heap.size (some (w2.heap.size + 1)) w2.heap.size (([] : List Int)) (gs) from (by have := HT.out; rw [List.take_of_length_le (by rw [H1.out.len]; omega)] at this; exact this))
            go_wp2_with fail
            go_loopw [66] (fun s66 wr => ∃ k : Nat, k ≤ 0 ∧ s66 = .int .i64 (k : Int) ∧ Hid (Two wr w.heap.size 101 none w1.heap.size (some (w2.heap.size + 1)) w2.heap.size (([] : List Int)) (gs)) ∧ Hid (Below w.heap.size w wr)) (fun s66 _ => 0 - (intOf s66).toNat)
            case atStart => exact ⟨0, by omega, rfl, Lib.hid (by simpa using HTE.out), HB⟩
            case round =>
              clear HTE HB
              obtain ⟨k, hk, rfl, HT, HB⟩ := hrel
              rename World => wr
              by_cases hkn : k < 0
              · exact absurd hkn (Nat.not_lt_zero _)
              · have hki0 : (0 : Int) ≤ (k : Int) := by omega
                clear hkn hk
                have HTE := Lib.hid (show Two wr w.heap.size 101 none w1.heap.size (some (w2.heap.size + 1)) w2.heap.size (([] : List Int)) (gs) from HT.out)
                go_wp2_with fail
                go_loopw [86] (fun s86 wr => ∃ k : Nat, k ≤ n1 ∧ s86 = .int .i64 (k : Int) ∧ Hid (Two wr w.heap.size 101 none w1.heap.size (some (w2.heap.size + 1)) w2.heap.size ([]) (gs.drop k)) ∧ Hid (Below w.heap.size w wr)) (fun s86 _ => n1 - (intOf s86).toNat)
                case atStart => exact ⟨0, by omega, rfl, Lib.hid (by simpa using HTE.out), HB⟩
                case round =>
                  clear HTE HB
                  obtain ⟨k, hk, rfl, HT, HB⟩ := hrel
                  rename World => wr
                  by_cases hkn : k < n1
                  · have hkl : k < gs.length := by rw [H1.out.len]; exact hkn
                    have hdr : gs.drop k = gs.getD k 0 :: gs.drop (k + 1) := by rw [List.drop_eq_getElem_cons hkl]; simp [hkl]
                    have htk : gs.take (k + 1) = gs.take k ++ [gs.getD k 0] := by rw [List.take_succ_eq_append_getElem hkl]; simp [hkl]
                    obtain ⟨b, off, rfl, hlt, hcell⟩ := (H1.out.kept HB.out).cells (by omega)
                    have hc1 := hcell k hkn
                    obtain ⟨x, hx⟩ : ∃ x, x = gs.getD k 0 := ⟨_, rfl⟩
                    rw [← hx] at hc1 hdr htk
                    have hki : (k : Int) < (n1 : Int) := by omega
                    have hbw := HB.out.size
                    have HDR := Lib.hid hdr
                    have HTK := Lib.hid htk
                    clear hcell hx hdr htk
                    go_wp2_with fail
                    have HT0 := Lib.hid (show Two wr w.heap.size 101 none w1.heap.size (some (w2.heap.size + 1)) w2.heap.size ([]) (x :: gs.drop (k + 1)) by have := HT.out; rw [HDR.out] at this; exact this)
                    refine (either_two HT0.out).mono ?_
                    rintro e w5 ⟨rfl, ht5, hg5, _⟩
                    have HB5 := Lib.hid (HB.out.grown hg5 hbw (fun j hj => by simp at hj; omega))
                    have HT5 := Lib.hid ht5
                    clear ht5 hg5
                    go_wp2_with fail
                    go_roundw
                    case rel => exact ⟨k + 1, by omega, by go_num, HT5, HB5⟩
                    case measure => simp [intOf] <;> omega
                  · obtain rfl : n1 = k := by omega
                    clear hkn hk
                    have HTE := Lib.hid (show Two wr w.heap.size 101 none w1.heap.size (some (w2.heap.size + 1)) w2.heap.size ([]) (([] : List Int)) from (by have := HT.out; rw [List.drop_eq_nil_of_le (by rw [H1.out.len]; omega)] at this; exact this))
                    go_wp2_with fail
                    refine (either_no HTE.out).mono ?_
                    rintro e w9 ⟨rfl, rfl⟩
                    go_wp2_with fail
                    go_ret
                    exact ⟨rfl, HB.out⟩
  · go_enter Try.func4, Try.ntmps4
    go_wp2_with fail
    refine HLV.out.mono ?_
    rintro e w1 ⟨rfl, hb1⟩
    have HB1 := Lib.hid hb1
    clear hb1
    go_wp2_with fail
    refine (new_yes 101 (by omega) (by omega) w1).mono ?_
    rintro e w2 ⟨rfl, hx2, hb2⟩
    have HX2 := Lib.hid hx2
    have HB2 := Lib.hid (HB1.out.trans (hb2.mono HB1.out.size))
    have hlt2 : w1.heap.size + 1 < w2.heap.size := hx2.ltB
    have hlw1 : w.heap.size ≤ w1.heap.size := HB1.out.size
    have hlw2 : w.heap.size ≤ w2.heap.size := HB2.out.size
    clear hx2 hb2
    go_wp2_with fail
    refine (new_yes 101 (by omega) (by omega) w2).mono ?_
    rintro e w3 ⟨rfl, hx3, hb3⟩
    have HB3 := Lib.hid (HB2.out.trans (hb3.mono HB2.out.size))
    have HT3 := Lib.hid (show Two w3 w.heap.size 101 none w1.heap.size none w2.heap.size ([]) ([]) from ⟨rfl, rfl, fun B E h1 h2 => by cases h1⟩)
    clear hx3 hb3
    go_wp2_with fail
    go_loopw [46] (fun s46 wr => ∃ k : Nat, k ≤ 0 ∧ s46 = .int .i64 (k : Int) ∧ Hid (Two wr w.heap.size 101 none w1.heap.size none w2.heap.size (([] : List Int)) ([])) ∧ Hid (Below w.heap.size w wr)) (fun s46 _ => 0 - (intOf s46).toNat)
    case atStart => exact ⟨0, by omega, rfl, Lib.hid (by simpa using HT3.out), HB3⟩
    case round =>
      clear HT3 HB3
      obtain ⟨k, hk, rfl, HT, HB⟩ := hrel
      rename World => wr
      by_cases hkn : k < 0
      · exact absurd hkn (Nat.not_lt_zero _)
      · have hki0 : (0 : Int) ≤ (k : Int) := by omega
        clear hkn hk
        have HTE := Lib.hid (show Two wr w.heap.size 101 none w1.heap.size none w2.heap.size (([] : List Int)) ([]) from HT.out)
        go_wp2_with fail
        go_loopw [56] (fun s56 wr => ∃ k : Nat, k ≤ 0 ∧ s56 = .int .i64 (k : Int) ∧ Hid (Two wr w.heap.size 101 none w1.heap.size none w2.heap.size (([] : List Int)) (([] : List Int))) ∧ Hid (Below w.heap.size w wr)) (fun s56 _ => 0 - (intOf s56).toNat)
        case atStart => exact ⟨0, by omega, rfl, Lib.hid (by simpa using HTE.out), HB⟩
        case round =>
          clear HTE HB
          obtain ⟨k, hk, rfl, HT, HB⟩ := hrel
          rename World => wr
          by_cases hkn : k < 0
          · exact absurd hkn (Nat.not_lt_zero _)
          · have hki0 : (0 : Int) ≤ (k : Int) := by omega
            clear hkn hk
            have HTE := Lib.hid (show Two wr w.heap.size 101 none w1.heap.size none w2.heap.size (([] : List Int)) (([] : List Int)) from HT.out)
            go_wp2_with fail
            go_loopw [66] (fun s66 wr => ∃ k : Nat, k ≤ 0 ∧ s66 = .int .i64 (k : Int) ∧ Hid (Two wr w.heap.size 101 none w1.heap.size none w2.heap.size (([] : List Int)) (([] : List Int))) ∧ Hid (Below w.heap.size w wr)) (fun s66 _ => 0 - (intOf s66).toNat)
            case atStart => exact ⟨0, by omega, rfl, Lib.hid (by simpa using HTE.out), HB⟩
            case round =>
              clear HTE HB
              obtain ⟨k, hk, rfl, HT, HB⟩ := hrel
              rename World => wr
              by_cases hkn : k < 0
              · exact absurd hkn (Nat.not_lt_zero _)
              · have hki0 : (0 : Int) ≤ (k : Int) := by omega
                clear hkn hk
                have HTE := Lib.hid (show Two wr w.heap.size 101 none w1.heap.size none w2.heap.size (([] : List Int)) (([] : List Int)) from HT.out)
                go_wp2_with fail
                go_loopw [86] (fun s86 wr => ∃ k : Nat, k ≤ 0 ∧ s86 = .int .i64 (k : Int) ∧ Hid (Two wr w.heap.size 101 none w1.heap.size none w2.heap.size ([]) (([] : List Int))) ∧ Hid (Below w.heap.size w wr)) (fun s86 _ => 0 - (intOf s86).toNat)
                case atStart => exact ⟨0, by omega, rfl, Lib.hid (by simpa using HTE.out), HB⟩
                case round =>
                  clear HTE HB
                  obtain ⟨k, hk, rfl, HT, HB⟩ := hrel
                  rename World => wr
                  by_cases hkn : k < 0
                  · exact absurd hkn (Nat.not_lt_zero _)
                  · have hki0 : (0 : Int) ≤ (k : Int) := by omega
                    clear hkn hk
                    have HTE := Lib.hid (show Two wr w.heap.size 101 none w1.heap.size none w2.heap.size ([]) (([] : List Int)) from HT.out)
                    go_wp2_with fail
                    refine (either_no HTE.out).mono ?_
                    rintro e w9 ⟨rfl, rfl⟩
                    go_wp2_with fail
                    go_ret
                    exact ⟨rfl, HB.out⟩
end Go.Proofs.Ytpcohkhdbjimgaa
