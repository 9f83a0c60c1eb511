/- The law BayPlays, walked. Written by genbyplays.py. -/
import Derived.Test.YtpcohkhdbjimgaaByT
namespace Go.Proofs.Ytpcohkhdbjimgaa
open Go.RowKit Go.Conc
set_option linter.unusedVariables false

set_option maxRecDepth 100000 in
set_option maxHeartbeats 16000000 in
theorem bay_plays (z : Int) (a : Option Addr) (n c : Nat) (bs : List BatV) (w : World) (hz : (Lit.int .i64 z).wf = true) (h : VecAt BatS w a n c bs) :
    Calls Try.prog 5 #[.int .i64 z, .slice a n c] w fun e w' => e = .returned (.bool true) ∧ Below w.heap.size w w' := by
  have HV := Lib.hid h
  have hcp := h.cap
  have hcm := h.capm
  have HLV := Lib.hid (fun w1 (h1 : Below w.heap.size w w1) => (lives_any w1).mono fun e w' (he : e = .returned (.bool true) ∧ Below w1.heap.size w1 w') => (⟨he.1, h1.trans (he.2.mono h1.size)⟩ : e = .returned (.bool true) ∧ Below w.heap.size w w'))
  clear h hz
  by_cases hg1 : z < 1
  · have HN := Lib.hid (bay_no z (by omega) w)
    have HB0 := Lib.hid (Below.refl w.heap.size w)
    by_cases g0 : 60 < n
    · have g0i : (60 : Int) < (n : Int) := by omega
      clear g0
      go_enter Try.func5, Try.ntmps5
      go_wp2_with fail
      refine HN.out.mono ?_
      rintro e w1 ⟨rfl, rfl⟩
      go_wp2_with fail
      refine (HLV.out _ HB0.out).mono ?_
      rintro e w2 ⟨rfl, hb2⟩
      have HB2 := Lib.hid hb2
      clear hb2
      go_wp2_with fail
      refine (HLV.out _ HB2.out).mono ?_
      rintro e w3 ⟨rfl, hb3⟩
      have HB3 := Lib.hid hb3
      clear hb3
      go_wp2_with fail
      first | go_ret2 | go_ret
      exact ⟨rfl, HB3.out⟩
    · have g0i : (n : Int) ≤ 60 := by omega
      clear g0
      go_enter Try.func5, Try.ntmps5
      go_wp2_with fail
      refine HN.out.mono ?_
      rintro e w1 ⟨rfl, rfl⟩
      go_wp2_with fail
      refine (HLV.out _ HB0.out).mono ?_
      rintro e w2 ⟨rfl, hb2⟩
      have HB2 := Lib.hid hb2
      clear hb2
      go_wp2_with fail
      refine (nput_none _).mono ?_
      rintro e w3 ⟨rfl, hb3⟩
      have HB3 := Lib.hid (HB2.out.trans (hb3.mono HB2.out.size))
      clear hb3
      go_wp2_with fail
      refine (nput_one _ _ _).mono ?_
      rintro e w4 ⟨rfl, hb4⟩
      have HB4 := Lib.hid (HB3.out.trans (((Below.refl _ _).alloc (Nat.le_refl _) _).mono HB3.out.size |>.trans (hb4.mono (by rw [World.size_alloc]; have := HB3.out.size; omega))))
      clear hb4
      go_wp2_with fail
      refine (nlen_any _).mono ?_
      rintro e w5 ⟨rfl, hb5⟩
      have HB5 := Lib.hid (HB4.out.trans (hb5.mono HB4.out.size))
      clear hb5
      go_wp2_with fail
      refine (nmost_any _).mono ?_
      rintro e w6 ⟨rfl, hb6⟩
      have HB6 := Lib.hid (HB5.out.trans (hb6.mono HB5.out.size))
      clear hb6
      go_wp2_with fail
      refine (ndrain_any _).mono ?_
      rintro e w7 ⟨rfl, hb7⟩
      have HB7 := Lib.hid (HB6.out.trans (hb7.mono HB6.out.size))
      clear hb7
      go_wp2_with fail
      first | go_ret2 | go_ret
      exact ⟨rfl, HB7.out⟩
  by_cases hg2 : 2048 < z
  · have HN := Lib.hid (bay_no z (by omega) w)
    have HB0 := Lib.hid (Below.refl w.heap.size w)
    by_cases g0 : 60 < n
    · have g0i : (60 : Int) < (n : Int) := by omega
      clear g0
      go_enter Try.func5, Try.ntmps5
      go_wp2_with fail
      refine HN.out.mono ?_
      rintro e w1 ⟨rfl, rfl⟩
      go_wp2_with fail
      refine (HLV.out _ HB0.out).mono ?_
      rintro e w2 ⟨rfl, hb2⟩
      have HB2 := Lib.hid hb2
      clear hb2
      go_wp2_with fail
      refine (HLV.out _ HB2.out).mono ?_
      rintro e w3 ⟨rfl, hb3⟩
      have HB3 := Lib.hid hb3
      clear hb3
      go_wp2_with fail
      first | go_ret2 | go_ret
      exact ⟨rfl, HB3.out⟩
    · have g0i : (n : Int) ≤ 60 := by omega
      clear g0
      go_enter Try.func5, Try.ntmps5
      go_wp2_with fail
      refine HN.out.mono ?_
      rintro e w1 ⟨rfl, rfl⟩
      go_wp2_with fail
      refine (HLV.out _ HB0.out).mono ?_
      rintro e w2 ⟨rfl, hb2⟩
      have HB2 := Lib.hid hb2
      clear hb2
      go_wp2_with fail
      refine (nput_none _).mono ?_
      rintro e w3 ⟨rfl, hb3⟩
      have HB3 := Lib.hid (HB2.out.trans (hb3.mono HB2.out.size))
      clear hb3
      go_wp2_with fail
      refine (nput_one _ _ _).mono ?_
      rintro e w4 ⟨rfl, hb4⟩
      have HB4 := Lib.hid (HB3.out.trans (((Below.refl _ _).alloc (Nat.le_refl _) _).mono HB3.out.size |>.trans (hb4.mono (by rw [World.size_alloc]; have := HB3.out.size; omega))))
      clear hb4
      go_wp2_with fail
      refine (nlen_any _).mono ?_
      rintro e w5 ⟨rfl, hb5⟩
      have HB5 := Lib.hid (HB4.out.trans (hb5.mono HB4.out.size))
      clear hb5
      go_wp2_with fail
      refine (nmost_any _).mono ?_
      rintro e w6 ⟨rfl, hb6⟩
      have HB6 := Lib.hid (HB5.out.trans (hb6.mono HB5.out.size))
      clear hb6
      go_wp2_with fail
      refine (ndrain_any _).mono ?_
      rintro e w7 ⟨rfl, hb7⟩
      have HB7 := Lib.hid (HB6.out.trans (hb7.mono HB6.out.size))
      clear hb7
      go_wp2_with fail
      first | go_ret2 | go_ret
      exact ⟨rfl, HB7.out⟩
  obtain ⟨room, rfl⟩ : ∃ room : Nat, z = (room : Int) := ⟨z.toNat, by omega⟩
  have hr1 : 1 ≤ room := by omega
  have hr2 : room ≤ 2048 := by omega
  have hr3 : decide ((room : Int) < 1) = false := decide_eq_false (by omega)
  have hr4 : decide ((2048 : Int) < (room : Int)) = false := decide_eq_false (by omega)
  have HN0 := Lib.hid (bay_new room hr1 hr2 w)
  obtain ⟨Y, hY⟩ : ∃ Y, Y = w.heap.size + 1 := ⟨_, rfl⟩
  obtain ⟨M, hM⟩ : ∃ M, M = w.heap.size := ⟨_, rfl⟩
  have HN := Lib.hid (show Calls Try.prog 18 #[.int .i64 (room : Int)] w fun e w' => e = .returned (.pointer (some ⟨Y, 0, none⟩)) ∧ BayAt w' Y M room [] ∧ Below w.heap.size w w' from by rw [hM, hY]; exact HN0.out)
  have HYM := Lib.hid (And.intro hY hM)
  clear HN0 hY hM
  by_cases g0 : 60 < n
  · have g0i : (60 : Int) < (n : Int) := by omega
    clear g0
    go_enter Try.func5, Try.ntmps5
    go_wp2_with fail
    refine HN.out.mono ?_
    rintro e w1 ⟨rfl, hy1, hb1⟩
    have HB1 := Lib.hid hb1
    clear hb1 hy1
    go_wp2_with fail
    refine (HLV.out _ HB1.out).mono ?_
    rintro e w2 ⟨rfl, hb2⟩
    have HB2 := Lib.hid hb2
    clear hb2
    go_wp2_with fail
    refine (HLV.out _ HB2.out).mono ?_
    rintro e w3 ⟨rfl, hb3⟩
    have HB3 := Lib.hid hb3
    clear hb3
    go_wp2_with fail
    first | go_ret2 | go_ret
    exact ⟨rfl, HB3.out⟩
  have g0i : decide ((60 : Int) < (n : Int)) = false := decide_eq_false (by omega)
  have gn : n ≤ 60 := by omega
  clear g0
  go_enter Try.func5, Try.ntmps5
  go_wp2_with fail
  refine HN.out.mono ?_
  rintro e w1 ⟨rfl, hy1, hb1⟩
  have HB1 := Lib.hid hb1
  have HH1 := Lib.hid (Holds.empty hy1)
  clear hb1 hy1 HN
  go_wp2_with fail
  refine (lives_any _).mono ?_
  rintro e w2 ⟨rfl, hb2⟩
  have HH2 := Lib.hid (HH1.out.below hb2)
  have HB2 := Lib.hid (HB1.out.trans (hb2.mono HB1.out.size))
  have HF2 := Lib.hid (show ∀ b, BayF Y M [] b → w.heap.size ≤ b from fun b hb => by
    obtain ⟨e1, e2⟩ := HYM.out
    rcases hb with e | e | ⟨p, hp, e⟩
    · omega
    · omega
    · cases hp)
  obtain ⟨D, hD⟩ : ∃ D, D = w2.heap.size := ⟨_, rfl⟩
  obtain ⟨W3, hW3⟩ : ∃ W3, W3 = w2.alloc (.cells #[.slice none 0 0, .int .i64 (room : Int)] 53) := ⟨_, rfl⟩
  have hb3 : Below w2.heap.size w2 W3 := by rw [hW3]; exact (Below.refl _ _).alloc (Nat.le_refl _) _
  have hk3 : W3.heap[D]? = some (.cells #[.slice none 0 0, .int .i64 (room : Int)] 53 (0, 0)) := by rw [hW3, hD]; exact heap_new w2 _
  have HH3 := Lib.hid (HH2.out.below hb3)
  have HB3 := Lib.hid (HB2.out.trans (hb3.mono HB2.out.size))
  have HD3 := Lib.hid (show DBay W3 D w.heap.size room [] from ⟨none, 0, 0, hk3, World.ownsRow_nil W3 w.heap.size 61 2, rfl, fun x hx => by cases hx⟩)
  have hDw : w.heap.size ≤ D := by rw [hD]; exact HB2.out.size
  have HDE := Lib.hid hD
  have HW3 := Lib.hid hW3
  clear hb2 HH1 HB1 hb3 hk3 hD hW3 HH2 HB2
  go_upto_region 7 with fail
  rw [← HW3.out, ← HDE.out]
  go_wp2_with fail
  go_loopw [73] (fun s73 wr => ∃ (i : Nat) (l : List (ByteArray × BoxV)) (L : List (ByteArray × Int)), i ≤ n ∧ s73 = .int .i64 i ∧ Hid (L.length ≤ 40 * i) ∧ Hid (Holds wr Y M room l L) ∧ Hid (∀ b, BayF Y M l b → w.heap.size ≤ b) ∧ Hid (DBay wr D w.heap.size room L) ∧ Hid (Below w.heap.size w wr)) (fun s73 _ => n - (intOf s73).toNat)
  case atStart => exact ⟨0, [], [], by omega, rfl, Lib.hid (by simp), HH3, HF2, HD3, HB3⟩
  case round =>
    clear HH3 HF2 HD3 HB3
    obtain ⟨i, l, L, hi, rfl, HT, HO, HF, HDC, HB⟩ := hrel
    rename World => wr
    by_cases hin : i < n
    · obtain ⟨b, off, rfl, _, hok, hc⟩ := (HV.out.kept HB.out).get hin
      obtain ⟨x, hx⟩ : ∃ x, x = bs.getD i BatS.z := ⟨_, rfl⟩
      rw [← hx] at hc hok
      obtain ⟨xa, xn, xc, ks, dr⟩ := x
      have hka : VecAt KdS wr xa xn xc ks := hok
      have HA0 : Hid (VecAt KdS w xa xn xc ks) := Lib.hid (by
        have hall := HV.out.all (bs.getD i BatS.z) (vec_mem (S := BatS) (l := bs) (i := i) (by rw [HV.out.len]; exact hin))
        rw [← hx] at hall
        exact hall)
      have c0 : wr.cell? ⟨b, off + i * 2, none⟩ = some (.slice xa xn xc) := hc 0 _ rfl
      have c1 : wr.cell? ⟨b, off + i * 2 + 1, none⟩ = some (.bool dr) := hc 1 _ rfl
      obtain ⟨bx, hbx⟩ : ∃ bx, bx = wr.heap.size := ⟨_, rfl⟩
      obtain ⟨W3, hW3⟩ : ∃ W3, W3 = wr.alloc (.cells #[.slice xa xn xc, .bool dr] 55) := ⟨_, rfl⟩
      have hb3 : Below wr.heap.size wr W3 := by rw [hW3]; exact (Below.refl _ _).alloc (Nat.le_refl _) _
      have hk3 : W3.heap[bx]? = some (.cells #[.slice xa xn xc, .bool dr] 55 (0, 0)) := by rw [hW3, hbx]; exact heap_new wr _
      have d0 := cell_blk2 hk3 (i := 0) (u := .slice xa xn xc) rfl
      have d1 := cell_blk2 hk3 (i := 1) (u := .bool dr) rfl
      have HK3 := Lib.hid hk3
      have HO3 := Lib.hid (HO.out.below hb3)
      have HD3 := Lib.hid (HDC.out.below hb3)
      have HB3 := Lib.hid (HB.out.trans (hb3.mono HB.out.size))
      have hxc := hka.cap
      have hxm := hka.capm
      have HKS := Lib.hid (show ∀ x ∈ ks, x.1.size ≤ 1000000000000000 from fun x hx => HA0.out.all x hx)
      have HW3 := Lib.hid hW3
      have HBX := Lib.hid hbx
      have hbw := HB.out.size
      have zi : (i : Int) < (n : Int) := by omega
      have zi0 : (0 : Int) ≤ (i : Int) := by omega
      have wi : IntKind.i64.wrap ((i : Int) + 1) = (i : Int) + 1 := IntWalk.i64_in _ (by omega)
      clear hc hx hok hka hbx hW3 hb3 hk3 HO HB HDC
      by_cases h40 : 40 < xn
      · have g1 : (40 : Int) < (xn : Int) := by omega
        clear h40
        go_upto_region 10 with fail
        rw [← HW3.out, ← HBX.out]
        clear c0 c1
        go_wp2_with fail
        first | go_ret2 | go_ret
        exact ⟨rfl, HB3.out⟩
      · have g1 : (xn : Int) ≤ 40 := by omega
        have h40' : xn ≤ 40 := by omega
        clear h40
        cases dr with
        | false =>
          go_upto_region 10 with fail
          rw [← HW3.out, ← HBX.out]
          clear c0 c1
          have HOB := HO3
          have HDB := HD3
          have HBB := HB3
          have HCB := HK3
          obtain ⟨dr, hdr⟩ : ∃ dr, dr = false := ⟨_, rfl⟩
          rw [← hdr] at HCB
          clear hdr HO3 HD3 HB3 HK3
          obtain ⟨F, hF⟩ : ∃ F, F = fitsR room L ks := ⟨_, rfl⟩
          obtain ⟨L1, hL1⟩ : ∃ L1, L1 = (if F = true then L ++ ks else L) := ⟨_, rfl⟩
          have HFF := Lib.hid hF.symm
          have HL1E := Lib.hid hL1
          have HL9 := Lib.hid (show L.length ≤ 9000 from by have := HT.out; omega)
          have HL1 : Hid (L1.length ≤ 10000) := Lib.hid (by
            rw [hL1]; split
            · rw [List.length_append, HA0.out.len]; have := HT.out; omega
            · have := HT.out; omega)
          have HL1b : Hid (L1.length ≤ 9000) := Lib.hid (by
            rw [hL1]; split
            · rw [List.length_append, HA0.out.len]; have := HT.out; omega
            · have := HT.out; omega)
          have HBD := Lib.hid HBB.out.drew
          have HCD := Lib.hid HCB.out
          have HOD := Lib.hid (HOB.out.below (Below.refl _ _).drew)
          have HDD := Lib.hid (HDB.out.below (Below.refl _ _).drew)
          clear hF hL1
          go_wp2_with fail
          clear d0 d1
          refine wp_region_inv (by kernel_rfl) (by kernel_rfl) (by kernel_rfl) (RI w Y M D room bx xa xn xc dr F ks L L1 (fun j_9 => match j_9 with | 0 => some (.pointer (some ⟨Y, 0, none⟩)) | 1 => some (.pointer (some ⟨bx, 0, none⟩)) | 2 => some (.slice xa xn xc) | 3 => none | 4 => some (.bool F) | 5 => some (.pointer (some ⟨D, 0, none⟩)) | 6 => some (.pointer (some ⟨bx, 0, none⟩)) | 7 => some (.slice xa xn xc) | 8 => some (.bool F) | 9 => some (.bool false) | 10 => some (.bool false) | 11 => some (.pointer (some ⟨Y, 0, none⟩)) | 12 => some (.int .i64 (L1.length : Int)) | 13 => some (.pointer (some ⟨D, 0, none⟩)) | 14 => some (.pointer (some ⟨D, 0, none⟩)) | 15 => some (.pointer (some ⟨D, 0, none⟩)) | 16 => none | 17 => some (.int .i64 (L1.length : Int)) | 18 => some (.bool false) | 19 => some (.bool false) | 20 => some (.bool false) | 21 => some (.pointer (some ⟨Y, 0, none⟩)) | 22 => some (.int .i64 (mxK L1 : Int)) | 23 => some (.pointer (some ⟨D, 0, none⟩)) | 24 => some (.int .i64 (mxK L1 : Int)) | 25 => some (.bool false) | 26 => some (.bool false) | _ => none)) (fun V => ⟨HBD.out, HCD.out, ⟨l, HOD.out, HF.out⟩, HDD.out, (fun h => by cases h), (fun h => by cases h), (fun h => by cases h), (fun j u h => by cases h)⟩) ?_ ?_
          · intro i9 o ho T V w9 K hI hT hdep hK
            have HI := Lib.hid hI
            simp only [fill, slotOf, List.size_toArray, List.length_cons, List.length_nil, Nat.reduceAdd, List.getElem?_toArray, List.getElem?_cons_zero, List.getElem?_cons_succ, Option.bind_some, Act.put, List.setIfInBounds_toArray, List.set_cons_zero, List.set_cons_succ] at hK ⊢
            have hin9 : i9 < 27 := (Array.getElem?_eq_some_iff.1 ho).1
            have hcs : i9 = 0 ∨ i9 = 1 ∨ i9 = 2 ∨ i9 = 3 ∨ i9 = 4 ∨ i9 = 5 ∨ i9 = 6 ∨ i9 = 7 ∨ i9 = 8 ∨ i9 = 9 ∨ i9 = 10 ∨ i9 = 11 ∨ i9 = 12 ∨ i9 = 13 ∨ i9 = 14 ∨ i9 = 15 ∨ i9 = 16 ∨ i9 = 17 ∨ i9 = 18 ∨ i9 = 19 ∨ i9 = 20 ∨ i9 = 21 ∨ i9 = 22 ∨ i9 = 23 ∨ i9 = 24 ∨ i9 = 25 ∨ i9 = 26 := by omega
            clear hin9
            rcases hcs with rfl | rfl | rfl | rfl | rfl | rfl | rfl | rfl | rfl | rfl | rfl | rfl | rfl | rfl | rfl | rfl | rfl | rfl | rfl | rfl | rfl | rfl | rfl | rfl | rfl | rfl | rfl
            · obtain rfl := Option.some.inj ho.symm
              clear hdep ho hI hT
              try simp only [fill, slotOf, List.size_toArray, List.length_cons, List.length_nil, Nat.reduceAdd, List.getElem?_toArray, List.getElem?_cons_zero, List.getElem?_cons_succ, Option.bind_some, Act.put, List.setIfInBounds_toArray, List.set_cons_zero, List.set_cons_succ] at hK ⊢
              go_simp
              exact hK (.pointer (some ⟨Y, 0, none⟩)) _ (HI.out.val 0 _ rfl (by decide) (by decide) (by decide) (by decide) (by omega)) _ rfl
            · obtain rfl := Option.some.inj ho.symm
              clear hdep ho hI hT
              try simp only [fill, slotOf, List.size_toArray, List.length_cons, List.length_nil, Nat.reduceAdd, List.getElem?_toArray, List.getElem?_cons_zero, List.getElem?_cons_succ, Option.bind_some, Act.put, List.setIfInBounds_toArray, List.set_cons_zero, List.set_cons_succ] at hK ⊢
              go_simp
              exact hK (.pointer (some ⟨bx, 0, none⟩)) _ (HI.out.val 1 _ rfl (by decide) (by decide) (by decide) (by decide) (by omega)) _ rfl
            · obtain rfl := Option.some.inj ho.symm
              have d1 : V 1 = .pointer (some ⟨bx, 0, none⟩) := HI.out.vs 1 _ (hdep ⟨1, .data⟩ (by simp) rfl) rfl
              have u1 : w9.cell? ⟨bx, 0, none⟩ = some (.slice xa xn xc) := cell_blk2 HI.out.cel (i := 0) rfl
              clear hdep ho hI hT
              try simp only [fill, slotOf, List.size_toArray, List.length_cons, List.length_nil, Nat.reduceAdd, List.getElem?_toArray, List.getElem?_cons_zero, List.getElem?_cons_succ, Option.bind_some, Act.put, List.setIfInBounds_toArray, List.set_cons_zero, List.set_cons_succ] at hK ⊢
              rw [d1] at hK ⊢
              go_simp
              exact hK (.slice xa xn xc) _ (HI.out.val 2 _ rfl (by decide) (by decide) (by decide) (by decide) (by omega)) _ rfl
            · obtain rfl := Option.some.inj ho.symm
              have d2 : V 2 = .slice xa xn xc := HI.out.vs 2 _ (hdep ⟨2, .data⟩ (by simp) rfl) rfl
              have HC := Lib.hid (keyed_any (HA0.out.kept HI.out.bel) h40')
              clear hdep ho hI hT
              try simp only [fill, slotOf, List.size_toArray, List.length_cons, List.length_nil, Nat.reduceAdd, List.getElem?_toArray, List.getElem?_cons_zero, List.getElem?_cons_succ, Option.bind_some, Act.put, List.setIfInBounds_toArray, List.set_cons_zero, List.set_cons_succ] at hK ⊢
              rw [d2] at hK ⊢
              go_simp
              refine HC.out.mono ?_
              rintro e w8 ⟨v8, rfl, ho8, hb8⟩
              exact hK v8 _ (HI.out.key rfl ho8 hb8) _ rfl
            · obtain rfl := Option.some.inj ho.symm
              have d0 : V 0 = .pointer (some ⟨Y, 0, none⟩) := HI.out.vs 0 _ (hdep ⟨0, .data⟩ (by simp) rfl) rfl
              have t3 : T 3 = true := hdep ⟨3, .data⟩ (by simp) rfl
              have t4 : T 4 = false := hT
              obtain ⟨l9, hh9, hf9⟩ := HI.out.at0 t4
              have ho9 := HI.out.k3 t3 t4
              have HH9 := Lib.hid (And.intro hh9 hf9)
              have HC := Lib.hid (hput_any hh9 ho9 HA0.out.len HKS.out h40' hr1 hr2 (Nat.le_trans HL9.out (by decide)))
              rw [hh9.fits, HFF.out] at HC
              clear hh9 hf9 ho9
              clear hdep ho hI hT
              try simp only [fill, slotOf, List.size_toArray, List.length_cons, List.length_nil, Nat.reduceAdd, List.getElem?_toArray, List.getElem?_cons_zero, List.getElem?_cons_succ, Option.bind_some, Act.put, List.setIfInBounds_toArray, List.set_cons_zero, List.set_cons_succ] at hK ⊢
              rw [d0] at hK ⊢
              go_simp
              refine HC.out.mono ?_
              rintro e w8 ⟨l8, L8, rfl, hL8, hh8, hF8, hf8⟩
              rw [← HL1E.out] at hL8
              subst hL8
              exact hK (.bool F) _ (HI.out.put rfl HH9.out.1.bay HH9.out.2 hh8 hF8 hf8) _ rfl
            · obtain rfl := Option.some.inj ho.symm
              clear hdep ho hI hT
              try simp only [fill, slotOf, List.size_toArray, List.length_cons, List.length_nil, Nat.reduceAdd, List.getElem?_toArray, List.getElem?_cons_zero, List.getElem?_cons_succ, Option.bind_some, Act.put, List.setIfInBounds_toArray, List.set_cons_zero, List.set_cons_succ] at hK ⊢
              go_simp
              exact hK (.pointer (some ⟨D, 0, none⟩)) _ (HI.out.val 5 _ rfl (by decide) (by decide) (by decide) (by decide) (by omega)) _ rfl
            · obtain rfl := Option.some.inj ho.symm
              clear hdep ho hI hT
              try simp only [fill, slotOf, List.size_toArray, List.length_cons, List.length_nil, Nat.reduceAdd, List.getElem?_toArray, List.getElem?_cons_zero, List.getElem?_cons_succ, Option.bind_some, Act.put, List.setIfInBounds_toArray, List.set_cons_zero, List.set_cons_succ] at hK ⊢
              go_simp
              exact hK (.pointer (some ⟨bx, 0, none⟩)) _ (HI.out.val 6 _ rfl (by decide) (by decide) (by decide) (by decide) (by omega)) _ rfl
            · obtain rfl := Option.some.inj ho.symm
              have d6 : V 6 = .pointer (some ⟨bx, 0, none⟩) := HI.out.vs 6 _ (hdep ⟨6, .data⟩ (by simp) rfl) rfl
              have u1 : w9.cell? ⟨bx, 0, none⟩ = some (.slice xa xn xc) := cell_blk2 HI.out.cel (i := 0) rfl
              clear hdep ho hI hT
              try simp only [fill, slotOf, List.size_toArray, List.length_cons, List.length_nil, Nat.reduceAdd, List.getElem?_toArray, List.getElem?_cons_zero, List.getElem?_cons_succ, Option.bind_some, Act.put, List.setIfInBounds_toArray, List.set_cons_zero, List.set_cons_succ] at hK ⊢
              rw [d6] at hK ⊢
              go_simp
              exact hK (.slice xa xn xc) _ (HI.out.val 7 _ rfl (by decide) (by decide) (by decide) (by decide) (by omega)) _ rfl
            · obtain rfl := Option.some.inj ho.symm
              have d5 : V 5 = .pointer (some ⟨D, 0, none⟩) := HI.out.vs 5 _ (hdep ⟨5, .data⟩ (by simp) rfl) rfl
              have d7 : V 7 = .slice xa xn xc := HI.out.vs 7 _ (hdep ⟨7, .data⟩ (by simp) rfl) rfl
              have t8 : T 8 = false := hT
              have HC := Lib.hid (rbput_any (HI.out.dt0 t8) (HA0.out.kept HI.out.bel) h40' HL9.out hr2 HI.out.bel.size)
              clear hdep ho hI hT
              try simp only [fill, slotOf, List.size_toArray, List.length_cons, List.length_nil, Nat.reduceAdd, List.getElem?_toArray, List.getElem?_cons_zero, List.getElem?_cons_succ, Option.bind_some, Act.put, List.setIfInBounds_toArray, List.set_cons_zero, List.set_cons_succ] at hK ⊢
              rw [d5, d7] at hK ⊢
              go_simp
              refine HC.out.mono ?_
              rintro e w8 ⟨rfl, hd8, hF8⟩
              rw [HFF.out, ← HL1E.out] at hd8
              rw [HFF.out]
              exact hK (.bool F) _ (HI.out.rput rfl hDw hd8 hF8) _ rfl
            · obtain rfl := Option.some.inj ho.symm
              have d4 : V 4 = .bool F := HI.out.vs 4 _ (hdep ⟨4, .data⟩ (by simp) rfl) rfl
              have d8 : V 8 = .bool F := HI.out.vs 8 _ (hdep ⟨8, .data⟩ (by simp) rfl) rfl
              have t4 : T 4 = true := hdep ⟨4, .data⟩ (by simp) rfl
              have t8 : T 8 = true := hdep ⟨8, .data⟩ (by simp) rfl
              clear hdep ho hI hT
              try simp only [fill, slotOf, List.size_toArray, List.length_cons, List.length_nil, Nat.reduceAdd, List.getElem?_toArray, List.getElem?_cons_zero, List.getElem?_cons_succ, Option.bind_some, Act.put, List.setIfInBounds_toArray, List.set_cons_zero, List.set_cons_succ] at hK ⊢
              rw [d4, d8] at hK ⊢
              go_simp
              exact hK (.bool false) _ (HI.out.val 9 _ rfl (by decide) (by decide) (by decide) (by decide) (fun _ => ⟨t4, t8⟩)) _ rfl
            · obtain rfl := Option.some.inj ho.symm
              have d9 : V 9 = .bool false := HI.out.vs 9 _ (hdep ⟨9, .data⟩ (by simp) rfl) rfl
              have t9 : T 9 = true := hdep ⟨9, .data⟩ (by simp) rfl
              have t48 := HI.out.cl (by rw [t9]; simp)
              clear hdep ho hI hT
              try simp only [fill, slotOf, List.size_toArray, List.length_cons, List.length_nil, Nat.reduceAdd, List.getElem?_toArray, List.getElem?_cons_zero, List.getElem?_cons_succ, Option.bind_some, Act.put, List.setIfInBounds_toArray, List.set_cons_zero, List.set_cons_succ] at hK ⊢
              rw [d9] at hK ⊢
              go_simp
              exact hK (.bool false) _ (HI.out.val 10 _ rfl (by decide) (by decide) (by decide) (by decide) (fun _ => t48)) _ rfl
            · obtain rfl := Option.some.inj ho.symm
              have t10 : T 10 = true := hdep ⟨10, .guard⟩ (by simp) rfl
              have d10 : V 10 = .bool false := HI.out.vs 10 _ t10 rfl
              have t48 := HI.out.cl (by rw [t10]; simp)
              clear hdep ho hI hT
              try simp only [fill, slotOf, List.size_toArray, List.length_cons, List.length_nil, Nat.reduceAdd, List.getElem?_toArray, List.getElem?_cons_zero, List.getElem?_cons_succ, Option.bind_some, Act.put, List.setIfInBounds_toArray, List.set_cons_zero, List.set_cons_succ] at hK ⊢
              rw [d10] at hK ⊢
              go_simp
              exact hK (.pointer (some ⟨Y, 0, none⟩)) _ (HI.out.val 11 _ rfl (by decide) (by decide) (by decide) (by decide) (by omega)) _ rfl
            · obtain rfl := Option.some.inj ho.symm
              have d11 : V 11 = .pointer (some ⟨Y, 0, none⟩) := HI.out.vs 11 _ (hdep ⟨11, .data⟩ (by simp) rfl) rfl
              have t10 : T 10 = true := hdep ⟨10, .guard⟩ (by simp) rfl
              have d10 : V 10 = .bool false := HI.out.vs 10 _ t10 rfl
              have t48 := HI.out.cl (by rw [t10]; simp)
              obtain ⟨l9, hh9, hf9⟩ := HI.out.at1 t48.1
              have HC := Lib.hid (hlen_any hh9 HL1.out)
              clear hh9 hf9
              clear hdep ho hI hT
              try simp only [fill, slotOf, List.size_toArray, List.length_cons, List.length_nil, Nat.reduceAdd, List.getElem?_toArray, List.getElem?_cons_zero, List.getElem?_cons_succ, Option.bind_some, Act.put, List.setIfInBounds_toArray, List.set_cons_zero, List.set_cons_succ] at hK ⊢
              rw [d11, d10] at hK ⊢
              go_simp
              refine HC.out.mono ?_
              rintro e w8 ⟨rfl, hb8⟩
              exact hK (.int .i64 (L1.length : Int)) _ ((HI.out.drew hb8).val 12 _ rfl (by decide) (by decide) (by decide) (by decide) (by omega)) _ rfl
            · obtain rfl := Option.some.inj ho.symm
              have t10 : T 10 = true := hdep ⟨10, .guard⟩ (by simp) rfl
              have d10 : V 10 = .bool false := HI.out.vs 10 _ t10 rfl
              have t48 := HI.out.cl (by rw [t10]; simp)
              clear hdep ho hI hT
              try simp only [fill, slotOf, List.size_toArray, List.length_cons, List.length_nil, Nat.reduceAdd, List.getElem?_toArray, List.getElem?_cons_zero, List.getElem?_cons_succ, Option.bind_some, Act.put, List.setIfInBounds_toArray, List.set_cons_zero, List.set_cons_succ] at hK ⊢
              rw [d10] at hK ⊢
              go_simp
              exact hK (.pointer (some ⟨D, 0, none⟩)) _ (HI.out.val 13 _ rfl (by decide) (by decide) (by decide) (by decide) (by omega)) _ rfl
            · obtain rfl := Option.some.inj ho.symm
              have d13 : V 13 = .pointer (some ⟨D, 0, none⟩) := HI.out.vs 13 _ (hdep ⟨13, .data⟩ (by simp) rfl) rfl
              have t10 : T 10 = true := hdep ⟨10, .guard⟩ (by simp) rfl
              have d10 : V 10 = .bool false := HI.out.vs 10 _ t10 rfl
              have t48 := HI.out.cl (by rw [t10]; simp)
              clear hdep ho hI hT
              try simp only [fill, slotOf, List.size_toArray, List.length_cons, List.length_nil, Nat.reduceAdd, List.getElem?_toArray, List.getElem?_cons_zero, List.getElem?_cons_succ, Option.bind_some, Act.put, List.setIfInBounds_toArray, List.set_cons_zero, List.set_cons_succ] at hK ⊢
              rw [d13, d10] at hK ⊢
              go_simp
              exact hK (.pointer (some ⟨D, 0, none⟩)) _ (HI.out.val 14 _ rfl (by decide) (by decide) (by decide) (by decide) (by omega)) _ rfl
            · obtain rfl := Option.some.inj ho.symm
              have d14 : V 14 = .pointer (some ⟨D, 0, none⟩) := HI.out.vs 14 _ (hdep ⟨14, .data⟩ (by simp) rfl) rfl
              have t10 : T 10 = true := hdep ⟨10, .guard⟩ (by simp) rfl
              have d10 : V 10 = .bool false := HI.out.vs 10 _ t10 rfl
              have t48 := HI.out.cl (by rw [t10]; simp)
              clear hdep ho hI hT
              try simp only [fill, slotOf, List.size_toArray, List.length_cons, List.length_nil, Nat.reduceAdd, List.getElem?_toArray, List.getElem?_cons_zero, List.getElem?_cons_succ, Option.bind_some, Act.put, List.setIfInBounds_toArray, List.set_cons_zero, List.set_cons_succ] at hK ⊢
              rw [d14, d10] at hK ⊢
              go_simp
              exact hK (.pointer (some ⟨D, 0, none⟩)) _ (HI.out.val 15 _ rfl (by decide) (by decide) (by decide) (by decide) (by omega)) _ rfl
            · obtain rfl := Option.some.inj ho.symm
              have d15 : V 15 = .pointer (some ⟨D, 0, none⟩) := HI.out.vs 15 _ (hdep ⟨15, .data⟩ (by simp) rfl) rfl
              have t10 : T 10 = true := hdep ⟨10, .guard⟩ (by simp) rfl
              have d10 : V 10 = .bool false := HI.out.vs 10 _ t10 rfl
              have t48 := HI.out.cl (by rw [t10]; simp)
              obtain ⟨a9, n9, c9, g9, _, gl9, _⟩ := HI.out.dt1 t48.2
              have u1 : w9.cell? ⟨D, 0, none⟩ = some (.slice a9 n9 c9) := cell_blk2 g9 (i := 0) rfl
              have HGL := Lib.hid gl9
              clear g9 gl9
              clear hdep ho hI hT
              try simp only [fill, slotOf, List.size_toArray, List.length_cons, List.length_nil, Nat.reduceAdd, List.getElem?_toArray, List.getElem?_cons_zero, List.getElem?_cons_succ, Option.bind_some, Act.put, List.setIfInBounds_toArray, List.set_cons_zero, List.set_cons_succ] at hK ⊢
              rw [d15, d10] at hK ⊢
              go_simp
              exact hK (.slice a9 n9 c9) _ (HI.out.ld rfl ⟨a9, c9, by rw [HGL.out]⟩) _ rfl
            · obtain rfl := Option.some.inj ho.symm
              have t10 : T 10 = true := hdep ⟨10, .guard⟩ (by simp) rfl
              have d10 : V 10 = .bool false := HI.out.vs 10 _ t10 rfl
              have t48 := HI.out.cl (by rw [t10]; simp)
              have t16 : T 16 = true := hdep ⟨16, .data⟩ (by simp) rfl
              obtain ⟨a9, c9, d16⟩ := HI.out.k16 t16
              clear hdep ho hI hT
              try simp only [fill, slotOf, List.size_toArray, List.length_cons, List.length_nil, Nat.reduceAdd, List.getElem?_toArray, List.getElem?_cons_zero, List.getElem?_cons_succ, Option.bind_some, Act.put, List.setIfInBounds_toArray, List.set_cons_zero, List.set_cons_succ] at hK ⊢
              rw [d16, d10] at hK ⊢
              go_simp
              exact hK (.int .i64 (L1.length : Int)) _ (HI.out.val 17 _ rfl (by decide) (by decide) (by decide) (by decide) (by omega)) _ rfl
            · obtain rfl := Option.some.inj ho.symm
              have d12 : V 12 = .int .i64 (L1.length : Int) := HI.out.vs 12 _ (hdep ⟨12, .data⟩ (by simp) rfl) rfl
              have d17 : V 17 = .int .i64 (L1.length : Int) := HI.out.vs 17 _ (hdep ⟨17, .data⟩ (by simp) rfl) rfl
              have t10 : T 10 = true := hdep ⟨10, .guard⟩ (by simp) rfl
              have d10 : V 10 = .bool false := HI.out.vs 10 _ t10 rfl
              have t48 := HI.out.cl (by rw [t10]; simp)
              clear hdep ho hI hT
              try simp only [fill, slotOf, List.size_toArray, List.length_cons, List.length_nil, Nat.reduceAdd, List.getElem?_toArray, List.getElem?_cons_zero, List.getElem?_cons_succ, Option.bind_some, Act.put, List.setIfInBounds_toArray, List.set_cons_zero, List.set_cons_succ] at hK ⊢
              rw [d12, d17, d10] at hK ⊢
              go_simp
              exact hK (.bool false) _ (HI.out.val 18 _ rfl (by decide) (by decide) (by decide) (by decide) (by omega)) _ rfl
            · obtain rfl := Option.some.inj ho.symm
              have d10 : V 10 = .bool false := HI.out.vs 10 _ (hdep ⟨10, .data⟩ (by simp) rfl) rfl
              have d18 : V 18 = .bool false := HI.out.vs 18 _ (hdep ⟨18, .data⟩ (by simp) rfl) rfl
              have t10 : T 10 = true := hdep ⟨10, .data⟩ (by simp) rfl
              have t48 := HI.out.cl (by rw [t10]; simp)
              clear hdep ho hI hT
              try simp only [fill, slotOf, List.size_toArray, List.length_cons, List.length_nil, Nat.reduceAdd, List.getElem?_toArray, List.getElem?_cons_zero, List.getElem?_cons_succ, Option.bind_some, Act.put, List.setIfInBounds_toArray, List.set_cons_zero, List.set_cons_succ] at hK ⊢
              rw [d10, d18] at hK ⊢
              go_simp
              exact hK (.bool false) _ (HI.out.val 19 _ rfl (by decide) (by decide) (by decide) (by decide) (fun _ => t48)) _ rfl
            · obtain rfl := Option.some.inj ho.symm
              have d19 : V 19 = .bool false := HI.out.vs 19 _ (hdep ⟨19, .data⟩ (by simp) rfl) rfl
              have t19 : T 19 = true := hdep ⟨19, .data⟩ (by simp) rfl
              have t48 := HI.out.cl (by rw [t19]; simp)
              clear hdep ho hI hT
              try simp only [fill, slotOf, List.size_toArray, List.length_cons, List.length_nil, Nat.reduceAdd, List.getElem?_toArray, List.getElem?_cons_zero, List.getElem?_cons_succ, Option.bind_some, Act.put, List.setIfInBounds_toArray, List.set_cons_zero, List.set_cons_succ] at hK ⊢
              rw [d19] at hK ⊢
              go_simp
              exact hK (.bool false) _ (HI.out.val 20 _ rfl (by decide) (by decide) (by decide) (by decide) (fun _ => t48)) _ rfl
            · obtain rfl := Option.some.inj ho.symm
              have t20 : T 20 = true := hdep ⟨20, .guard⟩ (by simp) rfl
              have d20 : V 20 = .bool false := HI.out.vs 20 _ t20 rfl
              have t48 := HI.out.cl (by rw [t20]; simp)
              clear hdep ho hI hT
              try simp only [fill, slotOf, List.size_toArray, List.length_cons, List.length_nil, Nat.reduceAdd, List.getElem?_toArray, List.getElem?_cons_zero, List.getElem?_cons_succ, Option.bind_some, Act.put, List.setIfInBounds_toArray, List.set_cons_zero, List.set_cons_succ] at hK ⊢
              rw [d20] at hK ⊢
              go_simp
              exact hK (.pointer (some ⟨Y, 0, none⟩)) _ (HI.out.val 21 _ rfl (by decide) (by decide) (by decide) (by decide) (by omega)) _ rfl
            · obtain rfl := Option.some.inj ho.symm
              have d21 : V 21 = .pointer (some ⟨Y, 0, none⟩) := HI.out.vs 21 _ (hdep ⟨21, .data⟩ (by simp) rfl) rfl
              have t20 : T 20 = true := hdep ⟨20, .guard⟩ (by simp) rfl
              have d20 : V 20 = .bool false := HI.out.vs 20 _ t20 rfl
              have t48 := HI.out.cl (by rw [t20]; simp)
              obtain ⟨l9, hh9, hf9⟩ := HI.out.at1 t48.1
              have HH9 := Lib.hid hh9
              have HC := Lib.hid (hmost_any hh9 hr2)
              clear hh9 hf9
              clear hdep ho hI hT
              try simp only [fill, slotOf, List.size_toArray, List.length_cons, List.length_nil, Nat.reduceAdd, List.getElem?_toArray, List.getElem?_cons_zero, List.getElem?_cons_succ, Option.bind_some, Act.put, List.setIfInBounds_toArray, List.set_cons_zero, List.set_cons_succ] at hK ⊢
              rw [d21, d20] at hK ⊢
              go_simp
              refine HC.out.mono ?_
              rintro e w8 ⟨m8, rfl, hm8, _, hb8⟩
              rw [max_same HH9.out hm8 (mxK_is _)]
              exact hK (.int .i64 (mxK L1 : Int)) _ ((HI.out.drew hb8).val 22 _ rfl (by decide) (by decide) (by decide) (by decide) (by omega)) _ rfl
            · obtain rfl := Option.some.inj ho.symm
              have t20 : T 20 = true := hdep ⟨20, .guard⟩ (by simp) rfl
              have d20 : V 20 = .bool false := HI.out.vs 20 _ t20 rfl
              have t48 := HI.out.cl (by rw [t20]; simp)
              clear hdep ho hI hT
              try simp only [fill, slotOf, List.size_toArray, List.length_cons, List.length_nil, Nat.reduceAdd, List.getElem?_toArray, List.getElem?_cons_zero, List.getElem?_cons_succ, Option.bind_some, Act.put, List.setIfInBounds_toArray, List.set_cons_zero, List.set_cons_succ] at hK ⊢
              rw [d20] at hK ⊢
              go_simp
              exact hK (.pointer (some ⟨D, 0, none⟩)) _ (HI.out.val 23 _ rfl (by decide) (by decide) (by decide) (by decide) (by omega)) _ rfl
            · obtain rfl := Option.some.inj ho.symm
              have d23 : V 23 = .pointer (some ⟨D, 0, none⟩) := HI.out.vs 23 _ (hdep ⟨23, .data⟩ (by simp) rfl) rfl
              have t20 : T 20 = true := hdep ⟨20, .guard⟩ (by simp) rfl
              have d20 : V 20 = .bool false := HI.out.vs 20 _ t20 rfl
              have t48 := HI.out.cl (by rw [t20]; simp)
              have HC := Lib.hid (rbmost_any (HI.out.dt1 t48.2) HL1b.out)
              clear hdep ho hI hT
              try simp only [fill, slotOf, List.size_toArray, List.length_cons, List.length_nil, Nat.reduceAdd, List.getElem?_toArray, List.getElem?_cons_zero, List.getElem?_cons_succ, Option.bind_some, Act.put, List.setIfInBounds_toArray, List.set_cons_zero, List.set_cons_succ] at hK ⊢
              rw [d23, d20] at hK ⊢
              go_simp
              refine HC.out.mono ?_
              rintro e w8 ⟨m8, rfl, hm8, hb8⟩
              rw [rmax_uniq hm8 (mxK_is _)]
              exact hK (.int .i64 (mxK L1 : Int)) _ ((HI.out.drew hb8).val 24 _ rfl (by decide) (by decide) (by decide) (by decide) (by omega)) _ rfl
            · obtain rfl := Option.some.inj ho.symm
              have d22 : V 22 = .int .i64 (mxK L1 : Int) := HI.out.vs 22 _ (hdep ⟨22, .data⟩ (by simp) rfl) rfl
              have d24 : V 24 = .int .i64 (mxK L1 : Int) := HI.out.vs 24 _ (hdep ⟨24, .data⟩ (by simp) rfl) rfl
              have t20 : T 20 = true := hdep ⟨20, .guard⟩ (by simp) rfl
              have d20 : V 20 = .bool false := HI.out.vs 20 _ t20 rfl
              have t48 := HI.out.cl (by rw [t20]; simp)
              clear hdep ho hI hT
              try simp only [fill, slotOf, List.size_toArray, List.length_cons, List.length_nil, Nat.reduceAdd, List.getElem?_toArray, List.getElem?_cons_zero, List.getElem?_cons_succ, Option.bind_some, Act.put, List.setIfInBounds_toArray, List.set_cons_zero, List.set_cons_succ] at hK ⊢
              rw [d22, d24, d20] at hK ⊢
              go_simp
              exact hK (.bool false) _ (HI.out.val 25 _ rfl (by decide) (by decide) (by decide) (by decide) (by omega)) _ rfl
            · obtain rfl := Option.some.inj ho.symm
              have d20 : V 20 = .bool false := HI.out.vs 20 _ (hdep ⟨20, .data⟩ (by simp) rfl) rfl
              have d25 : V 25 = .bool false := HI.out.vs 25 _ (hdep ⟨25, .data⟩ (by simp) rfl) rfl
              clear hdep ho hI hT
              try simp only [fill, slotOf, List.size_toArray, List.length_cons, List.length_nil, Nat.reduceAdd, List.getElem?_toArray, List.getElem?_cons_zero, List.getElem?_cons_succ, Option.bind_some, Act.put, List.setIfInBounds_toArray, List.set_cons_zero, List.set_cons_succ] at hK ⊢
              rw [d20, d25] at hK ⊢
              go_simp
              exact hK (.bool false) _ (HI.out.val 26 _ rfl (by decide) (by decide) (by decide) (by decide) (by omega)) _ rfl
          · intro T V w9 hI hall
            have dL : V 26 = .bool false := hI.vs 26 _ (hall 26 (by decide)) rfl
            have HI := Lib.hid hI
            have t4 := hall 4 (by decide)
            have t8 := hall 8 (by decide)
            clear hI hall
            simp only [fill, slotOf, List.size_toArray, List.length_cons, List.length_nil, Nat.reduceAdd, List.getElem?_toArray, List.getElem?_cons_zero, List.getElem?_cons_succ, Option.bind_some, Act.put, List.setIfInBounds_toArray, List.set_cons_zero, List.set_cons_succ]
            rw [dL]
            clear dL
            obtain ⟨l9, hh9, hf9⟩ := HI.out.at1 t4
            have HO9 := Lib.hid hh9
            have HF9 := Lib.hid hf9
            have HD9 := Lib.hid (HI.out.dt1 t8)
            have HB9 := Lib.hid HI.out.bel
            have HTT := Lib.hid (show L1.length ≤ 40 * (i + 1) from by
              rw [HL1E.out]; split
              · rw [List.length_append, HA0.out.len]; have := HT.out; omega
              · have := HT.out; omega)
            clear HI hh9 hf9 t4 t8
            go_wp2_with fail
            go_roundw
            case rel => exact ⟨i + 1, l9, L1, by omega, by push_cast; rfl, HTT, HO9, HF9, HD9, HB9⟩
            case measure => simp only [intOf]; omega
        | true =>
          go_upto_region 10 with fail
          rw [← HW3.out, ← HBX.out]
          clear c0 c1
          have hLb : L.length ≤ 9000 := by have := HT.out; omega
          have hDlt := HD3.out.lt
          have HDN := Lib.hid (hdrain_any HO3.out hr2 (by omega))
          go_wp2_with fail
          refine HDN.out.mono ?_
          rintro e w4 ⟨da, dc, dn, rfl, hv4, hdn, hge4, hh4, hF4⟩
          have HD4 := Lib.hid (HD3.out.frm HO3.out.bay hF4)
          have HB4 := Lib.hid (HB3.out.trans (hF4.toBelow HB3.out.size HF.out))
          have HK4 := Lib.hid (hF4.at HK3.out (HO3.out.bay.notT HK3.out (by decide)))
          have HV4 := Lib.hid hv4
          have HH4 := Lib.hid hh4
          have HGE := Lib.hid hge4
          have hdn2 : dn ≤ 9000 := by omega
          have HRD := Lib.hid (rbdrain_any HD4.out hLb HB4.out.size)
          clear hv4 hh4 hge4 hF4 HDN hdn
          go_wp2_with fail
          refine HRD.out.mono ?_
          rintro e w5 ⟨ra, rn, rc, R, rfl, hv5, hs5, hx5, hd5, hF5⟩
          have hRD := HO3.out.drained hs5 hx5
          rw [hRD] at hv5
          have hrn : rn = dn := by rw [← hv5.len, ← HV4.out.len]
          subst hrn
          have HV4' := Lib.hid (vec_frm HV4.out hF5 (fun b off e hp g => by have := HGE.out b off e hp; omega) (fun x hx => HV4.out.all x hx))
          have HSK := Lib.hid (samekeyed_any HV4'.out hv5 (by omega))
          have HH5 := Lib.hid (HH4.out.frm HD4.out hF5)
          have HD5 := Lib.hid hd5
          have HB5 := Lib.hid (HB4.out.trans (hF5.toBelow HB4.out.size (fun i e => by rw [e]; exact hDw)))
          obtain ⟨ga, gn, gc, g1, _⟩ := id HD4.out
          have HK5 := Lib.hid (hF5.at HK4.out (fun e => by have := HK4.out; rw [e, g1] at this; simp at this))
          clear g1
          clear hv5 hs5 hx5 hd5 hF5 hRD HRD
          go_wp2_with fail
          refine HSK.out.mono ?_
          rintro e w6 ⟨rfl, hb6⟩
          have HH6 := Lib.hid (HH5.out.below hb6)
          have HD6 := Lib.hid (HD5.out.below hb6)
          have HB6 := Lib.hid (HB5.out.trans (hb6.mono HB5.out.size))
          have HK6 := Lib.hid ((hb6.block bx (Array.getElem?_eq_some_iff.1 HK5.out).1).trans HK5.out)
          clear hb6 HSK
          obtain ⟨l2, L2, HT2, HOB, HF2, HDB⟩ : ∃ (l2 : List (ByteArray × BoxV)) (L2 : List (ByteArray × Int)), Hid (L2.length ≤ 40 * i) ∧ Hid (Holds w6 Y M room l2 L2) ∧ Hid (∀ b, BayF Y M l2 b → w.heap.size ≤ b) ∧ Hid (DBay w6 D w.heap.size room L2) := ⟨[], [], Lib.hid (by simp), HH6, Lib.hid (fun b hb => by
            obtain ⟨e1, e2⟩ := HYM.out
            rcases hb with e | e | ⟨p, hp, e⟩
            · omega
            · omega
            · cases hp), HD6⟩
          have HBB := HB6
          have HCB := HK6
          obtain ⟨dr, hdr⟩ : ∃ dr, dr = true := ⟨_, rfl⟩
          rw [← hdr] at HCB
          clear hdr HO3 HD3 HB3 HK3 HH6 HD6 HB6 HK6 HH5 HD5 HB5 HK5 HH4 HD4 HB4 HK4 HV4 HV4' HGE hLb HT HF
          obtain ⟨F, hF⟩ : ∃ F, F = fitsR room L2 ks := ⟨_, rfl⟩
          obtain ⟨L1, hL1⟩ : ∃ L1, L1 = (if F = true then L2 ++ ks else L2) := ⟨_, rfl⟩
          have HFF := Lib.hid hF.symm
          have HL1E := Lib.hid hL1
          have HL9 := Lib.hid (show L2.length ≤ 9000 from by have := HT2.out; omega)
          have HL1 : Hid (L1.length ≤ 10000) := Lib.hid (by
            rw [hL1]; split
            · rw [List.length_append, HA0.out.len]; have := HT2.out; omega
            · have := HT2.out; omega)
          have HL1b : Hid (L1.length ≤ 9000) := Lib.hid (by
            rw [hL1]; split
            · rw [List.length_append, HA0.out.len]; have := HT2.out; omega
            · have := HT2.out; omega)
          have HBD := Lib.hid HBB.out.drew
          have HCD := Lib.hid HCB.out
          have HOD := Lib.hid (HOB.out.below (Below.refl _ _).drew)
          have HDD := Lib.hid (HDB.out.below (Below.refl _ _).drew)
          clear hF hL1
          go_wp2_with fail
          clear d0 d1
          refine wp_region_inv (by kernel_rfl) (by kernel_rfl) (by kernel_rfl) (RI w Y M D room bx xa xn xc dr F ks L2 L1 (fun j_9 => match j_9 with | 0 => some (.pointer (some ⟨Y, 0, none⟩)) | 1 => some (.pointer (some ⟨bx, 0, none⟩)) | 2 => some (.slice xa xn xc) | 3 => none | 4 => some (.bool F) | 5 => some (.pointer (some ⟨D, 0, none⟩)) | 6 => some (.pointer (some ⟨bx, 0, none⟩)) | 7 => some (.slice xa xn xc) | 8 => some (.bool F) | 9 => some (.bool false) | 10 => some (.bool false) | 11 => some (.pointer (some ⟨Y, 0, none⟩)) | 12 => some (.int .i64 (L1.length : Int)) | 13 => some (.pointer (some ⟨D, 0, none⟩)) | 14 => some (.pointer (some ⟨D, 0, none⟩)) | 15 => some (.pointer (some ⟨D, 0, none⟩)) | 16 => none | 17 => some (.int .i64 (L1.length : Int)) | 18 => some (.bool false) | 19 => some (.bool false) | 20 => some (.bool false) | 21 => some (.pointer (some ⟨Y, 0, none⟩)) | 22 => some (.int .i64 (mxK L1 : Int)) | 23 => some (.pointer (some ⟨D, 0, none⟩)) | 24 => some (.int .i64 (mxK L1 : Int)) | 25 => some (.bool false) | 26 => some (.bool false) | _ => none)) (fun V => ⟨HBD.out, HCD.out, ⟨l2, HOD.out, HF2.out⟩, HDD.out, (fun h => by cases h), (fun h => by cases h), (fun h => by cases h), (fun j u h => by cases h)⟩) ?_ ?_
          · intro i9 o ho T V w9 K hI hT hdep hK
            have HI := Lib.hid hI
            simp only [fill, slotOf, List.size_toArray, List.length_cons, List.length_nil, Nat.reduceAdd, List.getElem?_toArray, List.getElem?_cons_zero, List.getElem?_cons_succ, Option.bind_some, Act.put, List.setIfInBounds_toArray, List.set_cons_zero, List.set_cons_succ] at hK ⊢
            have hin9 : i9 < 27 := (Array.getElem?_eq_some_iff.1 ho).1
            have hcs : i9 = 0 ∨ i9 = 1 ∨ i9 = 2 ∨ i9 = 3 ∨ i9 = 4 ∨ i9 = 5 ∨ i9 = 6 ∨ i9 = 7 ∨ i9 = 8 ∨ i9 = 9 ∨ i9 = 10 ∨ i9 = 11 ∨ i9 = 12 ∨ i9 = 13 ∨ i9 = 14 ∨ i9 = 15 ∨ i9 = 16 ∨ i9 = 17 ∨ i9 = 18 ∨ i9 = 19 ∨ i9 = 20 ∨ i9 = 21 ∨ i9 = 22 ∨ i9 = 23 ∨ i9 = 24 ∨ i9 = 25 ∨ i9 = 26 := by omega
            clear hin9
            rcases hcs with rfl | rfl | rfl | rfl | rfl | rfl | rfl | rfl | rfl | rfl | rfl | rfl | rfl | rfl | rfl | rfl | rfl | rfl | rfl | rfl | rfl | rfl | rfl | rfl | rfl | rfl | rfl
            · obtain rfl := Option.some.inj ho.symm
              clear hdep ho hI hT
              try simp only [fill, slotOf, List.size_toArray, List.length_cons, List.length_nil, Nat.reduceAdd, List.getElem?_toArray, List.getElem?_cons_zero, List.getElem?_cons_succ, Option.bind_some, Act.put, List.setIfInBounds_toArray, List.set_cons_zero, List.set_cons_succ] at hK ⊢
              go_simp
              exact hK (.pointer (some ⟨Y, 0, none⟩)) _ (HI.out.val 0 _ rfl (by decide) (by decide) (by decide) (by decide) (by omega)) _ rfl
            · obtain rfl := Option.some.inj ho.symm
              clear hdep ho hI hT
              try simp only [fill, slotOf, List.size_toArray, List.length_cons, List.length_nil, Nat.reduceAdd, List.getElem?_toArray, List.getElem?_cons_zero, List.getElem?_cons_succ, Option.bind_some, Act.put, List.setIfInBounds_toArray, List.set_cons_zero, List.set_cons_succ] at hK ⊢
              go_simp
              exact hK (.pointer (some ⟨bx, 0, none⟩)) _ (HI.out.val 1 _ rfl (by decide) (by decide) (by decide) (by decide) (by omega)) _ rfl
            · obtain rfl := Option.some.inj ho.symm
              have d1 : V 1 = .pointer (some ⟨bx, 0, none⟩) := HI.out.vs 1 _ (hdep ⟨1, .data⟩ (by simp) rfl) rfl
              have u1 : w9.cell? ⟨bx, 0, none⟩ = some (.slice xa xn xc) := cell_blk2 HI.out.cel (i := 0) rfl
              clear hdep ho hI hT
              try simp only [fill, slotOf, List.size_toArray, List.length_cons, List.length_nil, Nat.reduceAdd, List.getElem?_toArray, List.getElem?_cons_zero, List.getElem?_cons_succ, Option.bind_some, Act.put, List.setIfInBounds_toArray, List.set_cons_zero, List.set_cons_succ] at hK ⊢
              rw [d1] at hK ⊢
              go_simp
              exact hK (.slice xa xn xc) _ (HI.out.val 2 _ rfl (by decide) (by decide) (by decide) (by decide) (by omega)) _ rfl
            · obtain rfl := Option.some.inj ho.symm
              have d2 : V 2 = .slice xa xn xc := HI.out.vs 2 _ (hdep ⟨2, .data⟩ (by simp) rfl) rfl
              have HC := Lib.hid (keyed_any (HA0.out.kept HI.out.bel) h40')
              clear hdep ho hI hT
              try simp only [fill, slotOf, List.size_toArray, List.length_cons, List.length_nil, Nat.reduceAdd, List.getElem?_toArray, List.getElem?_cons_zero, List.getElem?_cons_succ, Option.bind_some, Act.put, List.setIfInBounds_toArray, List.set_cons_zero, List.set_cons_succ] at hK ⊢
              rw [d2] at hK ⊢
              go_simp
              refine HC.out.mono ?_
              rintro e w8 ⟨v8, rfl, ho8, hb8⟩
              exact hK v8 _ (HI.out.key rfl ho8 hb8) _ rfl
            · obtain rfl := Option.some.inj ho.symm
              have d0 : V 0 = .pointer (some ⟨Y, 0, none⟩) := HI.out.vs 0 _ (hdep ⟨0, .data⟩ (by simp) rfl) rfl
              have t3 : T 3 = true := hdep ⟨3, .data⟩ (by simp) rfl
              have t4 : T 4 = false := hT
              obtain ⟨l9, hh9, hf9⟩ := HI.out.at0 t4
              have ho9 := HI.out.k3 t3 t4
              have HH9 := Lib.hid (And.intro hh9 hf9)
              have HC := Lib.hid (hput_any hh9 ho9 HA0.out.len HKS.out h40' hr1 hr2 (Nat.le_trans HL9.out (by decide)))
              rw [hh9.fits, HFF.out] at HC
              clear hh9 hf9 ho9
              clear hdep ho hI hT
              try simp only [fill, slotOf, List.size_toArray, List.length_cons, List.length_nil, Nat.reduceAdd, List.getElem?_toArray, List.getElem?_cons_zero, List.getElem?_cons_succ, Option.bind_some, Act.put, List.setIfInBounds_toArray, List.set_cons_zero, List.set_cons_succ] at hK ⊢
              rw [d0] at hK ⊢
              go_simp
              refine HC.out.mono ?_
              rintro e w8 ⟨l8, L8, rfl, hL8, hh8, hF8, hf8⟩
              rw [← HL1E.out] at hL8
              subst hL8
              exact hK (.bool F) _ (HI.out.put rfl HH9.out.1.bay HH9.out.2 hh8 hF8 hf8) _ rfl
            · obtain rfl := Option.some.inj ho.symm
              clear hdep ho hI hT
              try simp only [fill, slotOf, List.size_toArray, List.length_cons, List.length_nil, Nat.reduceAdd, List.getElem?_toArray, List.getElem?_cons_zero, List.getElem?_cons_succ, Option.bind_some, Act.put, List.setIfInBounds_toArray, List.set_cons_zero, List.set_cons_succ] at hK ⊢
              go_simp
              exact hK (.pointer (some ⟨D, 0, none⟩)) _ (HI.out.val 5 _ rfl (by decide) (by decide) (by decide) (by decide) (by omega)) _ rfl
            · obtain rfl := Option.some.inj ho.symm
              clear hdep ho hI hT
              try simp only [fill, slotOf, List.size_toArray, List.length_cons, List.length_nil, Nat.reduceAdd, List.getElem?_toArray, List.getElem?_cons_zero, List.getElem?_cons_succ, Option.bind_some, Act.put, List.setIfInBounds_toArray, List.set_cons_zero, List.set_cons_succ] at hK ⊢
              go_simp
              exact hK (.pointer (some ⟨bx, 0, none⟩)) _ (HI.out.val 6 _ rfl (by decide) (by decide) (by decide) (by decide) (by omega)) _ rfl
            · obtain rfl := Option.some.inj ho.symm
              have d6 : V 6 = .pointer (some ⟨bx, 0, none⟩) := HI.out.vs 6 _ (hdep ⟨6, .data⟩ (by simp) rfl) rfl
              have u1 : w9.cell? ⟨bx, 0, none⟩ = some (.slice xa xn xc) := cell_blk2 HI.out.cel (i := 0) rfl
              clear hdep ho hI hT
              try simp only [fill, slotOf, List.size_toArray, List.length_cons, List.length_nil, Nat.reduceAdd, List.getElem?_toArray, List.getElem?_cons_zero, List.getElem?_cons_succ, Option.bind_some, Act.put, List.setIfInBounds_toArray, List.set_cons_zero, List.set_cons_succ] at hK ⊢
              rw [d6] at hK ⊢
              go_simp
              exact hK (.slice xa xn xc) _ (HI.out.val 7 _ rfl (by decide) (by decide) (by decide) (by decide) (by omega)) _ rfl
            · obtain rfl := Option.some.inj ho.symm
              have d5 : V 5 = .pointer (some ⟨D, 0, none⟩) := HI.out.vs 5 _ (hdep ⟨5, .data⟩ (by simp) rfl) rfl
              have d7 : V 7 = .slice xa xn xc := HI.out.vs 7 _ (hdep ⟨7, .data⟩ (by simp) rfl) rfl
              have t8 : T 8 = false := hT
              have HC := Lib.hid (rbput_any (HI.out.dt0 t8) (HA0.out.kept HI.out.bel) h40' HL9.out hr2 HI.out.bel.size)
              clear hdep ho hI hT
              try simp only [fill, slotOf, List.size_toArray, List.length_cons, List.length_nil, Nat.reduceAdd, List.getElem?_toArray, List.getElem?_cons_zero, List.getElem?_cons_succ, Option.bind_some, Act.put, List.setIfInBounds_toArray, List.set_cons_zero, List.set_cons_succ] at hK ⊢
              rw [d5, d7] at hK ⊢
              go_simp
              refine HC.out.mono ?_
              rintro e w8 ⟨rfl, hd8, hF8⟩
              rw [HFF.out, ← HL1E.out] at hd8
              rw [HFF.out]
              exact hK (.bool F) _ (HI.out.rput rfl hDw hd8 hF8) _ rfl
            · obtain rfl := Option.some.inj ho.symm
              have d4 : V 4 = .bool F := HI.out.vs 4 _ (hdep ⟨4, .data⟩ (by simp) rfl) rfl
              have d8 : V 8 = .bool F := HI.out.vs 8 _ (hdep ⟨8, .data⟩ (by simp) rfl) rfl
              have t4 : T 4 = true := hdep ⟨4, .data⟩ (by simp) rfl
              have t8 : T 8 = true := hdep ⟨8, .data⟩ (by simp) rfl
              clear hdep ho hI hT
              try simp only [fill, slotOf, List.size_toArray, List.length_cons, List.length_nil, Nat.reduceAdd, List.getElem?_toArray, List.getElem?_cons_zero, List.getElem?_cons_succ, Option.bind_some, Act.put, List.setIfInBounds_toArray, List.set_cons_zero, List.set_cons_succ] at hK ⊢
              rw [d4, d8] at hK ⊢
              go_simp
              exact hK (.bool false) _ (HI.out.val 9 _ rfl (by decide) (by decide) (by decide) (by decide) (fun _ => ⟨t4, t8⟩)) _ rfl
            · obtain rfl := Option.some.inj ho.symm
              have d9 : V 9 = .bool false := HI.out.vs 9 _ (hdep ⟨9, .data⟩ (by simp) rfl) rfl
              have t9 : T 9 = true := hdep ⟨9, .data⟩ (by simp) rfl
              have t48 := HI.out.cl (by rw [t9]; simp)
              clear hdep ho hI hT
              try simp only [fill, slotOf, List.size_toArray, List.length_cons, List.length_nil, Nat.reduceAdd, List.getElem?_toArray, List.getElem?_cons_zero, List.getElem?_cons_succ, Option.bind_some, Act.put, List.setIfInBounds_toArray, List.set_cons_zero, List.set_cons_succ] at hK ⊢
              rw [d9] at hK ⊢
              go_simp
              exact hK (.bool false) _ (HI.out.val 10 _ rfl (by decide) (by decide) (by decide) (by decide) (fun _ => t48)) _ rfl
            · obtain rfl := Option.some.inj ho.symm
              have t10 : T 10 = true := hdep ⟨10, .guard⟩ (by simp) rfl
              have d10 : V 10 = .bool false := HI.out.vs 10 _ t10 rfl
              have t48 := HI.out.cl (by rw [t10]; simp)
              clear hdep ho hI hT
              try simp only [fill, slotOf, List.size_toArray, List.length_cons, List.length_nil, Nat.reduceAdd, List.getElem?_toArray, List.getElem?_cons_zero, List.getElem?_cons_succ, Option.bind_some, Act.put, List.setIfInBounds_toArray, List.set_cons_zero, List.set_cons_succ] at hK ⊢
              rw [d10] at hK ⊢
              go_simp
              exact hK (.pointer (some ⟨Y, 0, none⟩)) _ (HI.out.val 11 _ rfl (by decide) (by decide) (by decide) (by decide) (by omega)) _ rfl
            · obtain rfl := Option.some.inj ho.symm
              have d11 : V 11 = .pointer (some ⟨Y, 0, none⟩) := HI.out.vs 11 _ (hdep ⟨11, .data⟩ (by simp) rfl) rfl
              have t10 : T 10 = true := hdep ⟨10, .guard⟩ (by simp) rfl
              have d10 : V 10 = .bool false := HI.out.vs 10 _ t10 rfl
              have t48 := HI.out.cl (by rw [t10]; simp)
              obtain ⟨l9, hh9, hf9⟩ := HI.out.at1 t48.1
              have HC := Lib.hid (hlen_any hh9 HL1.out)
              clear hh9 hf9
              clear hdep ho hI hT
              try simp only [fill, slotOf, List.size_toArray, List.length_cons, List.length_nil, Nat.reduceAdd, List.getElem?_toArray, List.getElem?_cons_zero, List.getElem?_cons_succ, Option.bind_some, Act.put, List.setIfInBounds_toArray, List.set_cons_zero, List.set_cons_succ] at hK ⊢
              rw [d11, d10] at hK ⊢
              go_simp
              refine HC.out.mono ?_
              rintro e w8 ⟨rfl, hb8⟩
              exact hK (.int .i64 (L1.length : Int)) _ ((HI.out.drew hb8).val 12 _ rfl (by decide) (by decide) (by decide) (by decide) (by omega)) _ rfl
            · obtain rfl := Option.some.inj ho.symm
              have t10 : T 10 = true := hdep ⟨10, .guard⟩ (by simp) rfl
              have d10 : V 10 = .bool false := HI.out.vs 10 _ t10 rfl
              have t48 := HI.out.cl (by rw [t10]; simp)
              clear hdep ho hI hT
              try simp only [fill, slotOf, List.size_toArray, List.length_cons, List.length_nil, Nat.reduceAdd, List.getElem?_toArray, List.getElem?_cons_zero, List.getElem?_cons_succ, Option.bind_some, Act.put, List.setIfInBounds_toArray, List.set_cons_zero, List.set_cons_succ] at hK ⊢
              rw [d10] at hK ⊢
              go_simp
              exact hK (.pointer (some ⟨D, 0, none⟩)) _ (HI.out.val 13 _ rfl (by decide) (by decide) (by decide) (by decide) (by omega)) _ rfl
            · obtain rfl := Option.some.inj ho.symm
              have d13 : V 13 = .pointer (some ⟨D, 0, none⟩) := HI.out.vs 13 _ (hdep ⟨13, .data⟩ (by simp) rfl) rfl
              have t10 : T 10 = true := hdep ⟨10, .guard⟩ (by simp) rfl
              have d10 : V 10 = .bool false := HI.out.vs 10 _ t10 rfl
              have t48 := HI.out.cl (by rw [t10]; simp)
              clear hdep ho hI hT
              try simp only [fill, slotOf, List.size_toArray, List.length_cons, List.length_nil, Nat.reduceAdd, List.getElem?_toArray, List.getElem?_cons_zero, List.getElem?_cons_succ, Option.bind_some, Act.put, List.setIfInBounds_toArray, List.set_cons_zero, List.set_cons_succ] at hK ⊢
              rw [d13, d10] at hK ⊢
              go_simp
              exact hK (.pointer (some ⟨D, 0, none⟩)) _ (HI.out.val 14 _ rfl (by decide) (by decide) (by decide) (by decide) (by omega)) _ rfl
            · obtain rfl := Option.some.inj ho.symm
              have d14 : V 14 = .pointer (some ⟨D, 0, none⟩) := HI.out.vs 14 _ (hdep ⟨14, .data⟩ (by simp) rfl) rfl
              have t10 : T 10 = true := hdep ⟨10, .guard⟩ (by simp) rfl
              have d10 : V 10 = .bool false := HI.out.vs 10 _ t10 rfl
              have t48 := HI.out.cl (by rw [t10]; simp)
              clear hdep ho hI hT
              try simp only [fill, slotOf, List.size_toArray, List.length_cons, List.length_nil, Nat.reduceAdd, List.getElem?_toArray, List.getElem?_cons_zero, List.getElem?_cons_succ, Option.bind_some, Act.put, List.setIfInBounds_toArray, List.set_cons_zero, List.set_cons_succ] at hK ⊢
              rw [d14, d10] at hK ⊢
              go_simp
              exact hK (.pointer (some ⟨D, 0, none⟩)) _ (HI.out.val 15 _ rfl (by decide) (by decide) (by decide) (by decide) (by omega)) _ rfl
            · obtain rfl := Option.some.inj ho.symm
              have d15 : V 15 = .pointer (some ⟨D, 0, none⟩) := HI.out.vs 15 _ (hdep ⟨15, .data⟩ (by simp) rfl) rfl
              have t10 : T 10 = true := hdep ⟨10, .guard⟩ (by simp) rfl
              have d10 : V 10 = .bool false := HI.out.vs 10 _ t10 rfl
              have t48 := HI.out.cl (by rw [t10]; simp)
              obtain ⟨a9, n9, c9, g9, _, gl9, _⟩ := HI.out.dt1 t48.2
              have u1 : w9.cell? ⟨D, 0, none⟩ = some (.slice a9 n9 c9) := cell_blk2 g9 (i := 0) rfl
              have HGL := Lib.hid gl9
              clear g9 gl9
              clear hdep ho hI hT
              try simp only [fill, slotOf, List.size_toArray, List.length_cons, List.length_nil, Nat.reduceAdd, List.getElem?_toArray, List.getElem?_cons_zero, List.getElem?_cons_succ, Option.bind_some, Act.put, List.setIfInBounds_toArray, List.set_cons_zero, List.set_cons_succ] at hK ⊢
              rw [d15, d10] at hK ⊢
              go_simp
              exact hK (.slice a9 n9 c9) _ (HI.out.ld rfl ⟨a9, c9, by rw [HGL.out]⟩) _ rfl
            · obtain rfl := Option.some.inj ho.symm
              have t10 : T 10 = true := hdep ⟨10, .guard⟩ (by simp) rfl
              have d10 : V 10 = .bool false := HI.out.vs 10 _ t10 rfl
              have t48 := HI.out.cl (by rw [t10]; simp)
              have t16 : T 16 = true := hdep ⟨16, .data⟩ (by simp) rfl
              obtain ⟨a9, c9, d16⟩ := HI.out.k16 t16
              clear hdep ho hI hT
              try simp only [fill, slotOf, List.size_toArray, List.length_cons, List.length_nil, Nat.reduceAdd, List.getElem?_toArray, List.getElem?_cons_zero, List.getElem?_cons_succ, Option.bind_some, Act.put, List.setIfInBounds_toArray, List.set_cons_zero, List.set_cons_succ] at hK ⊢
              rw [d16, d10] at hK ⊢
              go_simp
              exact hK (.int .i64 (L1.length : Int)) _ (HI.out.val 17 _ rfl (by decide) (by decide) (by decide) (by decide) (by omega)) _ rfl
            · obtain rfl := Option.some.inj ho.symm
              have d12 : V 12 = .int .i64 (L1.length : Int) := HI.out.vs 12 _ (hdep ⟨12, .data⟩ (by simp) rfl) rfl
              have d17 : V 17 = .int .i64 (L1.length : Int) := HI.out.vs 17 _ (hdep ⟨17, .data⟩ (by simp) rfl) rfl
              have t10 : T 10 = true := hdep ⟨10, .guard⟩ (by simp) rfl
              have d10 : V 10 = .bool false := HI.out.vs 10 _ t10 rfl
              have t48 := HI.out.cl (by rw [t10]; simp)
              clear hdep ho hI hT
              try simp only [fill, slotOf, List.size_toArray, List.length_cons, List.length_nil, Nat.reduceAdd, List.getElem?_toArray, List.getElem?_cons_zero, List.getElem?_cons_succ, Option.bind_some, Act.put, List.setIfInBounds_toArray, List.set_cons_zero, List.set_cons_succ] at hK ⊢
              rw [d12, d17, d10] at hK ⊢
              go_simp
              exact hK (.bool false) _ (HI.out.val 18 _ rfl (by decide) (by decide) (by decide) (by decide) (by omega)) _ rfl
            · obtain rfl := Option.some.inj ho.symm
              have d10 : V 10 = .bool false := HI.out.vs 10 _ (hdep ⟨10, .data⟩ (by simp) rfl) rfl
              have d18 : V 18 = .bool false := HI.out.vs 18 _ (hdep ⟨18, .data⟩ (by simp) rfl) rfl
              have t10 : T 10 = true := hdep ⟨10, .data⟩ (by simp) rfl
              have t48 := HI.out.cl (by rw [t10]; simp)
              clear hdep ho hI hT
              try simp only [fill, slotOf, List.size_toArray, List.length_cons, List.length_nil, Nat.reduceAdd, List.getElem?_toArray, List.getElem?_cons_zero, List.getElem?_cons_succ, Option.bind_some, Act.put, List.setIfInBounds_toArray, List.set_cons_zero, List.set_cons_succ] at hK ⊢
              rw [d10, d18] at hK ⊢
              go_simp
              exact hK (.bool false) _ (HI.out.val 19 _ rfl (by decide) (by decide) (by decide) (by decide) (fun _ => t48)) _ rfl
            · obtain rfl := Option.some.inj ho.symm
              have d19 : V 19 = .bool false := HI.out.vs 19 _ (hdep ⟨19, .data⟩ (by simp) rfl) rfl
              have t19 : T 19 = true := hdep ⟨19, .data⟩ (by simp) rfl
              have t48 := HI.out.cl (by rw [t19]; simp)
              clear hdep ho hI hT
              try simp only [fill, slotOf, List.size_toArray, List.length_cons, List.length_nil, Nat.reduceAdd, List.getElem?_toArray, List.getElem?_cons_zero, List.getElem?_cons_succ, Option.bind_some, Act.put, List.setIfInBounds_toArray, List.set_cons_zero, List.set_cons_succ] at hK ⊢
              rw [d19] at hK ⊢
              go_simp
              exact hK (.bool false) _ (HI.out.val 20 _ rfl (by decide) (by decide) (by decide) (by decide) (fun _ => t48)) _ rfl
            · obtain rfl := Option.some.inj ho.symm
              have t20 : T 20 = true := hdep ⟨20, .guard⟩ (by simp) rfl
              have d20 : V 20 = .bool false := HI.out.vs 20 _ t20 rfl
              have t48 := HI.out.cl (by rw [t20]; simp)
              clear hdep ho hI hT
              try simp only [fill, slotOf, List.size_toArray, List.length_cons, List.length_nil, Nat.reduceAdd, List.getElem?_toArray, List.getElem?_cons_zero, List.getElem?_cons_succ, Option.bind_some, Act.put, List.setIfInBounds_toArray, List.set_cons_zero, List.set_cons_succ] at hK ⊢
              rw [d20] at hK ⊢
              go_simp
              exact hK (.pointer (some ⟨Y, 0, none⟩)) _ (HI.out.val 21 _ rfl (by decide) (by decide) (by decide) (by decide) (by omega)) _ rfl
            · obtain rfl := Option.some.inj ho.symm
              have d21 : V 21 = .pointer (some ⟨Y, 0, none⟩) := HI.out.vs 21 _ (hdep ⟨21, .data⟩ (by simp) rfl) rfl
              have t20 : T 20 = true := hdep ⟨20, .guard⟩ (by simp) rfl
              have d20 : V 20 = .bool false := HI.out.vs 20 _ t20 rfl
              have t48 := HI.out.cl (by rw [t20]; simp)
              obtain ⟨l9, hh9, hf9⟩ := HI.out.at1 t48.1
              have HH9 := Lib.hid hh9
              have HC := Lib.hid (hmost_any hh9 hr2)
              clear hh9 hf9
              clear hdep ho hI hT
              try simp only [fill, slotOf, List.size_toArray, List.length_cons, List.length_nil, Nat.reduceAdd, List.getElem?_toArray, List.getElem?_cons_zero, List.getElem?_cons_succ, Option.bind_some, Act.put, List.setIfInBounds_toArray, List.set_cons_zero, List.set_cons_succ] at hK ⊢
              rw [d21, d20] at hK ⊢
              go_simp
              refine HC.out.mono ?_
              rintro e w8 ⟨m8, rfl, hm8, _, hb8⟩
              rw [max_same HH9.out hm8 (mxK_is _)]
              exact hK (.int .i64 (mxK L1 : Int)) _ ((HI.out.drew hb8).val 22 _ rfl (by decide) (by decide) (by decide) (by decide) (by omega)) _ rfl
            · obtain rfl := Option.some.inj ho.symm
              have t20 : T 20 = true := hdep ⟨20, .guard⟩ (by simp) rfl
              have d20 : V 20 = .bool false := HI.out.vs 20 _ t20 rfl
              have t48 := HI.out.cl (by rw [t20]; simp)
              clear hdep ho hI hT
              try simp only [fill, slotOf, List.size_toArray, List.length_cons, List.length_nil, Nat.reduceAdd, List.getElem?_toArray, List.getElem?_cons_zero, List.getElem?_cons_succ, Option.bind_some, Act.put, List.setIfInBounds_toArray, List.set_cons_zero, List.set_cons_succ] at hK ⊢
              rw [d20] at hK ⊢
              go_simp
              exact hK (.pointer (some ⟨D, 0, none⟩)) _ (HI.out.val 23 _ rfl (by decide) (by decide) (by decide) (by decide) (by omega)) _ rfl
            · obtain rfl := Option.some.inj ho.symm
              have d23 : V 23 = .pointer (some ⟨D, 0, none⟩) := HI.out.vs 23 _ (hdep ⟨23, .data⟩ (by simp) rfl) rfl
              have t20 : T 20 = true := hdep ⟨20, .guard⟩ (by simp) rfl
              have d20 : V 20 = .bool false := HI.out.vs 20 _ t20 rfl
              have t48 := HI.out.cl (by rw [t20]; simp)
              have HC := Lib.hid (rbmost_any (HI.out.dt1 t48.2) HL1b.out)
              clear hdep ho hI hT
              try simp only [fill, slotOf, List.size_toArray, List.length_cons, List.length_nil, Nat.reduceAdd, List.getElem?_toArray, List.getElem?_cons_zero, List.getElem?_cons_succ, Option.bind_some, Act.put, List.setIfInBounds_toArray, List.set_cons_zero, List.set_cons_succ] at hK ⊢
              rw [d23, d20] at hK ⊢
              go_simp
              refine HC.out.mono ?_
              rintro e w8 ⟨m8, rfl, hm8, hb8⟩
              rw [rmax_uniq hm8 (mxK_is _)]
              exact hK (.int .i64 (mxK L1 : Int)) _ ((HI.out.drew hb8).val 24 _ rfl (by decide) (by decide) (by decide) (by decide) (by omega)) _ rfl
            · obtain rfl := Option.some.inj ho.symm
              have d22 : V 22 = .int .i64 (mxK L1 : Int) := HI.out.vs 22 _ (hdep ⟨22, .data⟩ (by simp) rfl) rfl
              have d24 : V 24 = .int .i64 (mxK L1 : Int) := HI.out.vs 24 _ (hdep ⟨24, .data⟩ (by simp) rfl) rfl
              have t20 : T 20 = true := hdep ⟨20, .guard⟩ (by simp) rfl
              have d20 : V 20 = .bool false := HI.out.vs 20 _ t20 rfl
              have t48 := HI.out.cl (by rw [t20]; simp)
              clear hdep ho hI hT
              try simp only [fill, slotOf, List.size_toArray, List.length_cons, List.length_nil, Nat.reduceAdd, List.getElem?_toArray, List.getElem?_cons_zero, List.getElem?_cons_succ, Option.bind_some, Act.put, List.setIfInBounds_toArray, List.set_cons_zero, List.set_cons_succ] at hK ⊢
              rw [d22, d24, d20] at hK ⊢
              go_simp
              exact hK (.bool false) _ (HI.out.val 25 _ rfl (by decide) (by decide) (by decide) (by decide) (by omega)) _ rfl
            · obtain rfl := Option.some.inj ho.symm
              have d20 : V 20 = .bool false := HI.out.vs 20 _ (hdep ⟨20, .data⟩ (by simp) rfl) rfl
              have d25 : V 25 = .bool false := HI.out.vs 25 _ (hdep ⟨25, .data⟩ (by simp) rfl) rfl
              clear hdep ho hI hT
              try simp only [fill, slotOf, List.size_toArray, List.length_cons, List.length_nil, Nat.reduceAdd, List.getElem?_toArray, List.getElem?_cons_zero, List.getElem?_cons_succ, Option.bind_some, Act.put, List.setIfInBounds_toArray, List.set_cons_zero, List.set_cons_succ] at hK ⊢
              rw [d20, d25] at hK ⊢
              go_simp
              exact hK (.bool false) _ (HI.out.val 26 _ rfl (by decide) (by decide) (by decide) (by decide) (by omega)) _ rfl
          · intro T V w9 hI hall
            have dL : V 26 = .bool false := hI.vs 26 _ (hall 26 (by decide)) rfl
            have HI := Lib.hid hI
            have t4 := hall 4 (by decide)
            have t8 := hall 8 (by decide)
            clear hI hall
            simp only [fill, slotOf, List.size_toArray, List.length_cons, List.length_nil, Nat.reduceAdd, List.getElem?_toArray, List.getElem?_cons_zero, List.getElem?_cons_succ, Option.bind_some, Act.put, List.setIfInBounds_toArray, List.set_cons_zero, List.set_cons_succ]
            rw [dL]
            clear dL
            obtain ⟨l9, hh9, hf9⟩ := HI.out.at1 t4
            have HO9 := Lib.hid hh9
            have HF9 := Lib.hid hf9
            have HD9 := Lib.hid (HI.out.dt1 t8)
            have HB9 := Lib.hid HI.out.bel
            have HTT := Lib.hid (show L1.length ≤ 40 * (i + 1) from by
              rw [HL1E.out]; split
              · rw [List.length_append, HA0.out.len]; have := HT2.out; omega
              · have := HT2.out; omega)
            clear HI hh9 hf9 t4 t8
            go_wp2_with fail
            go_roundw
            case rel => exact ⟨i + 1, l9, L1, by omega, by push_cast; rfl, HTT, HO9, HF9, HD9, HB9⟩
            case measure => simp only [intOf]; omega
    · have e : i = n := by omega
      have hLb : L.length ≤ 9000 := by have := HT.out; omega
      have hDlt := HDC.out.lt
      have HDN := Lib.hid (hdrain_any HO.out hr2 (by omega))
      go_wp2_with fail
      refine HDN.out.mono ?_
      rintro e w4 ⟨da, dc, dn, rfl, hv4, hdn, hge4, hh4, hF4⟩
      have HD4 := Lib.hid (HDC.out.frm HO.out.bay hF4)
      have HB4 := Lib.hid (HB.out.trans (hF4.toBelow HB.out.size HF.out))
      have HV4 := Lib.hid hv4
      have HH4 := Lib.hid hh4
      have HGE := Lib.hid hge4
      have hdn2 : dn ≤ 9000 := by omega
      have HRD := Lib.hid (rbdrain_any HD4.out hLb HB4.out.size)
      clear hv4 hh4 hge4 hF4 HDN hdn
      go_wp2_with fail
      refine HRD.out.mono ?_
      rintro e w5 ⟨ra, rn, rc, R, rfl, hv5, hs5, hx5, hd5, hF5⟩
      have hRD := HO.out.drained hs5 hx5
      rw [hRD] at hv5
      have hrn : rn = dn := by rw [← hv5.len, ← HV4.out.len]
      subst hrn
      have HV4' := Lib.hid (vec_frm HV4.out hF5 (fun b off e hp g => by have := HGE.out b off e hp; omega) (fun x hx => HV4.out.all x hx))
      have HSK := Lib.hid (samekeyed_any HV4'.out hv5 (by omega))
      have HH5 := Lib.hid (HH4.out.frm HD4.out hF5)
      have HD5 := Lib.hid hd5
      have HB5 := Lib.hid (HB4.out.trans (hF5.toBelow HB4.out.size (fun i e => by rw [e]; exact hDw)))
      clear hv5 hs5 hx5 hd5 hF5 hRD HRD
      go_wp2_with fail
      refine HSK.out.mono ?_
      rintro e w6 ⟨rfl, hb6⟩
      have HH6 := Lib.hid (HH5.out.below hb6)
      have HD6 := Lib.hid (HD5.out.below hb6)
      have HB6 := Lib.hid (HB5.out.trans (hb6.mono HB5.out.size))
      clear hb6 HSK
      have HLE := Lib.hid (hlen_any HH6.out (by simp))
      go_wp2_with fail
      refine HLE.out.mono ?_
      rintro e7 w7 ⟨rfl, hb7⟩
      have HB7 := Lib.hid (HB6.out.trans (hb7.mono HB6.out.size))
      go_wp2_with fail
      first | go_ret2 | go_ret
      exact ⟨rfl, HB7.out⟩
end Go.Proofs.Ytpcohkhdbjimgaa
