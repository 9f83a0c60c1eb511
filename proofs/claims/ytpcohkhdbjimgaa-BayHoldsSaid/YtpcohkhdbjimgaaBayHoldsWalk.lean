/- The law BayHolds, walked. -/
import Derived.Test.YtpcohkhdbjimgaaByH
namespace Go.Proofs.Ytpcohkhdbjimgaa
open Go.RowKit Go.Conc
set_option linter.unusedVariables false

theorem sG_one (k : ByteArray) (z : Int) : sG [(k, z)] = z % 1024 := by simp [sG]
theorem room_dec (z : Int) : (1 ≤ z ∧ z ≤ 2048) ∨ ¬ (1 ≤ z ∧ z ≤ 2048) := by omega
set_option maxRecDepth 100000 in
set_option maxHeartbeats 8000000 in
theorem bay_holds (z : Int) (a : Option Addr) (n c : Nat) (bs : List BatV) (w : World) (hz : (Lit.int .i64 z).wf = true) (h : VecAt BatS w a n c bs) :
    Calls Try.prog 6 #[.int .i64 z, .slice a n c] w fun e w' => e = .returned (.bool true) ∧ Below w.heap.size w w' := by
  have HV := Lib.hid h
  have hcp := h.cap
  have hcm := h.capm
  have HLV := Lib.hid (fun w1 (h1 : Below w.heap.size w w1) => (lives_any w1).mono fun e w' (he : e = .returned (.bool true) ∧ Below w1.heap.size w1 w') => (⟨he.1, h1.trans (he.2.mono h1.size)⟩ : e = .returned (.bool true) ∧ Below w.heap.size w w'))
  clear h hz
  rcases room_dec z with hg | hg
  case inr =>
    have HN := Lib.hid (bay_no z hg w)
    have HB0 := Lib.hid (Below.refl w.heap.size w)
    clear hg
    go_enter Try.func6, Try.ntmps6
    go_wp2_with fail
    refine HN.out.mono ?_
    rintro e w1 ⟨rfl, rfl⟩
    go_wp2_with fail
    refine (HLV.out _ HB0.out).mono ?_
    rintro e w1 ⟨rfl, hb1⟩
    have HB1 := Lib.hid hb1
    clear hb1
    go_wp2_with fail
    refine (HLV.out _ HB1.out).mono ?_
    rintro e w2 ⟨rfl, hb2⟩
    have HB2 := Lib.hid hb2
    clear hb2
    go_wp2_with fail
    first | go_ret2 | go_ret
    exact ⟨rfl, HB2.out⟩
  case inl =>
  obtain ⟨room, rfl⟩ : ∃ room : Nat, z = (room : Int) := ⟨z.toNat, by omega⟩
  have hr1 : 1 ≤ room := by omega
  have hr2 : room ≤ 2048 := by omega
  clear hg
  have HN := Lib.hid (bay_new room hr1 hr2 w)
  by_cases g0 : 60 < n
  · have g0i : (60 : Int) < (n : Int) := by omega
    clear g0
    go_enter Try.func6, Try.ntmps6
    go_wp2_with fail
    refine HN.out.mono ?_
    rintro e w1 ⟨rfl, hy1, hb1⟩
    have HB1 := Lib.hid hb1
    clear hb1 hy1
    go_wp2_with fail
    refine (HLV.out _ HB1.out).mono ?_
    rintro e w2 ⟨rfl, hb2⟩
    have HB2 := Lib.hid hb2
    clear hb2
    go_wp2_with fail
    refine (HLV.out _ HB2.out).mono ?_
    rintro e w3 ⟨rfl, hb3⟩
    have HB3 := Lib.hid hb3
    clear hb3
    go_wp2_with fail
    first | go_ret2 | go_ret
    exact ⟨rfl, HB3.out⟩
  have g0i : (n : Int) ≤ 60 := by omega
  have gn : n ≤ 60 := by omega
  clear g0
  obtain ⟨Y, hY⟩ : ∃ Y, Y = w.heap.size + 1 := ⟨_, rfl⟩
  obtain ⟨M, hM⟩ : ∃ M, M = w.heap.size := ⟨_, rfl⟩
  rw [← hY] at HN
  rw [show BayAt = BayAt from rfl] at HN
  have HYM := Lib.hid (show Y = w.heap.size + 1 ∧ M = w.heap.size from ⟨hY, hM⟩)
  have HN2 := Lib.hid (show Calls Try.prog 18 #[.int .i64 (room : Int)] w fun e w' => e = .returned (.pointer (some ⟨Y, 0, none⟩)) ∧ BayAt w' Y M room [] ∧ Below w.heap.size w w' from by rw [hM]; exact HN.out)
  clear HN hY hM
  go_enter Try.func6, Try.ntmps6
  go_wp2_with fail
  refine HN2.out.mono ?_
  rintro e w1 ⟨rfl, hy1, hb1⟩
  have HB1 := Lib.hid hb1
  have HH1 := Lib.hid (Holds.empty hy1)
  clear hb1 hy1 HN2
  go_wp2_with fail
  refine (lives_any _).mono ?_
  rintro e w2 ⟨rfl, hb2⟩
  have HH2 := Lib.hid (HH1.out.below hb2)
  have HB2 := Lib.hid (HB1.out.trans (hb2.mono HB1.out.size))
  have HF2 := Lib.hid (show ∀ b, BayF Y M [] b → w.heap.size ≤ b from fun b hb => by
    obtain ⟨e1, e2⟩ := HYM.out
    rcases hb with e | e | ⟨p, hp, e⟩
    · omega
    · omega
    · cases hp)
  clear hb2 HH1 HB1
  go_wp2_with fail
  go_loopw [6, 7, 30] (fun s6 s7 s30 wr => ∃ (i t : Nat) (s : Int) (l : List (ByteArray × BoxV)) (L : List (ByteArray × Int)), i ≤ n ∧ t ≤ 40 * i ∧ 0 ≤ s ∧ s ≤ 1024 * t ∧ s6 = .int .i64 s ∧ s7 = .int .i64 t ∧ s30 = .int .i64 i ∧ Hid (t = L.length) ∧ Hid (s = sG L) ∧ Hid (Holds wr Y M room l L) ∧ Hid (∀ b, BayF Y M l b → w.heap.size ≤ b) ∧ Hid (Below w.heap.size w wr)) (fun _ _ s30 _ => n - (intOf s30).toNat)
  case atStart => exact ⟨0, 0, 0, [], [], by omega, by omega, by omega, by omega, rfl, rfl, rfl, Lib.hid rfl, Lib.hid rfl, HH2, HF2, HB2⟩
  case round =>
    clear HH2 HF2 HB2
    obtain ⟨i, t, s, l, L, hi, ht, hs0, hs1, rfl, rfl, rfl, HT, HS, HO, HF, HB⟩ := hrel
    rename World => wr
    by_cases hin : i < n
    · obtain ⟨b, off, rfl, _, hok, hc⟩ := (HV.out.kept HB.out).get hin
      obtain ⟨x, hx⟩ : ∃ x, x = bs.getD i BatS.z := ⟨_, rfl⟩
      rw [← hx] at hc hok
      obtain ⟨xa, xn, xc, ks, dr⟩ := x
      have hka : VecAt KdS wr xa xn xc ks := hok
      have HA0 : Hid (VecAt KdS w xa xn xc ks) := Lib.hid (by
        have hall := HV.out.all (bs.getD i BatS.z) (vec_mem (S := BatS) (l := bs) (i := i) (by rw [HV.out.len]; exact hin))
        rw [← hx] at hall
        exact hall)
      have c0 : wr.cell? ⟨b, off + i * 2, none⟩ = some (.slice xa xn xc) := hc 0 _ rfl
      have c1 : wr.cell? ⟨b, off + i * 2 + 1, none⟩ = some (.bool dr) := hc 1 _ rfl
      obtain ⟨bx, hbx⟩ : ∃ bx, bx = wr.heap.size := ⟨_, rfl⟩
      obtain ⟨W3, hW3⟩ : ∃ W3, W3 = wr.alloc (.cells #[.slice xa xn xc, .bool dr] 55) := ⟨_, rfl⟩
      have hb3 : Below wr.heap.size wr W3 := by rw [hW3]; exact (Below.refl _ _).alloc (Nat.le_refl _) _
      have hk3 : W3.heap[bx]? = some (.cells #[.slice xa xn xc, .bool dr] 55 (0, 0)) := by rw [hW3, hbx]; exact heap_new wr _
      have d0 := cell_blk2 hk3 (i := 0) (u := .slice xa xn xc) rfl
      have HK3 := Lib.hid hk3
      have HA3 := Lib.hid (hka.kept hb3)
      have HO3 := Lib.hid (HO.out.below hb3)
      have HB3 := Lib.hid (HB.out.trans (hb3.mono HB.out.size))
      have hxc := hka.cap
      have hxm := hka.capm
      have HW3 := Lib.hid hW3
      have HBX := Lib.hid hbx
      have hbw := HB.out.size
      have zi : (i : Int) < (n : Int) := by omega
      have zi0 : (0 : Int) ≤ (i : Int) := by omega
      have wi : IntKind.i64.wrap ((i : Int) + 1) = (i : Int) + 1 := IntWalk.i64_in _ (by omega)
      clear hc hx hok hka hbx hW3 hb3 hk3 HO HB
      by_cases h40 : 40 < xn
      · have g1 : (40 : Int) < (xn : Int) := by omega
        clear h40
        go_upto_region 8 with fail
        rw [← HW3.out, ← HBX.out]
        clear c0 c1
        go_wp2_with fail
        first | go_ret2 | go_ret
        exact ⟨rfl, HB3.out⟩
      · have g1 : (xn : Int) ≤ 40 := by omega
        have h40' : xn ≤ 40 := by omega
        have HKY := Lib.hid (keyed_any HA3.out h40')
        clear h40
        go_upto_region 8 with fail
        rw [← HW3.out, ← HBX.out]
        clear c0 c1
        go_wp2_with fail
        refine HKY.out.mono ?_
        rintro e w4 ⟨v, rfl, hrow, hb4⟩
        have hks : ∀ x ∈ ks, x.1.size ≤ 1000000000000000 := fun x hx => HA3.out.all x hx
        have HL9 := Lib.hid (show L.length ≤ 10000 from by rw [← HT.out]; omega)
        have HPU := Lib.hid (hput_any (HO3.out.below hb4) hrow HA3.out.len hks h40' hr1 hr2 HL9.out)
        have HB4 := Lib.hid (HB3.out.trans (hb4.mono HB3.out.size))
        have HA4 := Lib.hid (HA3.out.kept hb4)
        have hk4 := (hb4.block _ (Array.getElem?_eq_some_iff.1 HK3.out).1).trans HK3.out
        have HNB := Lib.hid ((HO3.out.below hb4).bay.notT hk4 (by decide))
        have HK4 := Lib.hid hk4
        clear hrow hb4 HKY hks hk4 HO3 HA3 d0
        go_wp2_with fail
        refine HPU.out.mono ?_
        rintro e w5 ⟨l', L', rfl, hL', ho5, hF5, hf5⟩
        have hbf : ∀ b, BayF Y M l' b → w.heap.size ≤ b := fun b hb => by
          rcases hf5 b hb with g | g
          · exact HF.out b g
          · exact Nat.le_trans HB4.out.size g
        have hB5 : Below w.heap.size w w5 := HB4.out.trans (hF5.toBelow HB4.out.size HF.out)
        have hk5 := hF5.at HK4.out HNB.out
        have d0 := cell_blk2 hk5 (i := 0) (u := .slice xa xn xc) rfl
        have HB5 := Lib.hid hB5
        have HBF := Lib.hid hbf
        have HA5 := Lib.hid (HA0.out.kept hB5)
        clear hF5 hf5 hbf hk5 hB5 HPU
        cases hfb : fitsB room l ks with
        | false =>
          rw [hfb, if_neg (by decide)] at hL'
          subst hL'
          have HO5 := Lib.hid ho5
          clear ho5 hfb
          go_wp2_with fail
          refine (hmost_any HO5.out hr2).mono ?_
          rintro e w6 ⟨mo, rfl, _, hmo, hb6⟩
          have HO6 := Lib.hid (HO5.out.below hb6)
          have HB6 := Lib.hid (HB5.out.trans (hb6.mono HB5.out.size))
          have hmi : (mo : Int) ≤ (room : Int) := by omega
          clear hb6 hmo
          have HLE := Lib.hid (hlen_any HO6.out (by rw [← HT.out]; omega))
          rw [← HT.out] at HLE
          go_wp2_with fail
          refine HLE.out.mono ?_
          rintro e w7 ⟨rfl, hb7⟩
          have HO7 := Lib.hid (HO6.out.below hb7)
          have HB7 := Lib.hid (HB6.out.trans (hb7.mono HB6.out.size))
          clear hb7 HLE
          go_wp2_with fail
          go_roundw
          case rel => exact ⟨i + 1, t, s, l', _, by omega, by omega, by omega, by omega, rfl, rfl, by push_cast; rfl, HT, HS, HO7, HBF, HB7⟩
          case measure => simp only [intOf]; omega
        | true =>
          rw [hfb, if_pos rfl] at hL'
          subst hL'
          have HO5 := Lib.hid ho5
          have hkl := HA5.out.len
          obtain ⟨t', ht'⟩ : ∃ t', t' = t + xn := ⟨_, rfl⟩
          have HT5 := Lib.hid (show t' = (L ++ ks).length from by rw [List.length_append, hkl, ← HT.out, ht'])
          have HTI := Lib.hid ht'
          have wt : IntKind.i64.wrap ((t : Int) + (xn : Int)) = (t' : Int) := by rw [ht']; push_cast; exact IntWalk.i64_in _ (by omega)
          clear ho5 hfb hkl
          go_wp2_with fail
          go_loopw [6, 51] (fun s6 s51 wq => ∃ (j : Nat) (s : Int), j ≤ xn ∧ s51 = .int .i64 j ∧ s6 = .int .i64 s ∧ 0 ≤ s ∧ s ≤ 1024 * (t + j) ∧ Hid (s = sG (L ++ ks.take j)) ∧ Hid (Holds wq Y M room l' (L ++ ks)) ∧ Hid (VecAt KdS wq xa xn xc ks) ∧ Hid (Below w.heap.size w wq)) (fun _ s51 _ => xn - (intOf s51).toNat)
          case atStart => exact ⟨0, s, by omega, rfl, rfl, hs0, by omega, Lib.hid (by rw [List.take_zero, List.append_nil]; exact HS.out), HO5, HA5, HB5⟩
          case round =>
            clear HO5 HA5 HB5 hs0 hs1 d0 HS
            obtain ⟨j, s, hj, rfl, rfl, hs0, hs1, HS, HO, HA, HB⟩ := hrel
            rename World => wq
            by_cases hjx : j < xn
            · obtain ⟨b9, o9, rfl, _, _, hc9⟩ := HA.out.get hjx
              obtain ⟨y, hy⟩ : ∃ y, y = ks.getD j KdS.z := ⟨_, rfl⟩
              rw [← hy] at hc9
              obtain ⟨k, q⟩ := y
              have c0 : wq.cell? ⟨b9, o9 + j * 2, none⟩ = some (.string k) := hc9 0 _ rfl
              have c1 : wq.cell? ⟨b9, o9 + j * 2 + 1, none⟩ = some (.int .i64 q) := hc9 1 _ rfl
              have HTK := Lib.hid (show ks.take (j + 1) = ks.take j ++ [(k, q)] from by
                rw [List.take_add_one, List.getElem?_eq_getElem (by rw [HA.out.len]; exact hjx), hy, List.getD_eq_getElem?_getD, List.getElem?_eq_getElem (by rw [HA.out.len]; exact hjx)]
                rfl)
              obtain ⟨by9, hby⟩ : ∃ by9, by9 = wq.heap.size := ⟨_, rfl⟩
              obtain ⟨W8, hW8⟩ : ∃ W8, W8 = wq.alloc (.cells #[.string k, .int .i64 q] 61) := ⟨_, rfl⟩
              have hb8 : Below wq.heap.size wq W8 := by rw [hW8]; exact (Below.refl _ _).alloc (Nat.le_refl _) _
              have hk8 : W8.heap[by9]? = some (.cells #[.string k, .int .i64 q] 61 (0, 0)) := by rw [hW8, hby]; exact heap_new wq _
              have d1 := cell_blk2 hk8 (i := 1) (u := .int .i64 q) rfl
              obtain ⟨r, hr⟩ : ∃ r, r = q % 1024 := ⟨_, rfl⟩
              have hr0 : 0 ≤ r ∧ r < 1024 := by rw [hr]; exact ⟨Int.emod_nonneg q (by decide), Int.emod_lt_of_pos q (by decide)⟩
              have e8 := i64_and1023 q
              rw [← hr] at e8
              have HR := Lib.hid hr
              have we : IntKind.i64.wrap (s + r) = s + r := IntWalk.i64_in _ (by omega)
              have HO8 := Lib.hid (HO.out.below hb8)
              have HA8 := Lib.hid (HA.out.kept hb8)
              have HB8 := Lib.hid (HB.out.trans (hb8.mono HB.out.size))
              have HW8 := Lib.hid hW8
              have HBY := Lib.hid hby
              have zj : (j : Int) < (xn : Int) := by omega
              have zj0 : (0 : Int) ≤ (j : Int) := by omega
              have wj : IntKind.i64.wrap ((j : Int) + 1) = (j : Int) + 1 := IntWalk.i64_in _ (by omega)
              clear hc9 hy hby hW8 hb8 hk8 hr HO HA HB
              go_upto_region 15 with fail
              rw [← HW8.out, ← HBY.out]
              clear c0 c1
              go_wp2_with fail
              go_roundw
              case rel => exact ⟨j + 1, s + r, by omega, by push_cast; rfl, rfl, by omega, by omega, Lib.hid (by rw [HTK.out, ← List.append_assoc, sG_append, sG_one, ← HS.out, HR.out]), HO8, HA8, HB8⟩
              case measure => simp only [intOf]; omega
            · obtain rfl : j = xn := by omega
              have HS9 := Lib.hid (show s = sG (L ++ ks) from by rw [HS.out, List.take_of_length_le (by rw [HA.out.len]; exact Nat.le_refl _)])
              go_wp2_with fail
              refine (hmost_any HO.out hr2).mono ?_
              rintro e w6 ⟨mo, rfl, _, hmo, hb6⟩
              have HO6 := Lib.hid (HO.out.below hb6)
              have HB6 := Lib.hid (HB.out.trans (hb6.mono HB.out.size))
              have hmi : (mo : Int) ≤ (room : Int) := by omega
              clear hb6 hmo
              have HLE := Lib.hid (hlen_any HO6.out (by rw [← HT5.out]; omega))
              rw [← HT5.out] at HLE
              go_wp2_with fail
              refine HLE.out.mono ?_
              rintro e w7 ⟨rfl, hb7⟩
              have HO7 := Lib.hid (HO6.out.below hb7)
              have HB7 := Lib.hid (HB6.out.trans (hb7.mono HB6.out.size))
              clear hb7 HLE
              go_wp2_with fail
              go_roundw
              case rel => exact ⟨i + 1, t', s, l', _, by omega, by omega, by omega, by omega, rfl, by congr 1; have := HTI.out; omega, by push_cast; rfl, HT5, HS9, HO7, HBF, HB7⟩
              case measure => simp only [intOf]; omega
    · have e : i = n := by omega
      have hL9 : L.length ≤ 10000 := by rw [← HT.out]; omega
      have HDR := Lib.hid (hdrain_any HO.out hr2 hL9)
      have HPM := Lib.hid HO.out.perm
      have HSD := Lib.hid (show s = sG (drainL l) from by rw [sG_perm HPM.out, HS.out])
      rw [← HT.out] at HDR
      clear hL9
      go_wp2_with fail
      refine HDR.out.mono ?_
      rintro e5 w5 ⟨da, dc, dn, rfl, hv5, hdn, _, _, hF5⟩
      have HV5 := Lib.hid hv5
      have HB5 := Lib.hid (HB.out.trans (hF5.toBelow HB.out.size HF.out))
      have HD5 := Lib.hid (show (drainL l).length = dn from hv5.len)
      have hdc := hv5.cap
      have hdm := hv5.capm
      subst hdn
      obtain ⟨D, hD⟩ : ∃ D, D = drainL l := ⟨_, rfl⟩
      rw [← hD] at HV5 HD5 HSD
      clear hv5 hF5 hD HDR HPM HO HF HB
      go_wp2_with fail
      go_loopw [6, 7, 75] (fun s6 s7 s75 wq => ∃ (j : Nat) (s : Int), j ≤ dn ∧ s6 = .int .i64 s ∧ s7 = .int .i64 ((dn : Int) - (j : Int)) ∧ s75 = .int .i64 j ∧ 0 ≤ s ∧ s ≤ 1024 * ((dn : Int) - (j : Int)) ∧ Hid (s = sG (D.drop j)) ∧ Hid (VecAt KdS wq da dn dc D) ∧ Hid (Below w.heap.size w wq)) (fun _ _ s75 _ => dn - (intOf s75).toNat)
      case atStart => exact ⟨0, s, by omega, rfl, by simp, rfl, hs0, by simpa using hs1, HSD, HV5, HB5⟩
      case round =>
        clear HV5 HB5 hs0 hs1 HSD HS HT
        obtain ⟨j, s, hj, rfl, rfl, rfl, hs0, hs1, HS, HA, HB⟩ := hrel
        rename World => wq
        by_cases hjx : j < dn
        · obtain ⟨b9, o9, rfl, _, _, hc9⟩ := HA.out.get hjx
          obtain ⟨y, hy⟩ : ∃ y, y = D.getD j KdS.z := ⟨_, rfl⟩
          rw [← hy] at hc9
          obtain ⟨k, q⟩ := y
          have c0 : wq.cell? ⟨b9, o9 + j * 2, none⟩ = some (.string k) := hc9 0 _ rfl
          have c1 : wq.cell? ⟨b9, o9 + j * 2 + 1, none⟩ = some (.int .i64 q) := hc9 1 _ rfl
          have hTK : D.drop j = (k, q) :: D.drop (j + 1) := by
            rw [List.drop_eq_getElem_cons (by rw [HA.out.len]; exact hjx), hy, List.getD_eq_getElem?_getD, List.getElem?_eq_getElem (by rw [HA.out.len]; exact hjx)]
            rfl
          obtain ⟨by9, hby⟩ : ∃ by9, by9 = wq.heap.size := ⟨_, rfl⟩
          obtain ⟨W8, hW8⟩ : ∃ W8, W8 = wq.alloc (.cells #[.string k, .int .i64 q] 47) := ⟨_, rfl⟩
          have hb8 : Below wq.heap.size wq W8 := by rw [hW8]; exact (Below.refl _ _).alloc (Nat.le_refl _) _
          have hk8 : W8.heap[by9]? = some (.cells #[.string k, .int .i64 q] 47 (0, 0)) := by rw [hW8, hby]; exact heap_new wq _
          have d1 := cell_blk2 hk8 (i := 1) (u := .int .i64 q) rfl
          obtain ⟨r, hr⟩ : ∃ r, r = q % 1024 := ⟨_, rfl⟩
          have hr0 : 0 ≤ r ∧ r < 1024 := by rw [hr]; exact ⟨Int.emod_nonneg q (by decide), Int.emod_lt_of_pos q (by decide)⟩
          have e8 := i64_and1023 q
          rw [← hr] at e8
          have hsr : s = r + sG (D.drop (j + 1)) := by rw [HS.out, hTK]; simp only [sG]; rw [hr]
          have hsb := sG_bound (D.drop (j + 1))
          have hdl : (D.drop (j + 1)).length = dn - (j + 1) := by rw [List.length_drop, HA.out.len]
          rw [hdl] at hsb
          have hs2 : 0 ≤ s - r := by omega
          have hs3 : s - r ≤ 1024 * ((dn : Int) - ((j + 1 : Nat) : Int)) := by push_cast at hsb ⊢; omega
          have HS8 := Lib.hid (show s - r = sG (D.drop (j + 1)) from by omega)
          have we : IntKind.i64.wrap (s - r) = s - r := IntWalk.i64_in _ (by omega)
          have wd : IntKind.i64.wrap ((dn : Int) - (j : Int) - 1) = (dn : Int) - (j : Int) - 1 := IntWalk.i64_in _ (by omega)
          have HA8 := Lib.hid (HA.out.kept hb8)
          have HB8 := Lib.hid (HB.out.trans (hb8.mono HB.out.size))
          have HW8 := Lib.hid hW8
          have HBY := Lib.hid hby
          have zj : (j : Int) < (dn : Int) := by omega
          have zj0 : (0 : Int) ≤ (j : Int) := by omega
          have wj : IntKind.i64.wrap ((j : Int) + 1) = (j : Int) + 1 := IntWalk.i64_in _ (by omega)
          clear hc9 hy hby hW8 hb8 hk8 hr HA HB hTK hsr hsb hdl HS
          go_upto_region 23 with fail
          rw [← HW8.out, ← HBY.out]
          clear c0 c1
          go_wp2_with fail
          go_roundw
          case rel => exact ⟨j + 1, s - r, by omega, rfl, by push_cast; congr 1; omega, by push_cast; rfl, hs2, hs3, HS8, HA8, HB8⟩
          case measure => simp only [intOf]; omega
        · obtain rfl : j = dn := by omega
          obtain rfl : s = 0 := by omega
          have ed : (j : Int) - (j : Int) = 0 := by omega
          go_wp2_with fail
          first | go_ret2 | go_ret
          exact ⟨by simp, HB.out⟩
end Go.Proofs.Ytpcohkhdbjimgaa
