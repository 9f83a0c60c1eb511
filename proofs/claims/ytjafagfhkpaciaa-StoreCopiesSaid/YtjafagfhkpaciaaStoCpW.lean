/- StoreCopies, walked. Written by genstocopies.py. -/
import Derived.Test.YtjafagfhkpaciaaStoCps
import Derived.Test.YtjafagfhkpaciaaStoFew
namespace Go.Proofs.Ytjafagfhkpaciaa
open Go.RowKit
set_option linter.unusedVariables false

set_option maxRecDepth 100000 in
set_option maxHeartbeats 16000000 in
theorem storeCopies_walk (a0 : Option Addr) (len0 cap0 : Nat) (z0 : List ActV) (a1 : Option Addr) (len1 cap1 : Nat) (z1 : List ActV) (w : World) (hv : VecAt ActS w a0 len0 cap0 z0) (hu : VecAt ActS w a1 len1 cap1 z1) :
    Calls Try.prog 3 #[.slice a0 len0 cap0, .slice a1 len1 cap1] w fun e w' => e = .returned (.bool true) ∧ Below w.heap.size w w' := by
  have HV := Lib.hid hv
  have HU := Lib.hid hu
  have hcm := hv.capm
  have hcp := hv.cap
  have hcm1 := hu.capm
  have hcp1 := hu.cap
  have HN := Lib.hid (new_any w)
  obtain ⟨w1, hw1⟩ : ∃ w1, w1 = w.alloc (.cells #[.map none, .map none, .int .i64 0, .int .i64 0, .int .i64 0, .int .i64 0] 61) := ⟨_, rfl⟩
  have hb1 : Below w.heap.size w w1 := by rw [hw1]; exact (Below.refl _ _).alloc (Nat.le_refl _) _
  have hs1 : StN w.heap.size w1 w.heap.size (sto0 0) := by rw [hw1]; exact ⟨Nat.le_refl _, .inr ⟨heap_new w _, rfl⟩⟩
  have HL := Lib.hid (lives_any w1)
  have HW1 := Lib.hid hw1
  have HB1 := Lib.hid hb1
  have HS1 := Lib.hid hs1
  clear hv hu hw1 hb1 hs1
  go_enter Try.func3, Try.ntmps3
  go_wp2_with fail
  refine HN.out.mono ?_
  rintro e w1' ⟨rfl, hw1'⟩
  rw [hw1', ← HW1.out]
  clear hw1' w1'
  obtain ⟨s, hse⟩ : ∃ s, s = w.heap.size := ⟨_, rfl⟩
  rw [← hse]
  have HS1' : Hid (StN w.heap.size w1 s (sto0 0)) := by rw [hse]; exact HS1
  clear HS1 hse
  go_wp2_with fail
  refine HL.out.mono ?_
  rintro e w2 ⟨rfl, hb2⟩
  have HB2 := Lib.hid (HB1.out.trans (hb2.mono HB1.out.size))
  have HS2 := Lib.hid (HS1'.out.below hb2)
  clear hb2 HB1 HS1' HL HN HW1
  have HFW := Lib.hid (few_any (HV.out.kept HB2.out) (most := 30) (by decide))
  go_wp2_with fail
  refine HFW.out.mono ?_
  rintro e w3 ⟨rfl, hb3⟩
  obtain ⟨n, hn⟩ : ∃ n, n = fewN 30 z0 0 0 := ⟨_, rfl⟩
  rw [← hn]
  obtain ⟨_, hn30, hnl, hnd⟩ := fewN_le (most := 30) (l := z0) (s := 0) (i := 0) (by decide)
  rw [← hn] at hn30 hnl hnd
  rw [HV.out.len, Nat.zero_add] at hnl
  have HND := Lib.hid hnd
  obtain ⟨n2, hn2⟩ : ∃ n2, n2 = fewN 30 z1 0 0 := ⟨_, rfl⟩
  obtain ⟨_, hm30, hml, hmd⟩ := fewN_le (most := 30) (l := z1) (s := 0) (i := 0) (by decide)
  rw [← hn2] at hm30 hml hmd
  rw [HU.out.len, Nat.zero_add] at hml
  have HMD := Lib.hid hmd
  have HN2 := Lib.hid hn2
  have HB3 := Lib.hid (HB2.out.trans (hb3.mono HB2.out.size))
  have HS3 := Lib.hid (HS2.out.below hb3)
  clear hb3 hn hnd HFW HS2 HB2 hn2 hmd
  go_wp2_with fail
  go_loopw [24] (fun s24 wr => ∃ (k : Nat) (σ : Sto), k ≤ n ∧ s24 = .int .i64 k ∧ σ.ver ≤ 0 + k ∧ σ.id ≤ 0 + k ∧ Hid (σ.now = 0) ∧ Hid (Inv σ) ∧ Hid (StN w.heap.size wr s σ) ∧ Hid (Below w.heap.size w wr)) (fun s24 _ => n - (intOf s24).toNat)
  case atStart => exact ⟨0, sto0 0, by omega, rfl, by decide, by decide, Lib.hid rfl, Lib.hid inv0, HS3, HB3⟩
  case round =>
    obtain ⟨k, σ, hk, rfl, hvk, hik, HNW, HI, HS, HB⟩ := hrel
    rename World => wr
    clear HS3 HB3
    by_cases hkn : k < n
    · obtain ⟨b, off, rfl, hc⟩ := HV.out.row HB.out (show k < len0 by omega)
      obtain ⟨x, hx⟩ : ∃ x, x = z0.getD k ActS.z := ⟨_, rfl⟩
      have hdn : x.dn ≤ 20000 := by rw [hx]; exact HND.out k (by omega)
      have hokx : ActS.ok wr x := by rw [hx]; exact (HV.out.kept HB.out).all _ (vec_mem (S := ActS) (by rw [HV.out.len]; omega))
      rw [← hx] at hc
      have c0 : wr.cell? ⟨b, off + k * 8, none⟩ = some (.int .i64 x.ki) := hc 0 _ rfl
      have c1 := hc 1 _ rfl
      have c2 := hc 2 _ rfl
      have c3 := hc 3 _ rfl
      have c4 := hc 4 _ rfl
      have c5 := hc 5 _ rfl
      have c6 := hc 6 _ rfl
      have c7 := hc 7 _ rfl
      obtain ⟨w3, hw3⟩ : ∃ w3, w3 = wr.alloc (.cells (actC x) 31) := ⟨_, rfl⟩
      have hk3 : w3.heap[wr.heap.size]? = some (.cells (actC x) 31 (0, 0)) := by rw [hw3]; exact heap_new wr _
      have hb3 : Below wr.heap.size wr w3 := by rw [hw3]; exact (Below.refl _ _).alloc (Nat.le_refl _) _
      have HB3 := Lib.hid (HB.out.trans (hb3.mono HB.out.size))
      have HS3 := Lib.hid (HS.out.below hb3)
      have HCL := Lib.hid (call_any (w := w3) (x := x) ⟨hokx.1.kept hb3, hokx.2⟩ hdn)
      have HK3 := Lib.hid hk3
      have HW3 := Lib.hid hw3
      have HOK := Lib.hid hokx
      have zk : (k : Int) < (n : Int) := by omega
      have zk0 : (0 : Int) ≤ (k : Int) := by omega
      have wk : IntKind.i64.wrap ((k : Int) + 1) = (k : Int) + 1 := IntWalk.i64_in _ (by omega)
      clear hc hx hw3 hk3 hb3 hokx
      go_upto_region 7 with fail
      have hw3 := HW3.out
      unfold actC at hw3
      rw [← hw3]
      clear hw3 c0 c1 c2 c3 c4 c5 c6 c7
      have d0 := cell_blk2 HK3.out (i := 0) (u := .int .i64 x.ki) rfl
      have d1 := cell_blk2 HK3.out (i := 1) (u := .string x.ky) rfl
      have d2 := cell_blk2 HK3.out (i := 2) (u := .slice x.da x.dn x.dc) rfl
      have d3 := cell_blk2 HK3.out (i := 3) (u := .int .i64 x.vr) rfl
      have d4 := cell_blk2 HK3.out (i := 4) (u := .int .i64 x.at') rfl
      have d5 := cell_blk2 HK3.out (i := 5) (u := .int .i64 x.nn) rfl
      have d6 := cell_blk2 HK3.out (i := 6) (u := .int .i64 x.id) rfl
      have d7 := cell_blk2 HK3.out (i := 7) (u := .int .i64 x.big) rfl
      go_wp2_with fail
      refine HCL.out.mono ?_
      rintro e w4 ⟨qa, qn, qc, qx, rfl, hqb, hb4⟩
      clear d0 d1 d2 d3 d4 d5 d6 d7
      have HB4 := Lib.hid (HB3.out.trans (hb4.mono HB3.out.size))
      have HST := Lib.hid (step_anyN (ki := x.ki) (vr := x.vr) (at_ := x.at') (nn := x.nn) (id := x.id) (ky := x.ky) (HS3.out.below hb4) HB4.out.size HI.out (by omega) (by omega) hqb (Nat.le_trans HOK.out.2.1 (by decide)) HOK.out.2.2.1)
      have hb34 := HB4.out
      clear hqb HCL HB3 HS3 HK3
      go_wp2_with fail
      refine HST.out.mono ?_
      rintro e w5 ⟨er, v, bo, io, ra, rn, rc, la, ln, lc, mm, σ', rfl, hdr, hs5, hb5, hkc⟩
      unfold repV
      have HS5 := Lib.hid hs5
      have HB5 := Lib.hid (HB4.out.trans hb5)
      have HDR := Lib.hid hdr
      have hver := hdr.ver
      have hidd := hdr.idd
      clear hs5 hb5 hkc hdr HST HB4 hb4 hb34
      go_wp2_with fail
      go_roundw
      case rel => exact ⟨k + 1, σ', by omega, by push_cast; rfl, by omega, by omega, Lib.hid (by have := HDR.out.now; have := HNW.out; omega), Lib.hid HDR.out.inv, HS5, HB5⟩
      case measure => simp only [intOf]; omega
    · have e : k = n := by omega
      have HCP := Lib.hid (copy_two HS.out HB.out.size HI.out (by omega))
      go_wp2_with fail
      refine HCP.out.mono ?_
      rintro e w4 ⟨c, τ, rfl, htwo, hit, hve, hie, hne, hb4⟩
      have HB4 := Lib.hid (HB.out.trans (hb4.mono HB.out.size))
      have HT4 := Lib.hid htwo
      have HIT0 := Lib.hid hit
      have hver30 : σ.ver ≤ 30 := by omega
      have hid30 : σ.id ≤ 30 := by omega
      have htv : τ.ver ≤ 30 := by omega
      have hti : τ.id ≤ 30 := by omega
      have HNT0 := Lib.hid (show τ.now ≤ 1099511627775 by rw [hne, HNW.out]; decide)
      have HIS := Lib.hid HI.out
      have HNS := Lib.hid HNW.out
      clear htwo hit hve hie hne hb4 HCP HS HB hvk hik e hk hkn HI HNW
      have HDM := Lib.hid (dump_two HT4.out HIS.out (by omega) (by omega) (by rw [HNS.out]; decide))
      obtain ⟨D, hD⟩ : ∃ D, D = dumpT σ := ⟨_, rfl⟩
      rw [← hD] at HDM
      have HD := Lib.hid hD
      clear hD
      go_wp2_with fail
      refine HDM.out.mono ?_
      rintro e w5 ⟨rfl, hb5, _, hs5⟩
      have HB5 := Lib.hid (HB4.out.trans hb5)
      have HS5 := Lib.hid hs5
      clear hb5 hs5 HDM HT4 HB4
      have HFW := Lib.hid (few_any (HU.out.kept HB5.out) (most := 30) (by decide))
      rw [← HN2.out] at HFW
      go_wp2_with fail
      refine HFW.out.mono ?_
      rintro e w7 ⟨rfl, hb7⟩

      have HB3 := Lib.hid (HB5.out.trans (hb7.mono HB5.out.size))
      have HS3 := Lib.hid (HS5.out.symm.below hb7)
      clear hb7 HFW HS5 HB5
      go_wp2_with fail
      go_loopw [40] (fun s40 wr => ∃ (k : Nat) (τ : Sto), k ≤ n2 ∧ s40 = .int .i64 k ∧ τ.ver ≤ 30 + k ∧ τ.id ≤ 30 + k ∧ Hid (τ.now ≤ 1099511627775) ∧ Hid (Inv τ) ∧ Hid (Two w.heap.size wr c τ s σ) ∧ Hid (Below w.heap.size w wr)) (fun s40 _ => n2 - (intOf s40).toNat)
      case atStart => exact ⟨0, τ, by omega, rfl, by omega, by omega, HNT0, HIT0, HS3, HB3⟩
      case round =>
        obtain ⟨k, τ, hk, rfl, hvk, hik, HNW, HI, HS, HB⟩ := hrel
        rename World => wr
        clear HS3 HB3 HNT0 HIT0
        by_cases hkn : k < n2
        · obtain ⟨b, off, rfl, hc⟩ := HU.out.row HB.out (show k < len1 by omega)
          obtain ⟨x, hx⟩ : ∃ x, x = z1.getD k ActS.z := ⟨_, rfl⟩
          have hdn : x.dn ≤ 20000 := by rw [hx]; exact HMD.out k (by omega)
          have hokx : ActS.ok wr x := by rw [hx]; exact (HU.out.kept HB.out).all _ (vec_mem (S := ActS) (by rw [HU.out.len]; omega))
          rw [← hx] at hc
          have c0 : wr.cell? ⟨b, off + k * 8, none⟩ = some (.int .i64 x.ki) := hc 0 _ rfl
          have c1 := hc 1 _ rfl
          have c2 := hc 2 _ rfl
          have c3 := hc 3 _ rfl
          have c4 := hc 4 _ rfl
          have c5 := hc 5 _ rfl
          have c6 := hc 6 _ rfl
          have c7 := hc 7 _ rfl
          obtain ⟨w3, hw3⟩ : ∃ w3, w3 = wr.alloc (.cells (actC x) 31) := ⟨_, rfl⟩
          have hk3 : w3.heap[wr.heap.size]? = some (.cells (actC x) 31 (0, 0)) := by rw [hw3]; exact heap_new wr _
          have hb3 : Below wr.heap.size wr w3 := by rw [hw3]; exact (Below.refl _ _).alloc (Nat.le_refl _) _
          have HB3 := Lib.hid (HB.out.trans (hb3.mono HB.out.size))
          have HS3 := Lib.hid (HS.out.below hb3)
          have HCL := Lib.hid (call_any (w := w3) (x := x) ⟨hokx.1.kept hb3, hokx.2⟩ hdn)
          have HK3 := Lib.hid hk3
          have HW3 := Lib.hid hw3
          have HOK := Lib.hid hokx
          have zk : (k : Int) < (n2 : Int) := by omega
          have zk0 : (0 : Int) ≤ (k : Int) := by omega
          have wk : IntKind.i64.wrap ((k : Int) + 1) = (k : Int) + 1 := IntWalk.i64_in _ (by omega)
          clear hc hx hw3 hk3 hb3 hokx
          go_upto_region 14 with fail
          have hw3 := HW3.out
          unfold actC at hw3
          rw [← hw3]
          clear hw3 c0 c1 c2 c3 c4 c5 c6 c7
          have d0 := cell_blk2 HK3.out (i := 0) (u := .int .i64 x.ki) rfl
          have d1 := cell_blk2 HK3.out (i := 1) (u := .string x.ky) rfl
          have d2 := cell_blk2 HK3.out (i := 2) (u := .slice x.da x.dn x.dc) rfl
          have d3 := cell_blk2 HK3.out (i := 3) (u := .int .i64 x.vr) rfl
          have d4 := cell_blk2 HK3.out (i := 4) (u := .int .i64 x.at') rfl
          have d5 := cell_blk2 HK3.out (i := 5) (u := .int .i64 x.nn) rfl
          have d6 := cell_blk2 HK3.out (i := 6) (u := .int .i64 x.id) rfl
          have d7 := cell_blk2 HK3.out (i := 7) (u := .int .i64 x.big) rfl
          go_wp2_with fail
          refine HCL.out.mono ?_
          rintro e w4 ⟨qa, qn, qc, qx, rfl, hqb, hb4⟩
          clear d0 d1 d2 d3 d4 d5 d6 d7
          have HB4 := Lib.hid (HB3.out.trans (hb4.mono HB3.out.size))
          have HST := Lib.hid (step_two (ki := x.ki) (vr := x.vr) (at_ := x.at') (nn := x.nn) (id := x.id) (ky := x.ky) (HS3.out.below hb4) HI.out (by omega) (by omega) hqb (Nat.le_trans HOK.out.2.1 (by decide)) HOK.out.2.2.1)
          have hb34 := HB4.out
          clear hqb HCL HB3 HS3 HK3
          go_wp2_with fail
          refine HST.out.mono ?_
          rintro e w5 ⟨er, v, bo, io, ra, rn, rc, la, ln, lc, mm, σ', rfl, hdr, hs5, hb5, hkc⟩
          unfold repV
          have HS5 := Lib.hid hs5
          have HB5 := Lib.hid (HB4.out.trans hb5)
          have HDR := Lib.hid hdr
          have hver := hdr.ver
          have hidd := hdr.idd
          clear hs5 hb5 hkc hdr HST HB4 hb4 hb34
          have HTK := Lib.hid (tick_two HS5.out ⟨HDR.out.inv.now, by have := HDR.out.now; have := HNW.out; omega⟩ 1)
          go_wp2_with fail
          refine HTK.out.mono ?_
          rintro e w6 ⟨rfl, hs6, hb6, _⟩
          obtain ⟨t1, t2, t3, t4, t5, t6⟩ := HDR.out.inv.tick 1
          have HI6 := Lib.hid t1
          have HS6 := Lib.hid hs6
          have HB6 := Lib.hid (HB5.out.trans hb6)
          have HN6 := Lib.hid (show (tickS σ' 1).now ≤ 1099511627775 by
            have h1 := HDR.out.now
            have h2 := HNW.out
            rcases t6 with g | g
            · omega
            · exact g)
          clear hs6 hb6 t1 t4 t5 t6 HTK
          go_wp2_with fail
          go_roundw
          case rel => exact ⟨k + 1, tickS σ' 1, by omega, by push_cast; rfl, by omega, by omega, HN6, HI6, HS6, HB6⟩
          case measure => simp only [intOf]; omega
        · have e : k = n2 := by omega
          have HD2 := Lib.hid (dump_two HS.out.symm HIS.out (by omega) (by omega) (by rw [HNS.out]; decide))
          rw [← HD.out] at HD2
          have hver60 : τ.ver ≤ 60 := by omega
          have hid60 : τ.id ≤ 60 := by omega
          go_wp2_with fail
          refine HD2.out.mono ?_
          rintro e w8 ⟨rfl, hb8, _, hs8⟩
          have HB8 := Lib.hid (HB.out.trans hb8)
          have HS8 := Lib.hid hs8
          clear hb8 hs8 HD2 HS HB hvk hik e hk hkn
          have HIT := Lib.hid HI.out
          have HNT := Lib.hid HNW.out
          have HD4 := Lib.hid (dump_two HS8.out.symm HIT.out (by omega) (by omega) (by have := HNT.out; omega))
          obtain ⟨E, hE⟩ : ∃ E, E = dumpT τ := ⟨_, rfl⟩
          rw [← hE] at HD4
          have HE := Lib.hid hE
          clear hE HI HNW
          go_wp2_with fail
          refine HD4.out.mono ?_
          rintro e w9 ⟨rfl, hb9, _, hs9⟩
          have HB9 := Lib.hid (HB8.out.trans hb9)
          have HS9 := Lib.hid hs9
          clear hb9 hs9 HD4 HS8 HB8
          have HFW := Lib.hid (few_any (HU.out.kept HB9.out) (most := 30) (by decide))
          rw [← HN2.out] at HFW
          go_wp2_with fail
          refine HFW.out.mono ?_
          rintro e w7 ⟨rfl, hb7⟩

          have HB3 := Lib.hid (HB9.out.trans (hb7.mono HB9.out.size))
          have HS3 := Lib.hid (HS9.out.symm.below hb7)
          clear hb7 HFW HS9 HB9
          go_wp2_with fail
          go_loopw [60] (fun s60 wr => ∃ (k : Nat) (σ₂ : Sto), k ≤ n2 ∧ s60 = .int .i64 k ∧ σ₂.ver ≤ 30 + k ∧ σ₂.id ≤ 30 + k ∧ Hid (σ₂.now = 0) ∧ Hid (Inv σ₂) ∧ Hid (Two w.heap.size wr s σ₂ c τ) ∧ Hid (Below w.heap.size w wr)) (fun s60 _ => n2 - (intOf s60).toNat)
          case atStart => exact ⟨0, σ, by omega, rfl, by omega, by omega, HNS, HIS, HS3, HB3⟩
          case round =>
            obtain ⟨k, σ₂, hk, rfl, hvk, hik, HNW, HI, HS, HB⟩ := hrel
            rename World => wr
            clear HS3 HB3
            by_cases hkn : k < n2
            · obtain ⟨b, off, rfl, hc⟩ := HU.out.row HB.out (show k < len1 by omega)
              obtain ⟨x, hx⟩ : ∃ x, x = z1.getD k ActS.z := ⟨_, rfl⟩
              have hdn : x.dn ≤ 20000 := by rw [hx]; exact HMD.out k (by omega)
              have hokx : ActS.ok wr x := by rw [hx]; exact (HU.out.kept HB.out).all _ (vec_mem (S := ActS) (by rw [HU.out.len]; omega))
              rw [← hx] at hc
              have c0 : wr.cell? ⟨b, off + k * 8, none⟩ = some (.int .i64 x.ki) := hc 0 _ rfl
              have c1 := hc 1 _ rfl
              have c2 := hc 2 _ rfl
              have c3 := hc 3 _ rfl
              have c4 := hc 4 _ rfl
              have c5 := hc 5 _ rfl
              have c6 := hc 6 _ rfl
              have c7 := hc 7 _ rfl
              obtain ⟨w3, hw3⟩ : ∃ w3, w3 = wr.alloc (.cells (actC x) 31) := ⟨_, rfl⟩
              have hk3 : w3.heap[wr.heap.size]? = some (.cells (actC x) 31 (0, 0)) := by rw [hw3]; exact heap_new wr _
              have hb3 : Below wr.heap.size wr w3 := by rw [hw3]; exact (Below.refl _ _).alloc (Nat.le_refl _) _
              have HB3 := Lib.hid (HB.out.trans (hb3.mono HB.out.size))
              have HS3 := Lib.hid (HS.out.below hb3)
              have HCL := Lib.hid (call_any (w := w3) (x := x) ⟨hokx.1.kept hb3, hokx.2⟩ hdn)
              have HK3 := Lib.hid hk3
              have HW3 := Lib.hid hw3
              have HOK := Lib.hid hokx
              have zk : (k : Int) < (n2 : Int) := by omega
              have zk0 : (0 : Int) ≤ (k : Int) := by omega
              have wk : IntKind.i64.wrap ((k : Int) + 1) = (k : Int) + 1 := IntWalk.i64_in _ (by omega)
              clear hc hx hw3 hk3 hb3 hokx
              go_upto_region 23 with fail
              have hw3 := HW3.out
              unfold actC at hw3
              rw [← hw3]
              clear hw3 c0 c1 c2 c3 c4 c5 c6 c7
              have d0 := cell_blk2 HK3.out (i := 0) (u := .int .i64 x.ki) rfl
              have d1 := cell_blk2 HK3.out (i := 1) (u := .string x.ky) rfl
              have d2 := cell_blk2 HK3.out (i := 2) (u := .slice x.da x.dn x.dc) rfl
              have d3 := cell_blk2 HK3.out (i := 3) (u := .int .i64 x.vr) rfl
              have d4 := cell_blk2 HK3.out (i := 4) (u := .int .i64 x.at') rfl
              have d5 := cell_blk2 HK3.out (i := 5) (u := .int .i64 x.nn) rfl
              have d6 := cell_blk2 HK3.out (i := 6) (u := .int .i64 x.id) rfl
              have d7 := cell_blk2 HK3.out (i := 7) (u := .int .i64 x.big) rfl
              go_wp2_with fail
              refine HCL.out.mono ?_
              rintro e w4 ⟨qa, qn, qc, qx, rfl, hqb, hb4⟩
              clear d0 d1 d2 d3 d4 d5 d6 d7
              have HB4 := Lib.hid (HB3.out.trans (hb4.mono HB3.out.size))
              have HST := Lib.hid (step_two (ki := x.ki) (vr := x.vr) (at_ := x.at') (nn := x.nn) (id := x.id) (ky := x.ky) (HS3.out.below hb4) HI.out (by omega) (by omega) hqb (Nat.le_trans HOK.out.2.1 (by decide)) HOK.out.2.2.1)
              have hb34 := HB4.out
              clear hqb HCL HB3 HS3 HK3
              go_wp2_with fail
              refine HST.out.mono ?_
              rintro e w5 ⟨er, v, bo, io, ra, rn, rc, la, ln, lc, mm, σ', rfl, hdr, hs5, hb5, hkc⟩
              unfold repV
              have HS5 := Lib.hid hs5
              have HB5 := Lib.hid (HB4.out.trans hb5)
              have HDR := Lib.hid hdr
              have hver := hdr.ver
              have hidd := hdr.idd
              clear hs5 hb5 hkc hdr HST HB4 hb4 hb34
              go_wp2_with fail
              go_roundw
              case rel => exact ⟨k + 1, σ', by omega, by push_cast; rfl, by omega, by omega, Lib.hid (by have := HDR.out.now; have := HNW.out; omega), Lib.hid HDR.out.inv, HS5, HB5⟩
              case measure => simp only [intOf]; omega
            · have e : k = n2 := by omega
              have HD3 := Lib.hid (dump_two HS.out.symm HIT.out (by omega) (by omega) (by have := HNT.out; omega))
              rw [← HE.out] at HD3
              go_wp2_with fail
              refine HD3.out.mono ?_
              rintro e w8 ⟨rfl, hb8, _, _⟩
              have HB8 := Lib.hid (HB.out.trans hb8)
              clear hb8 HD3
              go_wp2_with fail
              first | go_ret2 | go_ret
              exact ⟨rfl, HB8.out⟩
end Go.Proofs.Ytjafagfhkpaciaa
