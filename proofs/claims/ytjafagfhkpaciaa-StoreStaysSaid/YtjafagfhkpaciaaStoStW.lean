/- StoreStays, walked. Written by genstostays.py. -/
import Derived.Test.YtjafagfhkpaciaaStoDmp
import Derived.Test.YtjafagfhkpaciaaStoOpC
import Derived.Test.YtjafagfhkpaciaaStoFew
namespace Go.Proofs.Ytjafagfhkpaciaa
open Go.RowKit
set_option linter.unusedVariables false

theorem obj_len {σ : Sto} (ha : Apt σ) {σ' : Sto} (h : σ'.objs = σ.objs ∨ (∃ k, σ'.objs = dropK slit k σ.objs) ∨ (∃ k d, σ'.objs = putK slit k ⟨d, σ.ver + 1, σ.now⟩ σ.objs ∧ σ'.ver = σ.ver + 1)) : σ'.objs.length ≤ σ.objs.length + 1 := by
  rcases h with e | ⟨k, e⟩ | ⟨k, d, e, _⟩
  · rw [e]; omega
  · rw [e]
    have := List.length_filter_le (fun p : ByteArray × ObjS => !(slit p.1).sameKey (slit k)) σ.objs
    unfold dropK
    omega
  · rw [e]
    have := put_len litS (k := k) (a := (⟨d, σ.ver + 1, σ.now⟩ : ObjS)) ha.obj
    omega
set_option maxRecDepth 100000 in
set_option maxHeartbeats 16000000 in
theorem storeStays_walk (a0 : Option Addr) (len0 cap0 : Nat) (z0 : List ActV) (y : ActV) (w : World) (hv : VecAt ActS w a0 len0 cap0 z0) (hy : ActS.ok w y) :
    Calls Try.prog 4 #[.slice a0 len0 cap0, .agg (callA y)] w fun e w' => e = .returned (.bool true) ∧ Below w.heap.size w w' := by
  have HV := Lib.hid hv
  have HY := Lib.hid hy
  have hcm := hv.capm
  have hcp := hv.cap
  have hyn := hy.1.cap
  have hym := hy.1.capm
  obtain ⟨W0, hW0⟩ : ∃ W0, W0 = w.alloc (.cells (callA y) 29) := ⟨_, rfl⟩
  have hb0 : Below w.heap.size w W0 := by rw [hW0]; exact (Below.refl _ _).alloc (Nat.le_refl _) _
  obtain ⟨bc, hbc⟩ : ∃ bc, bc = w.heap.size := ⟨_, rfl⟩
  have hk0 : W0.heap[bc]? = some (.cells (callA y) 29 (0, 0)) := by rw [hW0, hbc]; exact heap_new w _
  have HN := Lib.hid (new_any W0)
  obtain ⟨w1, hw1⟩ : ∃ w1, w1 = W0.alloc (.cells #[.map none, .map none, .int .i64 0, .int .i64 0, .int .i64 0, .int .i64 0] 61) := ⟨_, rfl⟩
  have hb1 : Below W0.heap.size W0 w1 := by rw [hw1]; exact (Below.refl _ _).alloc (Nat.le_refl _) _
  have hs1 : StIn w.heap.size w1 W0.heap.size (sto0 0) := ⟨hb0.size, .inr ⟨by rw [hw1]; exact heap_new W0 _, rfl⟩⟩
  have hk1 := (hb1.block _ (Array.getElem?_eq_some_iff.1 hk0).1).trans hk0
  have HL := Lib.hid (lives_any w1)
  have HW0 := Lib.hid hW0
  have HW1 := Lib.hid hw1
  have HBC := Lib.hid hbc
  have HB1 := Lib.hid (hb0.trans (hb1.mono hb0.size))
  have HS1 := Lib.hid hs1
  have HK1 := Lib.hid hk1
  clear hv hy hW0 hb0 hk0 hw1 hb1 hs1 hk1
  go_enter Try.func4, Try.ntmps4
  go_upto_region 1 with fail
  have hW0 := HW0.out
  rw [← hW0]
  clear hW0 HW0
  rw [← HBC.out]
  go_wp2_with fail
  refine HN.out.mono ?_
  rintro e w1' ⟨rfl, hw1'⟩
  rw [hw1', ← HW1.out]
  clear hw1' w1' hbc
  obtain ⟨s, hse⟩ : ∃ s, s = W0.heap.size := ⟨_, rfl⟩
  rw [← hse]
  have HS1' : Hid (StIn w.heap.size w1 s (sto0 0)) := by rw [hse]; exact HS1
  clear HS1 hse
  go_wp2_with fail
  refine HL.out.mono ?_
  rintro e w2 ⟨rfl, hb2⟩
  have HB2 := Lib.hid (HB1.out.trans (hb2.mono HB1.out.size))
  have HS2 := Lib.hid (HS1'.out.below hb2)
  have hk2 := (hb2.block _ (Array.getElem?_eq_some_iff.1 HK1.out).1).trans HK1.out
  have HK2 := Lib.hid hk2
  have g2 := cell_blk2 hk2 (i := 2) (u := .slice y.da y.dn y.dc) rfl
  clear hb2 hk2 HK1 HB1 HS1' HL HN HW1
  by_cases h20 : (20000 : Int) < (y.dn : Int)
  · go_wp2_with fail
    first | go_ret2 | go_ret
    exact ⟨rfl, HB2.out⟩
  · have h20' : (y.dn : Int) ≤ 20000 := by omega
    clear h20
    have HFW := Lib.hid (few_any (HV.out.kept HB2.out) (most := 40) (by decide))
    go_wp2_with fail
    refine HFW.out.mono ?_
    rintro e w3 ⟨rfl, hb3⟩
    obtain ⟨n, hn⟩ : ∃ n, n = fewN 40 z0 0 0 := ⟨_, rfl⟩
    rw [← hn]
    obtain ⟨_, hn40, hnl, hnd⟩ := fewN_le (most := 40) (l := z0) (s := 0) (i := 0) (by decide)
    rw [← hn] at hn40 hnl hnd
    rw [HV.out.len, Nat.zero_add] at hnl
    have HND := Lib.hid hnd
    have HB3 := Lib.hid (HB2.out.trans (hb3.mono HB2.out.size))
    have HS3 := Lib.hid (HS2.out.below hb3)
    have HK3 := Lib.hid ((hb3.block _ (Array.getElem?_eq_some_iff.1 HK2.out).1).trans HK2.out)
    clear hb3 hn hnd HFW HS2 HB2 HK2 g2
    go_wp2_with fail
    go_loopw [29] (fun s29 wr => ∃ (k : Nat) (σ : Sto), k ≤ n ∧ s29 = .int .i64 k ∧ σ.ver ≤ k ∧ σ.id ≤ k ∧ σ.objs.length ≤ k ∧ Hid (σ.now = 0) ∧ Hid (Inv σ) ∧ Hid (wr.heap[bc]? = some (.cells (callA y) 29 (0, 0))) ∧ Hid (StIn w.heap.size wr s σ) ∧ Hid (Below w.heap.size w wr)) (fun s29 _ => n - (intOf s29).toNat)
    case atStart => exact ⟨0, sto0 0, by omega, rfl, by decide, by decide, by decide, Lib.hid rfl, Lib.hid inv0, HK3, HS3, HB3⟩
    case round =>
      obtain ⟨k, σ, hk, rfl, hvk, hik, hok, HNW, HI, HKB, HS, HB⟩ := hrel
      rename World => wr
      clear HS3 HB3 HK3
      by_cases hkn : k < n
      · obtain ⟨b, off, rfl, hc⟩ := HV.out.row HB.out (show k < len0 by omega)
        obtain ⟨x, hx⟩ : ∃ x, x = z0.getD k ActS.z := ⟨_, rfl⟩
        have hdn : x.dn ≤ 20000 := by rw [hx]; exact HND.out k (by omega)
        have hokx : ActS.ok wr x := by rw [hx]; exact (HV.out.kept HB.out).all _ (vec_mem (S := ActS) (by rw [HV.out.len]; omega))
        rw [← hx] at hc
        have c0 : wr.cell? ⟨b, off + k * 8, none⟩ = some (.int .i64 x.ki) := hc 0 _ rfl
        have c1 := hc 1 _ rfl
        have c2 := hc 2 _ rfl
        have c3 := hc 3 _ rfl
        have c4 := hc 4 _ rfl
        have c5 := hc 5 _ rfl
        have c6 := hc 6 _ rfl
        have c7 := hc 7 _ rfl
        obtain ⟨w3, hw3⟩ : ∃ w3, w3 = wr.alloc (.cells (actC x) 31) := ⟨_, rfl⟩
        have hk3 : w3.heap[wr.heap.size]? = some (.cells (actC x) 31 (0, 0)) := by rw [hw3]; exact heap_new wr _
        have hb3 : Below wr.heap.size wr w3 := by rw [hw3]; exact (Below.refl _ _).alloc (Nat.le_refl _) _
        have HB3 := Lib.hid (HB.out.trans (hb3.mono HB.out.size))
        have HS3 := Lib.hid (HS.out.below hb3)
        have HCL := Lib.hid (call_any (w := w3) (x := x) ⟨hokx.1.kept hb3, hokx.2⟩ hdn)
        have HK3 := Lib.hid hk3
        have HW3 := Lib.hid hw3
        have HOK := Lib.hid hokx
        have HKB3 := Lib.hid ((hb3.block _ (Array.getElem?_eq_some_iff.1 HKB.out).1).trans HKB.out)
        have zk : (k : Int) < (n : Int) := by omega
        have zk0 : (0 : Int) ≤ (k : Int) := by omega
        have wk : IntKind.i64.wrap ((k : Int) + 1) = (k : Int) + 1 := IntWalk.i64_in _ (by omega)
        clear hc hx hw3 hk3 hb3 hokx
        go_upto_region 7 with fail
        have hw3 := HW3.out
        unfold actC at hw3
        rw [← hw3]
        clear hw3 c0 c1 c2 c3 c4 c5 c6 c7
        have d0 := cell_blk2 HK3.out (i := 0) (u := .int .i64 x.ki) rfl
        have d1 := cell_blk2 HK3.out (i := 1) (u := .string x.ky) rfl
        have d2 := cell_blk2 HK3.out (i := 2) (u := .slice x.da x.dn x.dc) rfl
        have d3 := cell_blk2 HK3.out (i := 3) (u := .int .i64 x.vr) rfl
        have d4 := cell_blk2 HK3.out (i := 4) (u := .int .i64 x.at') rfl
        have d5 := cell_blk2 HK3.out (i := 5) (u := .int .i64 x.nn) rfl
        have d6 := cell_blk2 HK3.out (i := 6) (u := .int .i64 x.id) rfl
        have d7 := cell_blk2 HK3.out (i := 7) (u := .int .i64 x.big) rfl
        go_wp2_with fail
        refine HCL.out.mono ?_
        rintro e w4 ⟨qa, qn, qc, qx, rfl, hqb, hb4⟩
        clear d0 d1 d2 d3 d4 d5 d6 d7
        have HB4 := Lib.hid (HB3.out.trans (hb4.mono HB3.out.size))
        have hAp := Apt.of (HS.out.sat (HB.out.size)).choose_spec.choose_spec.1
        have HAP := Lib.hid hAp
        have HST := Lib.hid (step_any (ki := x.ki) (vr := x.vr) (at_ := x.at') (nn := x.nn) (id := x.id) (ky := x.ky) (HS3.out.below hb4) HB4.out.size HI.out (by omega) (by omega) hqb (Nat.le_trans HOK.out.2.1 (by decide)) HOK.out.2.2.1)
        have hb34 := HB4.out
        clear hqb HCL HB3 HS3 HK3 hAp
        go_wp2_with fail
        refine HST.out.mono ?_
        rintro e w5 ⟨er, v, bo, io, ra, rn, rc, la, ln, lc, mm, σ', rfl, hdr, hs5, hb5, hkc⟩
        unfold repV
        have HS5 := Lib.hid hs5
        have HB5 := Lib.hid (HB4.out.trans hb5)
        have HDR := Lib.hid hdr
        have hver := hdr.ver
        have hidd := hdr.idd
        have hobn := obj_len HAP.out hdr.objs
        have HNW5 := Lib.hid (hdr.now.trans HNW.out)
        have HKB5 := Lib.hid (hkc _ _ _ _ ((hb4.block _ (Array.getElem?_eq_some_iff.1 HKB3.out).1).trans HKB3.out) (by decide))
        clear hs5 hb5 hkc hdr HST HB4 hb4 hb34
        go_wp2_with fail
        go_roundw
        case rel => exact ⟨k + 1, σ', by omega, by push_cast; rfl, by omega, by omega, by omega, HNW5, Lib.hid HDR.out.inv, HKB5, HS5, HB5⟩
        case measure => simp only [intOf]; omega
      · have e : k = n := by omega
        have HDM := Lib.hid (dump_any HS.out HB.out.size HI.out (by omega) (by omega) (by rw [HNW.out]; decide))
        go_wp2_with fail
        refine HDM.out.mono ?_
        rintro e w4 ⟨rfl, hb4, hkc4, hs4⟩
        obtain ⟨D, hD⟩ : ∃ D, D = dumpT σ := ⟨_, rfl⟩
        rw [← hD]
        have HD := Lib.hid hD
        have HB4 := Lib.hid (HB.out.trans hb4)
        have HS4 := Lib.hid hs4
        have hk4 := hkc4 _ _ _ _ HKB.out (by decide)
        have HK4 := Lib.hid hk4
        have g0 := cell_blk2 hk4 (i := 0) (u := .int .i64 y.ki) rfl
        have g1 := cell_blk2 hk4 (i := 1) (u := .string y.ky) rfl
        have g2 := cell_blk2 hk4 (i := 2) (u := .slice y.da y.dn y.dc) rfl
        have g3 := cell_blk2 hk4 (i := 3) (u := .int .i64 y.vr) rfl
        have g4 := cell_blk2 hk4 (i := 4) (u := .int .i64 y.at') rfl
        have g5 := cell_blk2 hk4 (i := 5) (u := .int .i64 y.nn) rfl
        have g6 := cell_blk2 hk4 (i := 6) (u := .int .i64 y.id) rfl
        have HST := Lib.hid (step_any (ki := y.ki) (vr := y.vr) (at_ := y.at') (nn := y.nn) (id := y.id) (ky := y.ky) HS4.out HB4.out.size HI.out (by omega) (by omega) ((HY.out.1.bytes (by omega)).kept HB4.out) (Nat.le_trans HY.out.2.1 (by decide)) HY.out.2.2.1)
        have hver40 : σ.ver ≤ 40 := by omega
        have hid40 : σ.id ≤ 40 := by omega
        clear hD hb4 hkc4 hs4 hk4 HDM HS HB HKB hvk hik hok e hk hkn
        go_wp2_with fail
        refine HST.out.mono ?_
        rintro e w5 ⟨er, v, bo, io, ra, rn, rc, la, ln, lc, mm, σ', rfl, hdr, hs5, hb5, hkc⟩
        unfold repV
        clear g0 g1 g2 g3 g4 g5 g6
        obtain ⟨bR, hbR⟩ : ∃ bR, bR = w5.heap.size := ⟨_, rfl⟩
        obtain ⟨w6, hw6⟩ : ∃ w6, w6 = w5.alloc (.cells #[.int .i64 er, .slice ra rn rc, .int .i64 v, .int .i64 bo, .int .i64 io, .slice la ln lc, .bool mm] 35) := ⟨_, rfl⟩
        have hb6 : Below w5.heap.size w5 w6 := by rw [hw6]; exact (Below.refl _ _).alloc (Nat.le_refl _) _
        have hk6 : w6.heap[bR]? = some (.cells #[.int .i64 er, .slice ra rn rc, .int .i64 v, .int .i64 bo, .int .i64 io, .slice la ln lc, .bool mm] 35 (0, 0)) := by rw [hw6, hbR]; exact heap_new w5 _
        have hk5 := hkc.below hb6 _ _ _ _ HK4.out (by decide)
        have e0 := cell_blk2 hk6 (i := 0) (u := .int .i64 er) rfl
        have g0 := cell_blk2 hk5 (i := 0) (u := .int .i64 y.ki) rfl
        have hbw5 := HB4.out.trans hb5
        have HB6 := Lib.hid (hbw5.trans (hb6.mono hbw5.size))
        have HS6 := Lib.hid (hs5.below hb6)
        have HDR := Lib.hid hdr
        have HW6 := Lib.hid hw6
        have HBR := Lib.hid hbR
        clear hdr hs5 hb5 hkc hw6 hb6 hk6 hk5 hbw5 HST HB4 HK4 HS4 hbR
        go_upto_region 11 with fail
        rw [← HW6.out, ← HBR.out]
        by_cases hmd : er = 0 ∧ ¬ (y.ki = 3 ∨ y.ki = 4 ∨ y.ki = 5 ∨ y.ki = 11)
        · obtain ⟨he, hki⟩ := hmd
          have n3 : (y.ki == 3) = false := by rw [beq_eq_false_iff_ne]; omega
          have n4 : (y.ki == 4) = false := by rw [beq_eq_false_iff_ne]; omega
          have n5 : (y.ki == 5) = false := by rw [beq_eq_false_iff_ne]; omega
          have n11 : (y.ki == 11) = false := by rw [beq_eq_false_iff_ne]; omega
          subst he
          clear hki
          go_wp2_with fail
          first | go_ret2 | go_ret
          exact ⟨rfl, HB6.out⟩
        · have hsame : σ' = σ := by
            by_cases he : er = 0
            · exact HDR.out.look (Classical.byContradiction fun g => hmd ⟨he, g⟩)
            · exact HDR.out.err he
          rw [hsame] at HS6
          have HD2 := Lib.hid (dump_any HS6.out HB6.out.size HI.out (by omega) (by omega) (by rw [HNW.out]; decide))
          rw [← HD.out] at HD2
          have hcs : (y.ki = 3) ∨ (y.ki = 4) ∨ (y.ki = 5) ∨ (y.ki = 11) ∨ (er ≠ 0 ∧ ¬ (y.ki = 3 ∨ y.ki = 4 ∨ y.ki = 5 ∨ y.ki = 11)) := by
            by_cases he : er = 0
            · have := Classical.byContradiction fun g => hmd ⟨he, g⟩
              omega
            · by_cases hh : y.ki = 3 ∨ y.ki = 4 ∨ y.ki = 5 ∨ y.ki = 11
              · omega
              · exact .inr (.inr (.inr (.inr ⟨he, hh⟩)))
          clear hmd hsame HDR
          have hee : (er = 0 ∨ (er == 0) = false) := by
            by_cases he : er = 0
            · exact .inl he
            · exact .inr (by rw [beq_eq_false_iff_ne]; exact he)
          rcases hcs with g | g | g | g | ⟨ge, g⟩
          · have m : (y.ki == 3) = true := by rw [beq_iff_eq]; exact g
            clear g
            rcases hee with ge | ge
            all_goals
              go_wp2_with fail
              refine HD2.out.mono ?_
              rintro e w7 ⟨rfl, hb7, _, _⟩
              have HB7 := Lib.hid (HB6.out.trans hb7)
              clear hb7
              go_wp2_with fail
              first | go_ret2 | go_ret
              exact ⟨rfl, HB7.out⟩
          · have m : (y.ki == 4) = true := by rw [beq_iff_eq]; exact g
            have n3 : (y.ki == 3) = false := by rw [beq_eq_false_iff_ne]; omega
            clear g
            rcases hee with ge | ge
            all_goals
              go_wp2_with fail
              refine HD2.out.mono ?_
              rintro e w7 ⟨rfl, hb7, _, _⟩
              have HB7 := Lib.hid (HB6.out.trans hb7)
              clear hb7
              go_wp2_with fail
              first | go_ret2 | go_ret
              exact ⟨rfl, HB7.out⟩
          · have m : (y.ki == 5) = true := by rw [beq_iff_eq]; exact g
            have n3 : (y.ki == 3) = false := by rw [beq_eq_false_iff_ne]; omega
            have n4 : (y.ki == 4) = false := by rw [beq_eq_false_iff_ne]; omega
            clear g
            rcases hee with ge | ge
            all_goals
              go_wp2_with fail
              refine HD2.out.mono ?_
              rintro e w7 ⟨rfl, hb7, _, _⟩
              have HB7 := Lib.hid (HB6.out.trans hb7)
              clear hb7
              go_wp2_with fail
              first | go_ret2 | go_ret
              exact ⟨rfl, HB7.out⟩
          · have m : (y.ki == 11) = true := by rw [beq_iff_eq]; exact g
            have n3 : (y.ki == 3) = false := by rw [beq_eq_false_iff_ne]; omega
            have n4 : (y.ki == 4) = false := by rw [beq_eq_false_iff_ne]; omega
            have n5 : (y.ki == 5) = false := by rw [beq_eq_false_iff_ne]; omega
            clear g
            rcases hee with ge | ge
            all_goals
              go_wp2_with fail
              refine HD2.out.mono ?_
              rintro e w7 ⟨rfl, hb7, _, _⟩
              have HB7 := Lib.hid (HB6.out.trans hb7)
              clear hb7
              go_wp2_with fail
              first | go_ret2 | go_ret
              exact ⟨rfl, HB7.out⟩
          · have n3 : (y.ki == 3) = false := by rw [beq_eq_false_iff_ne]; omega
            have n4 : (y.ki == 4) = false := by rw [beq_eq_false_iff_ne]; omega
            have n5 : (y.ki == 5) = false := by rw [beq_eq_false_iff_ne]; omega
            have n11 : (y.ki == 11) = false := by rw [beq_eq_false_iff_ne]; omega
            have ne : (er == 0) = false := by rw [beq_eq_false_iff_ne]; exact ge
            clear g hee
            go_wp2_with fail
            refine HD2.out.mono ?_
            rintro e w7 ⟨rfl, hb7, _, _⟩
            have HB7 := Lib.hid (HB6.out.trans hb7)
            clear hb7
            go_wp2_with fail
            first | go_ret2 | go_ret
            exact ⟨rfl, HB7.out⟩
end Go.Proofs.Ytjafagfhkpaciaa
