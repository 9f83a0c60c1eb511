/- StoreOnce, walked. Written by genstoonce.py. -/
import Derived.Deep.CutBlock
import Derived.BigRegion
import Derived.Test.YtjafagfhkpaciaaStoStep
import Derived.Test.YtjafagfhkpaciaaStoFew
import Derived.Test.YtjafagfhkpaciaaStoUpl
import Derived.Test.YtjafagfhkpaciaaParts2
namespace Go.Proofs.Ytjafagfhkpaciaa
open Go.RowKit
set_option linter.unusedVariables false

def aS : ByteArray := ⟨#[97]⟩
theorem fldR2 (a b c d e f g : Value) (w : World) : (Instr.field 35 (.agg #[a, b, c, d, e, f, g]) 2).run Try.prog w = .ok c w := by kernel_rfl
theorem fldR1 (a b c d e f g : Value) (w : World) : (Instr.field 35 (.agg #[a, b, c, d, e, f, g]) 1).run Try.prog w = .ok b w := by kernel_rfl
theorem putE_ver {σ : Sto} {vr : Int} {ky : ByteArray} {n : Nat} (h : putE σ 2 ky vr n = 0) : vr = oldVer σ ky := by
  unfold putE at h
  split at h
  · cases h
  · split at h
    · cases h
    · rename_i h2
      exact Classical.byContradiction fun g => h2 ⟨rfl, g⟩
theorem oldVer_le {σ : Sto} (h : Inv σ) (k : ByteArray) : oldVer σ k ≤ σ.ver := by
  unfold oldVer
  cases hk : objOf σ k with
  | none => exact h.ver
  | some o => exact (h.obj _ (get_mem slit_inj hk)).2.2.2.1
theorem obj_make (σ : Sto) (k d : ByteArray) : objOf (makeS σ k d) k = some ⟨d, σ.ver + 1, σ.now⟩ := get_put_same litS
theorem oldVer_make (σ : Sto) (k d : ByteArray) : oldVer (makeS σ k d) k = σ.ver + 1 := by unfold oldVer; rw [obj_make]
theorem stIn_new (w : World) : StIn w.heap.size (w.alloc (.cells #[.map none, .map none, .int .i64 0, .int .i64 0, .int .i64 0, .int .i64 0] 61)) w.heap.size (sto0 0) := ⟨Nat.le_refl _, .inr ⟨heap_new w _, rfl⟩⟩
set_option maxRecDepth 100000 in
set_option maxHeartbeats 16000000 in
theorem storeOnce_walk (a0 : Option Addr) (len0 cap0 : Nat) (z0 : List ActV) (a1 : Option Addr) (len1 cap1 : Nat) (z1 : (Nat → Option Addr) × (Nat → Nat) × (Nat → Nat) × (Nat → List Nat)) (w : World) (hv : VecAt ActS w a0 len0 cap0 z0) (hr : RowsAt2 w a1 len1 cap1 z1.1 z1.2.1 z1.2.2.1 z1.2.2.2) :
    Calls Try.prog 5 #[.slice a0 len0 cap0, .slice a1 len1 cap1] w fun e w' => e = .returned (.bool true) ∧ Below w.heap.size w w' := by
  obtain ⟨A, L, C, X⟩ := z1
  replace hr : RowsAt2 w a1 len1 cap1 A L C X := hr
  have HV := Lib.hid hv
  have HR := Lib.hid hr
  have hcm := hv.capm
  have hcp := hv.cap
  have hcm1 := hr.capm
  have hcp1 := hr.cap
  have HN := Lib.hid (new_any w)
  obtain ⟨w1, hw1⟩ : ∃ w1, w1 = w.alloc (.cells #[.map none, .map none, .int .i64 0, .int .i64 0, .int .i64 0, .int .i64 0] 61) := ⟨_, rfl⟩
  have hb1 : Below w.heap.size w w1 := by rw [hw1]; exact (Below.refl _ _).alloc (Nat.le_refl _) _
  have hs1 : StIn w.heap.size w1 w.heap.size (sto0 0) := by rw [hw1]; exact stIn_new w
  have HL := Lib.hid (lives_any w1)
  have HW1 := Lib.hid hw1
  have HB1 := Lib.hid hb1
  have HS1 := Lib.hid hs1
  clear hv hr hw1 hb1 hs1
  by_cases h20 : (20 : Int) < (len1 : Int)
  · go_enter Try.func5, Try.ntmps5
    go_wp2_with fail
    refine HN.out.mono ?_
    rintro e w1' ⟨rfl, hw1'⟩
    rw [hw1', ← HW1.out]
    clear hw1' w1'
    go_wp2_with fail
    refine HL.out.mono ?_
    rintro e w2 ⟨rfl, hb2⟩
    have HB2 := Lib.hid (HB1.out.trans (hb2.mono HB1.out.size))
    clear hb2
    go_wp2_with fail
    first | go_ret2 | go_ret
    exact ⟨rfl, HB2.out⟩
  · have h20' : (len1 : Int) ≤ 20 := by omega
    clear h20
    go_enter Try.func5, Try.ntmps5
    go_wp2_with fail
    refine HN.out.mono ?_
    rintro e w1' ⟨rfl, hw1'⟩
    rw [hw1', ← HW1.out]
    clear hw1' w1'
    go_wp2_with fail
    refine HL.out.mono ?_
    rintro e w2 ⟨rfl, hb2⟩
    have HB2 := Lib.hid (HB1.out.trans (hb2.mono HB1.out.size))
    have HS2 := Lib.hid (HS1.out.below hb2)
    clear hb2
    have HFW := Lib.hid (few_any (HV.out.kept HB2.out) (most := 40) (by decide))
    clear HS1 HB1 HW1 HL HN
    obtain ⟨s, hse⟩ : ∃ s, s = w.heap.size := ⟨_, rfl⟩
    have HSE := Lib.hid hse
    rw [← hse] at HS2
    rw [← hse]
    have HS2' : Hid (StIn w.heap.size w2 s (sto0 0)) := by rw [hse] at HS2 ⊢; exact HS2
    clear HS2 hse
    go_wp2_with fail
    refine HFW.out.mono ?_
    rintro e w3 ⟨rfl, hb3⟩
    obtain ⟨n, hn⟩ : ∃ n, n = fewN 40 z0 0 0 := ⟨_, rfl⟩
    rw [← hn]
    obtain ⟨_, hn40, hnl, hnd⟩ := fewN_le (most := 40) (l := z0) (s := 0) (i := 0) (by decide)
    rw [← hn] at hn40 hnl hnd
    rw [HV.out.len, Nat.zero_add] at hnl
    have HND := Lib.hid hnd
    have HB3 := Lib.hid (HB2.out.trans (hb3.mono HB2.out.size))
    have HS3 := Lib.hid (HS2'.out.below hb3)
    clear hb3 hn hnd HFW HS2' HB2
    go_wp2_with fail
    go_loopw [6, 32] (fun s6 s32 wr => ∃ (k : Nat) (lv : Int) (σ : Sto), k ≤ n ∧ s32 = .int .i64 k ∧ s6 = .int .i64 lv ∧ lv ≤ σ.ver ∧ σ.ver ≤ k ∧ σ.id ≤ k ∧ Hid (Inv σ) ∧ Hid (StIn w.heap.size wr s σ) ∧ Hid (Below w.heap.size w wr)) (fun _ s32 _ => n - (intOf s32).toNat)
    case atStart => exact ⟨0, 0, sto0 0, by omega, rfl, rfl, by decide, by decide, by decide, Lib.hid inv0, HS3, HB3⟩
    case round =>
      obtain ⟨k, lv, σ, hk, rfl, rfl, hlv, hvk, hik, HI, HS, HB⟩ := hrel
      rename World => wr
      clear HS3 HB3
      by_cases hkn : k < n
      · obtain ⟨b, off, rfl, hc⟩ := HV.out.row HB.out (show k < len0 by omega)
        obtain ⟨x, hx⟩ : ∃ x, x = z0.getD k ActS.z := ⟨_, rfl⟩
        have hdn : x.dn ≤ 20000 := by rw [hx]; exact HND.out k (by omega)
        have hok : ActS.ok wr x := by rw [hx]; exact (HV.out.kept HB.out).all _ (vec_mem (S := ActS) (by rw [HV.out.len]; omega))
        rw [← hx] at hc
        have c0 : wr.cell? ⟨b, off + k * 8, none⟩ = some (.int .i64 x.ki) := hc 0 _ rfl
        have c1 := hc 1 _ rfl
        have c2 := hc 2 _ rfl
        have c3 := hc 3 _ rfl
        have c4 := hc 4 _ rfl
        have c5 := hc 5 _ rfl
        have c6 := hc 6 _ rfl
        have c7 := hc 7 _ rfl
        obtain ⟨w3, hw3⟩ : ∃ w3, w3 = wr.alloc (.cells (actC x) 31) := ⟨_, rfl⟩
        have hk3 : w3.heap[wr.heap.size]? = some (.cells (actC x) 31 (0, 0)) := by rw [hw3]; exact heap_new wr _
        have hb3 : Below wr.heap.size wr w3 := by rw [hw3]; exact (Below.refl _ _).alloc (Nat.le_refl _) _
        have HB3 := Lib.hid (HB.out.trans (hb3.mono HB.out.size))
        have HS3 := Lib.hid (HS.out.below hb3)
        have HCL := Lib.hid (call_any (w := w3) (x := x) ⟨hok.1.kept hb3, hok.2⟩ hdn)
        have HK3 := Lib.hid hk3
        have HW3 := Lib.hid hw3
        have HOK := Lib.hid hok
        have zk : (k : Int) < (n : Int) := by omega
        have zk0 : (0 : Int) ≤ (k : Int) := by omega
        have wk : IntKind.i64.wrap ((k : Int) + 1) = (k : Int) + 1 := IntWalk.i64_in _ (by omega)
        clear hc hx hw3 hk3 hb3 hok
        go_upto_region 8 with fail
        have hw3 := HW3.out
        unfold actC at hw3
        rw [← hw3]
        clear hw3 c0 c1 c2 c3 c4 c5 c6 c7
        have d0 := cell_blk2 HK3.out (i := 0) (u := .int .i64 x.ki) rfl
        have d1 := cell_blk2 HK3.out (i := 1) (u := .string x.ky) rfl
        have d2 := cell_blk2 HK3.out (i := 2) (u := .slice x.da x.dn x.dc) rfl
        have d3 := cell_blk2 HK3.out (i := 3) (u := .int .i64 x.vr) rfl
        have d4 := cell_blk2 HK3.out (i := 4) (u := .int .i64 x.at') rfl
        have d5 := cell_blk2 HK3.out (i := 5) (u := .int .i64 x.nn) rfl
        have d6 := cell_blk2 HK3.out (i := 6) (u := .int .i64 x.id) rfl
        have d7 := cell_blk2 HK3.out (i := 7) (u := .int .i64 x.big) rfl
        go_wp2_with fail
        refine HCL.out.mono ?_
        rintro e w4 ⟨qa, qn, qc, qx, rfl, hqb, hb4⟩
        clear d0 d1 d2 d3 d4 d5 d6 d7
        have HB4 := Lib.hid (HB3.out.trans (hb4.mono HB3.out.size))
        have HK4 := Lib.hid ((hb4.block _ (Array.getElem?_eq_some_iff.1 HK3.out).1).trans HK3.out)
        have HST := Lib.hid (step_any (ki := x.ki) (vr := x.vr) (at_ := x.at') (nn := x.nn) (id := x.id) (ky := x.ky) (HS3.out.below hb4) HB4.out.size HI.out (by omega) (by omega) hqb (Nat.le_trans HOK.out.2.1 (by decide)) HOK.out.2.2.1)
        clear hqb hb4 HCL HB3 HS3 HK3
        go_wp2_with fail
        refine HST.out.mono ?_
        rintro e w5 ⟨er, v, bo, io, ra, rn, rc, la, ln, lc, mm, σ', rfl, hdr, hs5, hb5, hkc⟩
        unfold repV
        obtain ⟨w6, hw6⟩ : ∃ w6, w6 = w5.alloc (.cells #[.int .i64 er, .slice ra rn rc, .int .i64 v, .int .i64 bo, .int .i64 io, .slice la ln lc, .bool mm] 35) := ⟨_, rfl⟩
        have hb6 : Below w5.heap.size w5 w6 := by rw [hw6]; exact (Below.refl _ _).alloc (Nat.le_refl _) _
        have hk6 : w6.heap[w5.heap.size]? = some (.cells #[.int .i64 er, .slice ra rn rc, .int .i64 v, .int .i64 bo, .int .i64 io, .slice la ln lc, .bool mm] 35 (0, 0)) := by rw [hw6]; exact heap_new w5 _
        have hk5 := hkc.below hb6 _ _ _ _ HK4.out (by decide)
        have e0 := cell_blk2 hk6 (i := 0) (u := .int .i64 er) rfl
        have e2 := cell_blk2 hk6 (i := 2) (u := .int .i64 v) rfl
        have e8 := cell_blk2 hk5 (i := 0) (u := .int .i64 x.ki) rfl
        have hbw5 := HB4.out.trans hb5
        have HB6 := Lib.hid (hbw5.trans (hb6.mono hbw5.size))
        have HS6 := Lib.hid (hs5.below hb6)
        have HDR := Lib.hid hdr
        have HW6 := Lib.hid hw6
        clear hdr hs5 hb5 hkc hw6 hb6 hk6 hk5 hbw5 HST HB4 HK4
        go_upto_region 9 with fail
        rw [← HW6.out]
        have hver := HDR.out.ver
        have hidd := HDR.out.idd
        by_cases hmd : er = 0 ∧ (x.ki = 1 ∨ x.ki = 2 ∨ x.ki = 9)
        · obtain ⟨he, hki⟩ := hmd
          obtain ⟨hv1, hv2⟩ := HDR.out.made he hki
          have zv : ¬ v ≤ lv := by omega
          have zv2 : lv < v := by omega
          have HV1 := Lib.hid hv1
          clear hv1
          subst he
          have hcs : x.ki = 1 ∨ (¬ x.ki = 1 ∧ x.ki = 2) ∨ (¬ x.ki = 1 ∧ ¬ x.ki = 2 ∧ x.ki = 9) := by omega
          rcases hcs with g1 | ⟨g1, g2⟩ | ⟨g1, g2, g3⟩
          all_goals
            clear hki
            go_wp2_with fail
            go_roundw
            case rel => exact ⟨k + 1, v, σ', by omega, by push_cast; rfl, rfl, by have := HV1.out; omega, by omega, by omega, Lib.hid HDR.out.inv, HS6, HB6⟩
            case measure => simp only [intOf]; omega
        · have hcs : ¬ er = 0 ∨ (er = 0 ∧ ¬ x.ki = 1 ∧ ¬ x.ki = 2 ∧ ¬ x.ki = 9) := by
            by_cases he : er = 0
            · exact .inr ⟨he, fun g => hmd ⟨he, .inl g⟩, fun g => hmd ⟨he, .inr (.inl g)⟩, fun g => hmd ⟨he, .inr (.inr g)⟩⟩
            · exact .inl he
          clear hmd
          rcases hcs with g0 | ⟨g0, g1, g2, g3⟩
          · go_wp2_with fail
            go_roundw
            case rel => exact ⟨k + 1, lv, σ', by omega, by push_cast; rfl, rfl, by omega, by omega, by omega, Lib.hid HDR.out.inv, HS6, HB6⟩
            case measure => simp only [intOf]; omega
          · subst g0
            have n1 : (x.ki == 1) = false := by simpa using g1
            have n2 : (x.ki == 2) = false := by simpa using g2
            have n3 : (x.ki == 9) = false := by simpa using g3
            clear g1 g2 g3
            go_wp2_with fail
            go_roundw
            case rel => exact ⟨k + 1, lv, σ', by omega, by push_cast; rfl, rfl, by omega, by omega, by omega, Lib.hid HDR.out.inv, HS6, HB6⟩
            case measure => simp only [intOf]; omega
      · have e : n = k := by omega
        obtain ⟨v0, hv0⟩ : ∃ v0, v0 = oldVer σ aS := ⟨_, rfl⟩
        have HGT := Lib.hid (step_get (ky := aS) (a := none) (n := 0) (c := 0) (vr := 0) (at_ := 0) (nn := 0) (id := 0) HS.out HB.out.size HI.out (by omega) (by omega) (by decide))
        rw [← hv0] at HGT
        have HV0 := Lib.hid hv0
        have hf2 := fldR2
        clear hv0
        go_upto_region 14 with fail
        go_wp2_with fail
        refine HGT.out.mono ?_
        rintro e w3 ⟨hb3, hkc3, hs3, x, bo, ga, gn, gc, rfl, hx1, hx2⟩
        clear hx1 hx2 hkc3
        unfold repV
        have hf3 := hf2 (.int .i64 x) (.slice ga gn gc) (.int .i64 v0) (.int .i64 bo) (.int .i64 0) (.slice none 0 0) (.bool false)
        have HB3 := Lib.hid (HB.out.trans hb3)
        have HS3 := Lib.hid hs3
        have hver40 : σ.ver ≤ 40 := by omega
        have hid40 : σ.id ≤ 40 := by omega
        clear hf2 hb3 hs3 HGT HB HS hlv hvk hik
        go_wp2_with fail
        clear hf3
        go_loopw [11, 74] (fun s11 s74 wr => ∃ (k : Nat) (md : Int) (σ : Sto), k ≤ len1 ∧ s74 = .int .i64 k ∧ s11 = .int .i64 md ∧ ((md = 0 ∧ v0 = oldVer σ aS) ∨ (md = 1 ∧ v0 < oldVer σ aS)) ∧ σ.ver ≤ 40 + k ∧ σ.id ≤ 40 ∧ Hid (Inv σ) ∧ Hid (StIn w.heap.size wr s σ) ∧ Hid (Below w.heap.size w wr)) (fun _ s74 _ => len1 - (intOf s74).toNat)
        case atStart => exact ⟨0, 0, σ, by omega, rfl, rfl, .inl ⟨rfl, HV0.out⟩, by omega, hid40, HI, HS3, HB3⟩
        case round =>
          clear HS3 HB3 HI HV0 hver40 hid40 hk hkn e
          obtain ⟨k, md, σ, hk, rfl, rfl, hmd, hvk, hik, HI, HS, HB⟩ := hrel
          rename World => wr
          by_cases hkn : k < len1
          · obtain ⟨b1, o1, rfl, hlt, hc⟩ := HR.out.cells (by omega)
            obtain ⟨q1, q2, q3, q4, q5⟩ := hc k hkn
            have hck := (HB.out.cell (p := ⟨b1, o1 + k, none⟩) hlt).trans q1
            obtain ⟨pa, hpa⟩ : ∃ pa, pa = A k := ⟨_, rfl⟩
            obtain ⟨pl, hpl⟩ : ∃ pl, pl = L k := ⟨_, rfl⟩
            obtain ⟨pc, hpc⟩ : ∃ pc, pc = C k := ⟨_, rfl⟩
            obtain ⟨px, hpx⟩ : ∃ px, px = X k := ⟨_, rfl⟩
            rw [← hpa, ← hpl, ← hpc] at hck
            rw [← hpa, ← hpl, ← hpc, ← hpx] at q5
            rw [← hpl, ← hpc] at q2
            rw [← hpc] at q3
            rw [← hpl, ← hpx] at q4
            have zk : (k : Int) < (len1 : Int) := by omega
            have zk0 : (0 : Int) ≤ (k : Int) := by omega
            have wk : IntKind.i64.wrap ((k : Int) + 1) = (k : Int) + 1 := IntWalk.i64_in _ (by omega)
            have HQ5 := Lib.hid q5
            have HVL := Lib.hid (oldVer_le HI.out aS)
            clear hc q1 q5 hpa hpl hpc hpx hlt q4
            rcases (by omega : (1000 : Int) < (pl : Int) ∨ (pl : Int) ≤ 1000) with hg | hg
            · have HBM := Lib.hid ((HQ5.out 1000 (by omega) (by omega)))
              have zpc : (1000 : Int) ≤ (pc : Int) := by omega
              obtain ⟨d, hd⟩ : ∃ d, d = bs (px.take 1000) := ⟨_, rfl⟩
              have HD := Lib.hid hd
              have hds : d.size = 1000 := by rw [hd, bs_sizeS]; exact HBM.out.len
              have HPT := Lib.hid (step_put (ky := aS) (vr := v0) (at_ := 0) (nn := 0) (id := 0) HS.out HB.out.size HI.out (by omega) (by omega) (HBM.out.kept HB.out) (by decide))
              rw [← hd] at HPT
              clear hd HQ5
              go_upto_region 21 with fail
              go_wp2_with fail
              refine HPT.out.mono ?_
              rintro e w4 ⟨pv, pb, rfl, hb4, hkc4, hs4⟩
              clear hkc4
              unfold repV
              obtain ⟨er, her⟩ : ∃ er, er = putE σ 2 aS v0 1000 := ⟨_, rfl⟩
              rw [← her] at hs4
              rw [← her]
              have HER := Lib.hid her
              clear her
              obtain ⟨w5, hw5⟩ : ∃ w5, w5 = w4.alloc (.cells #[.int .i64 er, .slice none 0 0, .int .i64 pv, .int .i64 pb, .int .i64 0, .slice none 0 0, .bool false] 35) := ⟨_, rfl⟩
              have hb5 : Below w4.heap.size w4 w5 := by rw [hw5]; exact (Below.refl _ _).alloc (Nat.le_refl _) _
              have hk5 : w5.heap[w4.heap.size]? = some (.cells #[.int .i64 er, .slice none 0 0, .int .i64 pv, .int .i64 pb, .int .i64 0, .slice none 0 0, .bool false] 35 (0, 0)) := by rw [hw5]; exact heap_new w4 _
              have e0 := cell_blk2 hk5 (i := 0) (u := .int .i64 er) rfl
              have hbw4 := HB.out.trans hb4
              have HB5 := Lib.hid (hbw4.trans (hb5.mono hbw4.size))
              have hs5 := hs4.below hb5
              have HW5 := Lib.hid hw5
              clear hw5 hb5 hk5 hb4 hs4 hbw4 HPT hck
              go_upto_region 22 with fail
              rw [← HW5.out]
              by_cases he : er = 0
              · subst he
                rw [if_pos rfl] at hs5
                have hpe := HER.out.symm
                have hvv := putE_ver hpe
                obtain ⟨p1, p2, p3, p4⟩ := put_ok hpe
                have hAp := Apt.of (HS.out.sat HB.out.size).choose_spec.choose_spec.1
                have HI5 := Lib.hid (HI.out.make hAp p1 (d := d) (by omega) p3 (by rw [hds]; exact p4))
                have hov := oldVer_make σ aS d
                have hob := obj_make σ aS d
                have hsv : (makeS σ aS d).ver = σ.ver + 1 := rfl
                have hsi : (makeS σ aS d).id = σ.id := rfl
                obtain rfl : md = 0 := by
                  rcases hmd with ⟨g, _⟩ | ⟨_, g⟩
                  · exact g
                  · omega
                have HNX := Lib.hid (show v0 < oldVer (makeS σ aS d) aS from by rw [hov]; have := HVL.out; omega)
                have HS5 := Lib.hid hs5
                have HGT := Lib.hid (step_get (ky := aS) (a := none) (n := 0) (c := 0) (vr := 0) (at_ := 0) (nn := 0) (id := 0) (hs5.below (Below.refl _ w5).drew) (show w.heap.size ≤ w5.drew.heap.size from HB5.out.size) HI5.out (by omega) (by omega) (by decide))
                have HCV := Lib.hid (show ∀ W, Below w.heap.size w W → (convert 27 9 (.slice pa 1000 pc)).run Try.prog W = .ok (.string d) W from fun W hW => by rw [HD.out]; exact (HBM.out.kept hW).conv)
                have hcv0 := HCV.out w5.drew (HB5.out.drew)
                have HOB := Lib.hid hob
                have HSV := Lib.hid hsv
                have HSI := Lib.hid hsi
                clear hmd hov hob hpe hvv p1 p2 p3 p4 hAp hs5 hsv hsi
                go_upto_region 24 with fail
                go_region_with (go_at_call 12; refine HGT.out.mono ?_; rintro e w6 ⟨hb6, hkc6, hs6, gx, gbo, ga, gn, gc, rfl, hx1, hgo⟩; clear hx1 hkc6; obtain ⟨hbo, hgb⟩ := hgo _ HOB.out; clear hbo; have hf1 := fldR1 (.int .i64 gx) (.slice ga gn gc) (.int .i64 (oldVer (makeS σ aS d) aS)) (.int .i64 gbo) (.int .i64 0) (.slice none 0 0) (.bool false); have hcv1 := hgb.conv; rw [bs_numsOf] at hcv1; have hb6w := HB5.out.drew.trans hb6; have hcv2 := HCV.out w6 hb6w; have HS6 := Lib.hid hs6; have HB6 := Lib.hid hb6w; unfold repV; clear hgo hgb hb6 hs6 hb6w)
                all_goals
                  clear hcv0 hcv1 hcv2 hf1
                  go_wp2_with fail
                  go_roundw
                  case rel => exact ⟨k + 1, 1, makeS σ aS d, by omega, by push_cast; rfl, rfl, .inr ⟨rfl, HNX.out⟩, by rw [HSV.out]; push_cast; omega, by rw [HSI.out]; omega, HI5, HS6, HB6⟩
                  case measure => simp only [intOf]; omega
              · have hne : ¬ er = 0 := he
                rw [if_neg he] at hs5
                have HS5 := Lib.hid hs5
                clear he hs5
                go_wp2_with fail
                go_roundw
                case rel => exact ⟨k + 1, md, σ, by omega, by push_cast; rfl, rfl, hmd, by omega, hik, HI, HS5, HB5⟩
                case measure => simp only [intOf]; omega
            · have HBM := Lib.hid ((HQ5.out pl (by omega) (by omega)))
              have zpc : (pl : Int) ≤ (pc : Int) := by omega
              obtain ⟨d, hd⟩ : ∃ d, d = bs (px.take pl) := ⟨_, rfl⟩
              have HD := Lib.hid hd
              have hds : d.size = pl := by rw [hd, bs_sizeS]; exact HBM.out.len
              have HPT := Lib.hid (step_put (ky := aS) (vr := v0) (at_ := 0) (nn := 0) (id := 0) HS.out HB.out.size HI.out (by omega) (by omega) (HBM.out.kept HB.out) (by decide))
              rw [← hd] at HPT
              clear hd HQ5
              go_upto_region 21 with fail
              go_wp2_with fail
              refine HPT.out.mono ?_
              rintro e w4 ⟨pv, pb, rfl, hb4, hkc4, hs4⟩
              clear hkc4
              unfold repV
              obtain ⟨er, her⟩ : ∃ er, er = putE σ 2 aS v0 pl := ⟨_, rfl⟩
              rw [← her] at hs4
              rw [← her]
              have HER := Lib.hid her
              clear her
              obtain ⟨w5, hw5⟩ : ∃ w5, w5 = w4.alloc (.cells #[.int .i64 er, .slice none 0 0, .int .i64 pv, .int .i64 pb, .int .i64 0, .slice none 0 0, .bool false] 35) := ⟨_, rfl⟩
              have hb5 : Below w4.heap.size w4 w5 := by rw [hw5]; exact (Below.refl _ _).alloc (Nat.le_refl _) _
              have hk5 : w5.heap[w4.heap.size]? = some (.cells #[.int .i64 er, .slice none 0 0, .int .i64 pv, .int .i64 pb, .int .i64 0, .slice none 0 0, .bool false] 35 (0, 0)) := by rw [hw5]; exact heap_new w4 _
              have e0 := cell_blk2 hk5 (i := 0) (u := .int .i64 er) rfl
              have hbw4 := HB.out.trans hb4
              have HB5 := Lib.hid (hbw4.trans (hb5.mono hbw4.size))
              have hs5 := hs4.below hb5
              have HW5 := Lib.hid hw5
              clear hw5 hb5 hk5 hb4 hs4 hbw4 HPT hck
              go_upto_region 22 with fail
              rw [← HW5.out]
              by_cases he : er = 0
              · subst he
                rw [if_pos rfl] at hs5
                have hpe := HER.out.symm
                have hvv := putE_ver hpe
                obtain ⟨p1, p2, p3, p4⟩ := put_ok hpe
                have hAp := Apt.of (HS.out.sat HB.out.size).choose_spec.choose_spec.1
                have HI5 := Lib.hid (HI.out.make hAp p1 (d := d) (by omega) p3 (by rw [hds]; exact p4))
                have hov := oldVer_make σ aS d
                have hob := obj_make σ aS d
                have hsv : (makeS σ aS d).ver = σ.ver + 1 := rfl
                have hsi : (makeS σ aS d).id = σ.id := rfl
                obtain rfl : md = 0 := by
                  rcases hmd with ⟨g, _⟩ | ⟨_, g⟩
                  · exact g
                  · omega
                have HNX := Lib.hid (show v0 < oldVer (makeS σ aS d) aS from by rw [hov]; have := HVL.out; omega)
                have HS5 := Lib.hid hs5
                have HGT := Lib.hid (step_get (ky := aS) (a := none) (n := 0) (c := 0) (vr := 0) (at_ := 0) (nn := 0) (id := 0) (hs5.below (Below.refl _ w5).drew) (show w.heap.size ≤ w5.drew.heap.size from HB5.out.size) HI5.out (by omega) (by omega) (by decide))
                have HCV := Lib.hid (show ∀ W, Below w.heap.size w W → (convert 27 9 (.slice pa pl pc)).run Try.prog W = .ok (.string d) W from fun W hW => by rw [HD.out]; exact (HBM.out.kept hW).conv)
                have hcv0 := HCV.out w5.drew (HB5.out.drew)
                have HOB := Lib.hid hob
                have HSV := Lib.hid hsv
                have HSI := Lib.hid hsi
                clear hmd hov hob hpe hvv p1 p2 p3 p4 hAp hs5 hsv hsi
                go_upto_region 24 with fail
                go_region_with (go_at_call 12; refine HGT.out.mono ?_; rintro e w6 ⟨hb6, hkc6, hs6, gx, gbo, ga, gn, gc, rfl, hx1, hgo⟩; clear hx1 hkc6; obtain ⟨hbo, hgb⟩ := hgo _ HOB.out; clear hbo; have hf1 := fldR1 (.int .i64 gx) (.slice ga gn gc) (.int .i64 (oldVer (makeS σ aS d) aS)) (.int .i64 gbo) (.int .i64 0) (.slice none 0 0) (.bool false); have hcv1 := hgb.conv; rw [bs_numsOf] at hcv1; have hb6w := HB5.out.drew.trans hb6; have hcv2 := HCV.out w6 hb6w; have HS6 := Lib.hid hs6; have HB6 := Lib.hid hb6w; unfold repV; clear hgo hgb hb6 hs6 hb6w)
                all_goals
                  clear hcv0 hcv1 hcv2 hf1
                  go_wp2_with fail
                  go_roundw
                  case rel => exact ⟨k + 1, 1, makeS σ aS d, by omega, by push_cast; rfl, rfl, .inr ⟨rfl, HNX.out⟩, by rw [HSV.out]; push_cast; omega, by rw [HSI.out]; omega, HI5, HS6, HB6⟩
                  case measure => simp only [intOf]; omega
              · have hne : ¬ er = 0 := he
                rw [if_neg he] at hs5
                have HS5 := Lib.hid hs5
                clear he hs5
                go_wp2_with fail
                go_roundw
                case rel => exact ⟨k + 1, md, σ, by omega, by push_cast; rfl, rfl, hmd, by omega, hik, HI, HS5, HB5⟩
                case measure => simp only [intOf]; omega
          · have e : k = len1 := by omega
            rcases hmd with ⟨rfl, _⟩ | ⟨rfl, _⟩
            all_goals
              go_wp2_with fail
              first | go_ret2 | go_ret
              exact ⟨rfl, HB.out⟩
end Go.Proofs.Ytjafagfhkpaciaa
