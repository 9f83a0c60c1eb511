/- StorePages, walked. Written by genstopages.py. -/
import Derived.Test.YtjafagfhkpaciaaStoPgsP
import Derived.Test.YtjafagfhkpaciaaStoStp
import Derived.Test.YtjafagfhkpaciaaStoGrw
import Derived.Test.YtjafagfhkpaciaaStoFew
import Derived.Test.YtjafagfhkpaciaaApnd
import Derived.BigRegion
import Derived.Deep.CutBlock
import Derived.WalkSmall
namespace Go.Proofs.Ytjafagfhkpaciaa
open Go.RowKit Go.Sort
set_option linter.unusedVariables false

theorem obj_len {σ : Sto} (ha : Apt σ) {σ' : Sto} (h : σ'.objs = σ.objs ∨ (∃ k, σ'.objs = dropK slit k σ.objs) ∨ (∃ k d, σ'.objs = putK slit k ⟨d, σ.ver + 1, σ.now⟩ σ.objs ∧ σ'.ver = σ.ver + 1)) : σ'.objs.length ≤ σ.objs.length + 1 := by
  rcases h with e | ⟨k, e⟩ | ⟨k, d, e, _⟩
  · rw [e]; omega
  · rw [e]
    have := List.length_filter_le (fun p : ByteArray × ObjS => !(slit p.1).sameKey (slit k)) σ.objs
    unfold dropK
    omega
  · rw [e]
    have := put_len litS (k := k) (a := (⟨d, σ.ver + 1, σ.now⟩ : ObjS)) ha.obj
    omega
theorem StIn.riseO {base : Nat} {W : World} {s : Nat} {σ : Sto} (h : StIn base W s σ) : σ.objs.Pairwise fun p q => (slit p.1).before (slit q.1) = true := by
  obtain ⟨_, ⟨Mo, Mu, h1, _⟩ | ⟨_, h2⟩⟩ := h
  · exact h1.obj.rise
  · rw [h2]; exact List.Pairwise.nil
theorem fK_len (pre : ByteArray) (l : List (ByteArray × ObjS)) : (fK pre l).length ≤ l.length := by
  unfold fK
  rw [List.length_map]
  exact List.length_filter_le _ _
set_option maxRecDepth 100000 in
set_option maxHeartbeats 16000000 in
theorem storePages_walk (a0 : Option Addr) (len0 cap0 : Nat) (z0 : List ActV) (pre : ByteArray) (w : World) (hv : VecAt ActS w a0 len0 cap0 z0) (hpre : pre.size ≤ 140737488351232) :
    Calls Try.prog 6 #[.slice a0 len0 cap0, .string pre] w fun e w' => e = .returned (.bool true) ∧ Below w.heap.size w w' := by
  have HV := Lib.hid hv
  have hcm := hv.capm
  have hcp := hv.cap
  have HN := Lib.hid (new_any w)
  obtain ⟨w1, hw1⟩ : ∃ w1, w1 = w.alloc (.cells #[.map none, .map none, .int .i64 0, .int .i64 0, .int .i64 0, .int .i64 0] 61) := ⟨_, rfl⟩
  have hb1 : Below w.heap.size w w1 := by rw [hw1]; exact (Below.refl _ _).alloc (Nat.le_refl _) _
  have hs1 : StIn w.heap.size w1 w.heap.size (sto0 0) := by rw [hw1]; exact ⟨Nat.le_refl _, .inr ⟨heap_new w _, rfl⟩⟩
  have HL := Lib.hid (lives_any w1)
  have HW1 := Lib.hid hw1
  have HB1 := Lib.hid hb1
  have HS1 := Lib.hid hs1
  clear hv hw1 hb1 hs1
  go_enter Try.func6, Try.ntmps6
  go_wp2_with fail
  refine HN.out.mono ?_
  rintro e w1' ⟨rfl, hw1'⟩
  rw [hw1', ← HW1.out]
  clear hw1' w1'
  obtain ⟨s, hse⟩ : ∃ s, s = w.heap.size := ⟨_, rfl⟩
  rw [← hse]
  have HS1' : Hid (StIn w.heap.size w1 s (sto0 0)) := by rw [hse]; exact HS1
  clear HS1 hse
  go_wp2_with fail
  refine HL.out.mono ?_
  rintro e w2 ⟨rfl, hb2⟩
  have HB2 := Lib.hid (HB1.out.trans (hb2.mono HB1.out.size))
  have HS2 := Lib.hid (HS1'.out.below hb2)
  clear hb2 HB1 HS1' HL HN HW1
  have HFW := Lib.hid (few_any (HV.out.kept HB2.out) (most := 60) (by decide))
  go_wp2_with fail
  refine HFW.out.mono ?_
  rintro e w3 ⟨rfl, hb3⟩
  obtain ⟨n, hn⟩ : ∃ n, n = fewN 60 z0 0 0 := ⟨_, rfl⟩
  rw [← hn]
  obtain ⟨_, hn40, hnl, hnd⟩ := fewN_le (most := 60) (l := z0) (s := 0) (i := 0) (by decide)
  rw [← hn] at hn40 hnl hnd
  rw [HV.out.len, Nat.zero_add] at hnl
  have HND := Lib.hid hnd
  have HB3 := Lib.hid (HB2.out.trans (hb3.mono HB2.out.size))
  have HS3 := Lib.hid (HS2.out.below hb3)
  clear hb3 hn hnd HFW HS2 HB2
  go_wp2_with fail
  go_loopw [25] (fun s25 wr => ∃ (k : Nat) (σ : Sto), k ≤ n ∧ s25 = .int .i64 k ∧ σ.ver ≤ k ∧ σ.id ≤ k ∧ σ.objs.length ≤ k ∧ Hid (σ.now = 0) ∧ Hid (Inv σ) ∧ Hid (StIn w.heap.size wr s σ) ∧ Hid (Below w.heap.size w wr)) (fun s25 _ => n - (intOf s25).toNat)
  case atStart => exact ⟨0, sto0 0, by omega, rfl, by decide, by decide, by decide, Lib.hid rfl, Lib.hid inv0, HS3, HB3⟩
  case round =>
    obtain ⟨k, σ, hk, rfl, hvk, hik, hok, HNW, HI, HS, HB⟩ := hrel
    rename World => wr
    clear HS3 HB3
    by_cases hkn : k < n
    · obtain ⟨b, off, rfl, hc⟩ := HV.out.row HB.out (show k < len0 by omega)
      obtain ⟨x, hx⟩ : ∃ x, x = z0.getD k ActS.z := ⟨_, rfl⟩
      have hdn : x.dn ≤ 20000 := by rw [hx]; exact HND.out k (by omega)
      have hokx : ActS.ok wr x := by rw [hx]; exact (HV.out.kept HB.out).all _ (vec_mem (S := ActS) (by rw [HV.out.len]; omega))
      rw [← hx] at hc
      have c0 : wr.cell? ⟨b, off + k * 8, none⟩ = some (.int .i64 x.ki) := hc 0 _ rfl
      have c1 := hc 1 _ rfl
      have c2 := hc 2 _ rfl
      have c3 := hc 3 _ rfl
      have c4 := hc 4 _ rfl
      have c5 := hc 5 _ rfl
      have c6 := hc 6 _ rfl
      have c7 := hc 7 _ rfl
      obtain ⟨w3, hw3⟩ : ∃ w3, w3 = wr.alloc (.cells (actC x) 31) := ⟨_, rfl⟩
      have hk3 : w3.heap[wr.heap.size]? = some (.cells (actC x) 31 (0, 0)) := by rw [hw3]; exact heap_new wr _
      have hb3 : Below wr.heap.size wr w3 := by rw [hw3]; exact (Below.refl _ _).alloc (Nat.le_refl _) _
      have HB3 := Lib.hid (HB.out.trans (hb3.mono HB.out.size))
      have HS3 := Lib.hid (HS.out.below hb3)
      have HCL := Lib.hid (call_any (w := w3) (x := x) ⟨hokx.1.kept hb3, hokx.2⟩ hdn)
      have HK3 := Lib.hid hk3
      have HW3 := Lib.hid hw3
      have HOK := Lib.hid hokx
      have zk : (k : Int) < (n : Int) := by omega
      have zk0 : (0 : Int) ≤ (k : Int) := by omega
      have wk : IntKind.i64.wrap ((k : Int) + 1) = (k : Int) + 1 := IntWalk.i64_in _ (by omega)
      clear hc hx hw3 hk3 hb3 hokx
      go_upto_region 7 with fail
      have hw3 := HW3.out
      unfold actC at hw3
      rw [← hw3]
      clear hw3 c0 c1 c2 c3 c4 c5 c6 c7
      have d0 := cell_blk2 HK3.out (i := 0) (u := .int .i64 x.ki) rfl
      have d1 := cell_blk2 HK3.out (i := 1) (u := .string x.ky) rfl
      have d2 := cell_blk2 HK3.out (i := 2) (u := .slice x.da x.dn x.dc) rfl
      have d3 := cell_blk2 HK3.out (i := 3) (u := .int .i64 x.vr) rfl
      have d4 := cell_blk2 HK3.out (i := 4) (u := .int .i64 x.at') rfl
      have d5 := cell_blk2 HK3.out (i := 5) (u := .int .i64 x.nn) rfl
      have d6 := cell_blk2 HK3.out (i := 6) (u := .int .i64 x.id) rfl
      have d7 := cell_blk2 HK3.out (i := 7) (u := .int .i64 x.big) rfl
      go_wp2_with fail
      refine HCL.out.mono ?_
      rintro e w4 ⟨qa, qn, qc, qx, rfl, hqb, hb4⟩
      clear d0 d1 d2 d3 d4 d5 d6 d7
      have HB4 := Lib.hid (HB3.out.trans (hb4.mono HB3.out.size))
      have hAp := Apt.of (HS.out.sat (HB.out.size)).choose_spec.choose_spec.1
      have HAP := Lib.hid hAp
      have HST := Lib.hid (step_any (ki := x.ki) (vr := x.vr) (at_ := x.at') (nn := x.nn) (id := x.id) (ky := x.ky) (HS3.out.below hb4) HB4.out.size HI.out (by omega) (by omega) hqb (Nat.le_trans HOK.out.2.1 (by decide)) HOK.out.2.2.1)
      have hb34 := HB4.out
      clear hqb HCL HB3 HS3 HK3 hAp
      go_wp2_with fail
      refine HST.out.mono ?_
      rintro e w5 ⟨er, v, bo, io, ra, rn, rc, la, ln, lc, mm, σ', rfl, hdr, hs5, hb5, hkc⟩
      unfold repV
      have HS5 := Lib.hid hs5
      have HB5 := Lib.hid (HB4.out.trans hb5)
      have HDR := Lib.hid hdr
      have hver := hdr.ver
      have hidd := hdr.idd
      have hobn := obj_len HAP.out hdr.objs
      have HNW5 := Lib.hid (hdr.now.trans HNW.out)
      clear hs5 hb5 hkc hdr HST HB4 hb4 hb34
      go_wp2_with fail
      go_roundw
      case rel => exact ⟨k + 1, σ', by omega, by push_cast; rfl, by omega, by omega, by omega, HNW5, Lib.hid HDR.out.inv, HS5, HB5⟩
      case measure => simp only [intOf]; omega
    · have e : k = n := by omega
      go_upto_region 9 with fail
      obtain ⟨F, hF⟩ : ∃ F, F = fK pre σ.objs := ⟨_, rfl⟩
      obtain ⟨NF, hNF⟩ : ∃ NF, NF = F.length := ⟨_, rfl⟩
      have hNF60 : NF ≤ 60 := by rw [hNF, hF]; have := fK_len pre σ.objs; omega
      have HFR := Lib.hid (show F.Pairwise fun a b => a.data.toList < b.data.toList from by rw [hF]; exact fK_rise HS.out.riseO)
      have HA0 := Lib.hid (show Aft F 0 { data := #[] } from by rw [hF]; exact aft0 fun p hp => (HI.out.obj p hp).1)
      have HF := Lib.hid hF
      have HNF := Lib.hid hNF
      have hver60 : σ.ver ≤ 60 := by omega
      have hid60 : σ.id ≤ 60 := by omega
      have hob60 : σ.objs.length ≤ 60 := by omega
      have HO0 := Lib.hid (World.ownsRow_nil wr wr.heap.size 9 1)
      have HW3Z := Lib.hid HB.out.size
      obtain ⟨w3, hw3⟩ : ∃ w3 : World, w3 = wr := ⟨_, rfl⟩
      rw [← hw3] at HO0 HW3Z HS HB
      rw [← hw3]
      clear hF hNF hvk hik hok hk hkn e HNW hw3
      go_wp2_with fail
      go_loopw [8, 9, 34] (fun s8 s9 s34 wr => ∃ (r m sc : Nat) (sa : Option Addr) (aft : ByteArray), aft.size ≤ 1000000 ∧ m ≤ 16 * r ∧ 16 * r ≤ m ∧ m ≤ NF ∧ s34 = .int .i64 r ∧ s8 = .slice sa m sc ∧ s9 = .string aft ∧ Hid (Aft F m aft) ∧ Hid (wr.ownsRow w3.heap.size 9 1 (.slice sa m sc) m (KeyS.flat (F.take m))) ∧ Hid (StIn w.heap.size wr s σ) ∧ Hid (Below w.heap.size w wr) ∧ w3.heap.size ≤ wr.heap.size) (fun _ _ s34 _ => 10 - (intOf s34).toNat)
      case atStart => exact ⟨0, 0, 0, none, { data := #[] }, by decide, by omega, by omega, by omega, rfl, rfl, rfl, HA0, HO0, HS, HB, Nat.le_refl _⟩
      case round =>
        clear HA0 HO0 HS HB
        obtain ⟨r, m, sc, sa, aft, has, hm1, hm2, hmN0, rfl, rfl, rfl, HA, HO, HS, HB, hzr⟩ := hrel
        rename World => wr
        have zr : (r : Int) < 10 := by omega
        have zr0 : (0 : Int) ≤ (r : Int) := by omega
        have wrr : IntKind.i64.wrap ((r : Int) + 1) = (r : Int) + 1 := IntWalk.i64_in _ (by omega)
        obtain ⟨wc, cc, hcv, hby, hbc, _⟩ := bytes_made wr aft (by omega)
        have HGT := Lib.hid (step_list (ky := pre) (vr := 0) (at_ := 0) (nn := 0) (id := 0) (HS.out.below hbc) (Nat.le_trans HB.out.size hbc.size) HI.out hby)
        rw [bs_numsOf] at HGT
        obtain ⟨L, hL⟩ : ∃ L, L = pageL (wantK pre aft) (fun p => itemO p.1 p.2) σ.objs := ⟨_, rfl⟩
        rw [← hL] at HGT
        have hpl := page_len HF.out HFR.out (show m ≤ F.length by rw [← HNF.out]; exact hmN0) HA.out
        rw [← hL, ← HNF.out] at hpl
        have HPL := Lib.hid hpl
        have HLL := Lib.hid hpl.1
        have HOc := Lib.hid (own_below HO.out hbc)
        have HBC := Lib.hid (HB.out.trans (hbc.mono HB.out.size))
        have hzc : w3.heap.size ≤ wc.heap.size := Nat.le_trans hzr hbc.size
        clear hby hbc hL hpl HO HS HB
        go_wp2_with fail
        refine HGT.out.mono ?_
        rintro e w4 ⟨hb4, hkc4, hs4, la, ln, lc, rfl, hl16, hln, hown⟩
        clear hcv
        have HLM := Lib.hid (show ln = min 16 L.length by rw [hln, List.length_take])
        unfold repV
        obtain ⟨mo, hmo⟩ : ∃ mo, mo = decide (16 < L.length) := ⟨_, rfl⟩
        rw [← hmo]
        have HMO := Lib.hid hmo
        clear hmo
        obtain ⟨bR, hbR⟩ : ∃ bR, bR = w4.heap.size := ⟨_, rfl⟩
        obtain ⟨w5, hw5⟩ : ∃ w5, w5 = w4.alloc (.cells #[.int .i64 0, .slice none 0 0, .int .i64 0, .int .i64 0, .int .i64 0, .slice la ln lc, .bool mo] 35) := ⟨_, rfl⟩
        have hb5 : Below w4.heap.size w4 w5 := by rw [hw5]; exact (Below.refl _ _).alloc (Nat.le_refl _) _
        have hk5 : w5.heap[bR]? = some (.cells #[.int .i64 0, .slice none 0 0, .int .i64 0, .int .i64 0, .int .i64 0, .slice la ln lc, .bool mo] 35 (0, 0)) := by rw [hw5, hbR]; exact heap_new w4 _
        have hbw4 := HBC.out.trans hb4
        have HB5 := Lib.hid (hbw4.trans (hb5.mono hbw4.size))
        have HS5 := Lib.hid (hs4.below hb5)
        have HO5 := Lib.hid (own_keepC HOc.out (hkc4.below hb5) (by decide))
        obtain ⟨w0i, hw0i⟩ : ∃ w0i, w0i = wc.heap.size := ⟨_, rfl⟩
        rw [← hw0i] at hown
        have HOI5 := Lib.hid (own_below hown hb5)
        have HRB5 := Lib.hid hk5
        have HLN := Lib.hid hln
        have hz5 : w3.heap.size ≤ w5.heap.size := by
          have h1 := hb5.size
          have h2 := hb4.size
          omega
        have e0 := cell_blk2 hk5 (i := 0) (u := .int .i64 0) rfl
        have e5 := cell_blk2 hk5 (i := 5) (u := .slice la ln lc) rfl
        have e6 := cell_blk2 hk5 (i := 6) (u := .bool mo) rfl
        have HW5 := Lib.hid hw5
        have HBR := Lib.hid hbR
        have hlc := HOI5.out
        clear hw5 hb5 hk5 hb4 hkc4 hs4 hbw4 hown hln hbR HGT HOc HBC hw0i
        go_upto_region 14 with fail
        rw [← HW5.out, ← HBR.out]
        clear hlc
        have hmo := HMO.out
        clear HMO
        by_cases hmm : 16 < L.length
        · rw [decide_eq_true hmm] at hmo
          subst hmo
          have z16 : (16 : Int) ≤ (ln : Int) := by have := HLM.out; omega
          go_wp2_with fail
          go_loopw [8, 9, 64] (fun s8 s9 s64 wq => ∃ (j sc : Nat) (sa : Option Addr) (aft : ByteArray), aft.size ≤ 1000000 ∧ j ≤ ln ∧ s64 = .int .i64 j ∧ s8 = .slice sa (m + j) sc ∧ s9 = .string aft ∧ Hid (Aft F (m + j) aft) ∧ Hid (wq.ownsRow w3.heap.size 9 1 (.slice sa (m + j) sc) (m + j) (KeyS.flat (F.take (m + j)))) ∧ Hid (wq.ownsRow w0i 46 4 (.slice la ln lc) ln (ItemS.flat (L.take 16))) ∧ Hid (wq.heap[bR]? = some (.cells #[.int .i64 0, .slice none 0 0, .int .i64 0, .int .i64 0, .int .i64 0, .slice la ln lc, .bool true] 35 (0, 0))) ∧ Hid (StIn w.heap.size wq s σ) ∧ Hid (Below w.heap.size w wq) ∧ w3.heap.size ≤ wq.heap.size) (fun _ _ s64 _ => ln - (intOf s64).toNat)
          case atStart => exact ⟨0, sc, sa, aft, has, by omega, rfl, rfl, rfl, HA, HO5, HOI5, HRB5, HS5, HB5, hz5⟩
          case round =>
            clear HA HO5 HOI5 HRB5 HS5 HB5 hz5
            obtain ⟨j, sc, sa, aft, has, hj, rfl, rfl, rfl, HA, HO, HOI, HRB, HS, HB, hzq⟩ := hrel
            rename World => wq
            by_cases hjl : j < ln
            · obtain ⟨y, hy⟩ : ∃ y, L[j]? = some y := ⟨_, List.getElem?_eq_getElem (by have := HLN.out; rw [List.length_take] at this; omega)⟩
              have hyt : (L.take 16).getD j ItemS.z = y := by
                rw [List.getD_eq_getElem?_getD, List.getElem?_take_of_lt (by omega), hy]; rfl
              obtain ⟨b, off, hla, _, _, hc⟩ := (VecAt.ofOwn HOI.out HLN.out.symm (fun _ _ => trivial)).get hjl
              rw [hyt] at hc
              have hF := HPL.out.2 j y hy
              obtain ⟨k, hkk⟩ : ∃ k, k = y.key := ⟨_, rfl⟩
              rw [← hkk] at hF
              have hlt := aft_less HFR.out HA.out hF
              have hks : k.size ≤ 1000000 := by
                have h2 := List.mem_of_getElem? hF
                rw [HF.out] at h2
                unfold fK at h2
                obtain ⟨p, hp, rfl⟩ := List.mem_map.1 h2
                have h3 := (HI.out.obj p (List.mem_filter.1 hp).1).1
                unfold isKeyB at h3
                simp only [Bool.and_eq_true, decide_eq_true_eq] at h3
                omega
              have hbl : Op.bytesLess k.toList aft.toList = false := by
                rw [bytesLess_eq, tl_data, tl_data]
                exact decide_eq_false fun g => List.lt_irrefl _ (List.lt_trans g hlt)
              have heq : (k.toList == aft.toList) = false := by
                rw [beq_eq_false_iff_ne, tl_data, tl_data]
                exact fun g => List.lt_irrefl _ (by rw [g] at hlt; exact hlt)
              have HA6 := Lib.hid (aft_next hF)
              have HTK := Lib.hid (show F.take (m + j + 1) = F.take (m + j) ++ [k] from by rw [List.take_add_one, hF]; rfl)
              have c0 : wq.cell? ⟨b, off + j * 4, none⟩ = some (.string k) := hc 0 _ (by rw [hkk]; rfl)
              have c1 : wq.cell? ⟨b, off + j * 4 + 1, none⟩ = some (.int .i64 y.ver) := hc 1 _ rfl
              have c2 : wq.cell? ⟨b, off + j * 4 + 2, none⟩ = some (.int .i64 y.size) := hc 2 _ rfl
              have c3 : wq.cell? ⟨b, off + j * 4 + 3, none⟩ = some (.int .i64 y.born) := hc 3 _ rfl
              have zj : (j : Int) < (ln : Int) := by omega
              have zj0 : (0 : Int) ≤ (j : Int) := by omega
              have wj : IntKind.i64.wrap ((j : Int) + 1) = (j : Int) + 1 := IntWalk.i64_in _ (by omega)
              obtain ⟨w6, hw6⟩ : ∃ w6, w6 = wq.alloc (.cells #[.string k, .int .i64 y.ver, .int .i64 y.size, .int .i64 y.born] 46) := ⟨_, rfl⟩
              have hb6 : Below wq.heap.size wq w6 := by rw [hw6]; exact (Below.refl _ _).alloc (Nat.le_refl _) _
              have hk6 : w6.heap[wq.heap.size]? = some (.cells #[.string k, .int .i64 y.ver, .int .i64 y.size, .int .i64 y.born] 46 (0, 0)) := by rw [hw6]; exact heap_new wq _
              have d0 := cell_blk2 hk6 (i := 0) (u := .string k) rfl
              have hba : Below w6.heap.size w6 (w6.alloc (.cells #[.string k] 9)) := (Below.refl _ _).alloc (Nat.le_refl _) _
              have hb7 := hb6.trans (hba.mono hb6.size)
              have HB7 := Lib.hid (HB.out.trans (hb7.mono HB.out.size))
              have HO7 := Lib.hid (own_below HO.out hb7)
              have HOI7 := Lib.hid (own_below HOI.out hb7)
              have HS7 := Lib.hid (HS.out.below hb7)
              have HRB7 := Lib.hid ((hb7.block _ (Array.getElem?_eq_some_iff.1 HRB.out).1).trans HRB.out)
              have HSRC := Lib.hid (KeyS.src w6 k 9 (cs := #[.string k]) rfl)
              have hz6 : w3.heap.size ≤ w6.heap.size := Nat.le_trans hzq hb6.size
              have HBW := Lib.hid HB.out.size
              have HW6 := Lib.hid hw6
              have HZ := Lib.hid hzq
              clear hy hyt hc hF hkk hlt hw6 hb6 hk6 hba hb7 HO HOI HS HB HRB HA hzq
              subst hla
              go_upto_region 19 with fail
              rw [← HW6.out]
              clear c0 c1 c2 c3
              obtain ⟨i0, hi, hz0, hz1, hz2⟩ := info_parts info_str
              go_wp2_with (at_builtin; refine wpList_append_own_at _ rfl (.tmp 74) (.tmp 77) 44 rfl w3.heap.size 9 i0 _ 1 16 Try.underlying44 hi hz0 hz1 hz2 rfl (by decide) _ _ _ rfl HO7.out ⟨w6.heap.size, 0, none⟩ 1 1 [.string k] rfl rfl HSRC.out (KeyS.one k) (by unfold maxLen; omega) (by omega) (by rw [World.size_alloc]; omega) ?_)
              intro v8 w8 ho8 hg8 _ hat8
              obtain ⟨g8, c8, rfl⟩ := own_some2 ho8 (by omega)
              have HB8 := Lib.hid (HB7.out.grown hg8 HB7.out.size (fun jj hjj => Nat.le_trans HW3Z.out (HO7.out.lt jj hjj).1))
              have HS8 := Lib.hid (HS7.out.grow HO7.out (by decide) hg8)
              have HOI8 := Lib.hid (HOI7.out.kept hg8 (own_ne2 HOI7.out HO7.out (by decide)))
              have HRB8 : Hid (w8.heap[bR]? = some (.cells #[.int .i64 0, .slice none 0 0, .int .i64 0, .int .i64 0, .int .i64 0, .slice (some ⟨b, off, none⟩) ln lc, .bool true] 35 (0, 0))) := Lib.hid ((hg8.block bR (Array.getElem?_eq_some_iff.1 HRB7.out).1 (fun e => own_ne HO7.out HRB7.out (by decide) e.symm)).trans HRB7.out)
              have HO8 : Hid (w8.ownsRow w3.heap.size 9 1 (.slice (some ⟨g8, 0, none⟩) (m + j + 1) c8) (m + j + 1) (KeyS.flat (F.take (m + j + 1)))) := Lib.hid (by rw [HTK.out, Sty.flat_snoc]; exact ho8)
              have hz8 : w3.heap.size ≤ w8.heap.size := Nat.le_trans hz6 (Nat.le_trans (by rw [World.size_alloc]; omega) hg8.size)
              clear ho8 hg8 hat8 hbl heq d0 hz6
              go_wp2_with fail
              go_roundw
              case rel => exact ⟨j + 1, c8, some ⟨g8, 0, none⟩, k, hks, by omega, by push_cast; rfl, rfl, rfl, HA6, HO8, HOI8, HRB8, HS8, HB8, hz8⟩
              case measure => simp only [intOf]; omega
            · obtain rfl : j = ln := by omega
              have g6 := cell_blk2 HRB.out (i := 6) (u := .bool true) rfl
              clear hj

              have HM16 := Lib.hid (show j = 16 by have := HLM.out; omega)
              have hmNF : m + 16 ≤ NF := by have := HLL.out; omega
              clear HLM HLL
              go_wp2_with fail
              go_roundw
              case rel => exact ⟨r + 1, m + j, sc, sa, aft, has, by have := HM16.out; omega, by have := HM16.out; omega, by have := HM16.out; omega, by push_cast; rfl, rfl, rfl, HA, HO, HS, HB, hzq⟩
              case measure => simp only [intOf]; omega
        · rw [decide_eq_false hmm] at hmo
          subst hmo
          go_wp2_with fail
          go_loopw [8, 9, 64] (fun s8 s9 s64 wq => ∃ (j sc : Nat) (sa : Option Addr) (aft : ByteArray), aft.size ≤ 1000000 ∧ j ≤ ln ∧ s64 = .int .i64 j ∧ s8 = .slice sa (m + j) sc ∧ s9 = .string aft ∧ Hid (Aft F (m + j) aft) ∧ Hid (wq.ownsRow w3.heap.size 9 1 (.slice sa (m + j) sc) (m + j) (KeyS.flat (F.take (m + j)))) ∧ Hid (wq.ownsRow w0i 46 4 (.slice la ln lc) ln (ItemS.flat (L.take 16))) ∧ Hid (wq.heap[bR]? = some (.cells #[.int .i64 0, .slice none 0 0, .int .i64 0, .int .i64 0, .int .i64 0, .slice la ln lc, .bool false] 35 (0, 0))) ∧ Hid (StIn w.heap.size wq s σ) ∧ Hid (Below w.heap.size w wq) ∧ w3.heap.size ≤ wq.heap.size) (fun _ _ s64 _ => ln - (intOf s64).toNat)
          case atStart => exact ⟨0, sc, sa, aft, has, by omega, rfl, rfl, rfl, HA, HO5, HOI5, HRB5, HS5, HB5, hz5⟩
          case round =>
            clear HA HO5 HOI5 HRB5 HS5 HB5 hz5
            obtain ⟨j, sc, sa, aft, has, hj, rfl, rfl, rfl, HA, HO, HOI, HRB, HS, HB, hzq⟩ := hrel
            rename World => wq
            by_cases hjl : j < ln
            · obtain ⟨y, hy⟩ : ∃ y, L[j]? = some y := ⟨_, List.getElem?_eq_getElem (by have := HLN.out; rw [List.length_take] at this; omega)⟩
              have hyt : (L.take 16).getD j ItemS.z = y := by
                rw [List.getD_eq_getElem?_getD, List.getElem?_take_of_lt (by omega), hy]; rfl
              obtain ⟨b, off, hla, _, _, hc⟩ := (VecAt.ofOwn HOI.out HLN.out.symm (fun _ _ => trivial)).get hjl
              rw [hyt] at hc
              have hF := HPL.out.2 j y hy
              obtain ⟨k, hkk⟩ : ∃ k, k = y.key := ⟨_, rfl⟩
              rw [← hkk] at hF
              have hlt := aft_less HFR.out HA.out hF
              have hks : k.size ≤ 1000000 := by
                have h2 := List.mem_of_getElem? hF
                rw [HF.out] at h2
                unfold fK at h2
                obtain ⟨p, hp, rfl⟩ := List.mem_map.1 h2
                have h3 := (HI.out.obj p (List.mem_filter.1 hp).1).1
                unfold isKeyB at h3
                simp only [Bool.and_eq_true, decide_eq_true_eq] at h3
                omega
              have hbl : Op.bytesLess k.toList aft.toList = false := by
                rw [bytesLess_eq, tl_data, tl_data]
                exact decide_eq_false fun g => List.lt_irrefl _ (List.lt_trans g hlt)
              have heq : (k.toList == aft.toList) = false := by
                rw [beq_eq_false_iff_ne, tl_data, tl_data]
                exact fun g => List.lt_irrefl _ (by rw [g] at hlt; exact hlt)
              have HA6 := Lib.hid (aft_next hF)
              have HTK := Lib.hid (show F.take (m + j + 1) = F.take (m + j) ++ [k] from by rw [List.take_add_one, hF]; rfl)
              have c0 : wq.cell? ⟨b, off + j * 4, none⟩ = some (.string k) := hc 0 _ (by rw [hkk]; rfl)
              have c1 : wq.cell? ⟨b, off + j * 4 + 1, none⟩ = some (.int .i64 y.ver) := hc 1 _ rfl
              have c2 : wq.cell? ⟨b, off + j * 4 + 2, none⟩ = some (.int .i64 y.size) := hc 2 _ rfl
              have c3 : wq.cell? ⟨b, off + j * 4 + 3, none⟩ = some (.int .i64 y.born) := hc 3 _ rfl
              have zj : (j : Int) < (ln : Int) := by omega
              have zj0 : (0 : Int) ≤ (j : Int) := by omega
              have wj : IntKind.i64.wrap ((j : Int) + 1) = (j : Int) + 1 := IntWalk.i64_in _ (by omega)
              obtain ⟨w6, hw6⟩ : ∃ w6, w6 = wq.alloc (.cells #[.string k, .int .i64 y.ver, .int .i64 y.size, .int .i64 y.born] 46) := ⟨_, rfl⟩
              have hb6 : Below wq.heap.size wq w6 := by rw [hw6]; exact (Below.refl _ _).alloc (Nat.le_refl _) _
              have hk6 : w6.heap[wq.heap.size]? = some (.cells #[.string k, .int .i64 y.ver, .int .i64 y.size, .int .i64 y.born] 46 (0, 0)) := by rw [hw6]; exact heap_new wq _
              have d0 := cell_blk2 hk6 (i := 0) (u := .string k) rfl
              have hba : Below w6.heap.size w6 (w6.alloc (.cells #[.string k] 9)) := (Below.refl _ _).alloc (Nat.le_refl _) _
              have hb7 := hb6.trans (hba.mono hb6.size)
              have HB7 := Lib.hid (HB.out.trans (hb7.mono HB.out.size))
              have HO7 := Lib.hid (own_below HO.out hb7)
              have HOI7 := Lib.hid (own_below HOI.out hb7)
              have HS7 := Lib.hid (HS.out.below hb7)
              have HRB7 := Lib.hid ((hb7.block _ (Array.getElem?_eq_some_iff.1 HRB.out).1).trans HRB.out)
              have HSRC := Lib.hid (KeyS.src w6 k 9 (cs := #[.string k]) rfl)
              have hz6 : w3.heap.size ≤ w6.heap.size := Nat.le_trans hzq hb6.size
              have HBW := Lib.hid HB.out.size
              have HW6 := Lib.hid hw6
              have HZ := Lib.hid hzq
              clear hy hyt hc hF hkk hlt hw6 hb6 hk6 hba hb7 HO HOI HS HB HRB HA hzq
              subst hla
              go_upto_region 19 with fail
              rw [← HW6.out]
              clear c0 c1 c2 c3
              obtain ⟨i0, hi, hz0, hz1, hz2⟩ := info_parts info_str
              go_wp2_with (at_builtin; refine wpList_append_own_at _ rfl (.tmp 74) (.tmp 77) 44 rfl w3.heap.size 9 i0 _ 1 16 Try.underlying44 hi hz0 hz1 hz2 rfl (by decide) _ _ _ rfl HO7.out ⟨w6.heap.size, 0, none⟩ 1 1 [.string k] rfl rfl HSRC.out (KeyS.one k) (by unfold maxLen; omega) (by omega) (by rw [World.size_alloc]; omega) ?_)
              intro v8 w8 ho8 hg8 _ hat8
              obtain ⟨g8, c8, rfl⟩ := own_some2 ho8 (by omega)
              have HB8 := Lib.hid (HB7.out.grown hg8 HB7.out.size (fun jj hjj => Nat.le_trans HW3Z.out (HO7.out.lt jj hjj).1))
              have HS8 := Lib.hid (HS7.out.grow HO7.out (by decide) hg8)
              have HOI8 := Lib.hid (HOI7.out.kept hg8 (own_ne2 HOI7.out HO7.out (by decide)))
              have HRB8 : Hid (w8.heap[bR]? = some (.cells #[.int .i64 0, .slice none 0 0, .int .i64 0, .int .i64 0, .int .i64 0, .slice (some ⟨b, off, none⟩) ln lc, .bool false] 35 (0, 0))) := Lib.hid ((hg8.block bR (Array.getElem?_eq_some_iff.1 HRB7.out).1 (fun e => own_ne HO7.out HRB7.out (by decide) e.symm)).trans HRB7.out)
              have HO8 : Hid (w8.ownsRow w3.heap.size 9 1 (.slice (some ⟨g8, 0, none⟩) (m + j + 1) c8) (m + j + 1) (KeyS.flat (F.take (m + j + 1)))) := Lib.hid (by rw [HTK.out, Sty.flat_snoc]; exact ho8)
              have hz8 : w3.heap.size ≤ w8.heap.size := Nat.le_trans hz6 (Nat.le_trans (by rw [World.size_alloc]; omega) hg8.size)
              clear ho8 hg8 hat8 hbl heq d0 hz6
              go_wp2_with fail
              go_roundw
              case rel => exact ⟨j + 1, c8, some ⟨g8, 0, none⟩, k, hks, by omega, by push_cast; rfl, rfl, rfl, HA6, HO8, HOI8, HRB8, HS8, HB8, hz8⟩
              case measure => simp only [intOf]; omega
            · obtain rfl : j = ln := by omega
              have g6 := cell_blk2 HRB.out (i := 6) (u := .bool false) rfl
              have HMN := Lib.hid (show m + j = NF by have := HLM.out; have := HLL.out; omega)
              have HKY := Lib.hid (keys_st HS.out (by have := HI.out.nob; omega))
              go_wp2_with fail
              refine HKY.out.mono ?_
              rintro e wk ⟨v, rfl, hrow, hbk⟩
              obtain ⟨N, hN⟩ : ∃ N, N = σ.objs.length := ⟨_, rfl⟩
              rw [← hN] at hrow
              have HNN := Lib.hid hN
              have hN60 : N ≤ 60 := by rw [hN]; exact hob60
              obtain ⟨a, c, rfl, hget⟩ := row_get (S := KeyS) (l := σ.objs.map (·.1)) hrow (by rw [List.length_map, hN]) (fun _ _ => trivial)
              have HGET := Lib.hid hget
              have HBK := Lib.hid (HB.out.trans (hbk.mono HB.out.size))
              have HVK : Hid (VecAt KeyS wk sa (m + j) sc (fK pre (σ.objs.drop 0))) := Lib.hid (by
                have h1 := VecAt.ofOwn (own_below HO.out hbk) (by rw [List.length_take]; have := HNF.out; have := HMN.out; omega) (fun _ _ => trivial)
                rwa [List.take_of_length_le (by have := HNF.out; have := HMN.out; omega), HF.out] at h1)
              clear hrow hbk hget hN HKY HS HO HB HOI HRB
              go_wp2_with fail
              go_loopw [8, 87] (fun s8 s87 wq => ∃ (i n2 c2 : Nat) (sa2 : Option Addr), i ≤ N ∧ s87 = .int .i64 i ∧ s8 = .slice sa2 n2 c2 ∧ n2 ≤ c2 ∧ c2 ≤ 9223372036854775807 ∧ Hid (VecAt KeyS wk sa2 n2 c2 (fK pre (σ.objs.drop i))) ∧ wk = wq) (fun _ s87 _ => N - (intOf s87).toNat)
              case atStart => exact ⟨0, m + j, sc, sa, by omega, rfl, rfl, HVK.out.cap, HVK.out.capm, HVK, rfl⟩
              case round =>
                clear HVK
                obtain ⟨i, n2, c2, sa2, hiN, rfl, rfl, hnc, hcc, HVK, rfl⟩ := hrel
                by_cases hk2 : i < N
                · obtain ⟨p, hpi⟩ : ∃ p, σ.objs[i]? = some p := ⟨_, List.getElem?_eq_getElem (by rw [← HNN.out]; exact hk2)⟩
                  have hpm : p ∈ σ.objs := List.mem_of_getElem? hpi
                  have hks := key_small HI.out p hpm
                  obtain ⟨g, ha, hgb, hgl, hcell⟩ := HGET.out i hk2
                  obtain ⟨k, hkk⟩ : ∃ k, k = p.1 := ⟨_, rfl⟩
                  have hck := hcell 0 (.string k) (by rw [map_getD hpi, hkk]; rfl)
                  rw [show i * KeyS.K + 0 = i from Nat.mul_one i] at hck
                  have hfc := fK_cons (pre := pre) hpi
                  rw [← hkk] at hks hfc
                  have zi : (i : Int) < (N : Int) := by omega
                  have zi0 : (0 : Int) ≤ (i : Int) := by omega
                  have wi : IntKind.i64.wrap ((i : Int) + 1) = (i : Int) + 1 := IntWalk.i64_in _ (by omega)
                  have HVK2 := HVK.out
                  rw [hfc] at HVK2
                  clear hpi hpm hgb hgl hcell hkk hfc
                  subst ha
                  by_cases hz : (pre.size : Int) ≤ (k.size : Int)
                  · have hex := pref_iff (pre := pre) (k := k) (by omega)
                    by_cases hp : prefB pre k = true
                    · rw [if_pos hp] at HVK2
                      rw [hp] at hex
                      have hn2 : 1 ≤ n2 := by have := HVK2.len; rw [List.length_cons] at this; omega
                      obtain ⟨b, off, rfl, _, _, hc0⟩ := HVK2.get (i := 0) (by omega)
                      have hs0 := hc0 0 (.string k) rfl
                      rw [show off + 0 * KeyS.K + 0 = off from by omega] at hs0
                      have hvd := vec_dropK HVK2 hn2
                      have HVD := Lib.hid (show VecAt KeyS wk (if c2 = 1 then some ⟨b, off, none⟩ else some ⟨b, off + 1, none⟩) (n2 - 1) (c2 - 1) (fK pre (σ.objs.drop (i + 1))) from hvd)
                      have z1 : (n2 : Int) ≠ 0 := by omega
                      have z2 : (0 : Int) < (n2 : Int) := by omega
                      have z3 : ((n2 : Int) == 0) = false := by rw [beq_eq_false_iff_ne]; omega
                      clear hvd hc0 HVK2 HVK hp z1
                      go_wp2_with fail
                      go_roundw
                      case rel => exact ⟨i + 1, n2 - 1, c2 - 1, _, by omega, by push_cast; rfl, rfl, HVD.out.cap, HVD.out.capm, HVD, by trivial⟩
                      case measure => simp only [intOf]; omega
                    · rw [if_neg hp] at HVK2
                      rw [Bool.not_eq_true] at hp
                      rw [hp] at hex
                      have HVD := Lib.hid HVK2
                      clear HVK2 HVK hp
                      go_wp2_with fail
                      go_roundw
                      case rel => exact ⟨i + 1, n2, c2, sa2, by omega, by push_cast; rfl, rfl, hnc, hcc, HVD, by trivial⟩
                      case measure => simp only [intOf]; omega
                  · rw [if_neg (fun hp => hz (by have := pref_size hp; omega))] at HVK2
                    have HVD := Lib.hid HVK2
                    have hz2 : (k.size : Int) < (pre.size : Int) := by omega
                    clear HVK2 HVK hz
                    go_wp2_with fail
                    go_roundw
                    case rel => exact ⟨i + 1, n2, c2, sa2, by omega, by push_cast; rfl, rfl, hnc, hcc, HVD, by trivial⟩
                    case measure => simp only [intOf]; omega
                · have e : i = N := by omega
                  have h0 := HVK.out.len
                  rw [e, HNN.out, List.drop_length] at h0
                  obtain rfl : n2 = 0 := h0.symm
                  clear h0 e
                  go_wp2_with fail
                  first | go_ret2 | go_ret
                  exact ⟨rfl, HBK.out⟩
end Go.Proofs.Ytjafagfhkpaciaa
