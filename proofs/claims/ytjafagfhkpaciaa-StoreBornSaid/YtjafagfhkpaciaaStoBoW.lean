/- StoreBorn, walked. Written by genstoborn.py. -/
import Derived.Test.YtjafagfhkpaciaaStoOnW
import Derived.Test.YtjafagfhkpaciaaStoKst
import Derived.Test.YtjafagfhkpaciaaApnd
import Derived.BigQuiet
import Derived.WalkSmall
namespace Go.Proofs.Ytjafagfhkpaciaa
open Go.RowKit
set_option linter.unusedVariables false

theorem own_keepC {w w' : World} {base n k : Nat} {e : TypeId} {v : Value} {xs : List Value} (h : w.ownsRow base e k v n xs) (hk : KeepC w w') (he : e ≠ 61) : w'.ownsRow base e k v n xs := by
  refine ⟨h.1, ?_⟩
  rcases h.2 with g | ⟨g, cap, cu, h1, h2, h3, h4⟩
  · exact .inl g
  · exact .inr ⟨g, cap, cu, h1, h2, hk _ _ _ _ h3 he, h4⟩
theorem StIn.grow {base b' m k : Nat} {W W' : World} {s : Nat} {σ : Sto} {e : TypeId} {v : Value} {xs : List Value} (h : StIn base W s σ) (ho : W.ownsRow b' e k v m xs) (he : e ≠ 61) (hg : W.grownBy W' v.ownBlock) : StIn base W' s σ := by
  have hF : Frm (fun b => some b = v.ownBlock) W W' := ⟨hg.os, hg.tape, hg.output, hg.size, fun k hk hf => hg.block k hk hf⟩
  have hcell : ∀ b, some b = v.ownBlock → ∃ cu, W.heap[b]? = some (.cells cu e (0, 0)) := by
    intro b hb
    rcases ho.2 with ⟨rfl, hz⟩ | ⟨g, cap, cu, rfl, _, hh, _⟩
    · cases hb
    · cases hb; exact ⟨_, hh⟩
  obtain ⟨h0, ⟨Mo, Mu, h1, h2⟩ | ⟨h1, h2⟩⟩ := h
  · refine ⟨h0, .inl ⟨Mo, Mu, h1.same fun b hb => hF.block b (h1.lt hb) (fun e2 => ?_), h2⟩⟩
    obtain ⟨cu, hc⟩ := hcell b e2
    exact h1.not hc he hb
  · refine ⟨h0, .inr ⟨hF.at h1 (fun e2 => ?_), h2⟩⟩
    obtain ⟨cu, hc⟩ := hcell s e2
    have h' : W.heap[s]? = _ := h1
    rw [hc] at h'
    cases h'; exact he rfl
set_option maxRecDepth 100000 in
set_option maxHeartbeats 16000000 in
theorem storeBorn_walk (a0 : Option Addr) (len0 cap0 : Nat) (z0 : List ActV) (w : World) (hv : VecAt ActS w a0 len0 cap0 z0) :
    Calls Try.prog 8 #[.slice a0 len0 cap0] w fun e w' => e = .returned (.bool true) ∧ Below w.heap.size w w' := by
  have HV := Lib.hid hv
  have hcm := hv.capm
  have hcp := hv.cap
  have HN := Lib.hid (new_any w)
  obtain ⟨w1, hw1⟩ : ∃ w1, w1 = w.alloc (.cells #[.map none, .map none, .int .i64 0, .int .i64 0, .int .i64 0, .int .i64 0] 61) := ⟨_, rfl⟩
  have hb1 : Below w.heap.size w w1 := by rw [hw1]; exact (Below.refl _ _).alloc (Nat.le_refl _) _
  have hs1 : StIn w.heap.size w1 w.heap.size (sto0 0) := by rw [hw1]; exact stIn_new w
  have HL := Lib.hid (lives_any w1)
  have HW1 := Lib.hid hw1
  have HB1 := Lib.hid hb1
  have HS1 := Lib.hid hs1
  clear hv hw1 hb1 hs1
  go_enter Try.func8, Try.ntmps8
  go_wp2_with fail
  refine HN.out.mono ?_
  rintro e w1' ⟨rfl, hw1'⟩
  rw [hw1', ← HW1.out]
  clear hw1' w1'
  go_wp2_with fail
  refine HL.out.mono ?_
  rintro e w2 ⟨rfl, hb2⟩
  have HB2 := Lib.hid (HB1.out.trans (hb2.mono HB1.out.size))
  have HS2 := Lib.hid (HS1.out.below hb2)
  clear hb2
  have HFW := Lib.hid (few_any (HV.out.kept HB2.out) (most := 60) (by decide))
  clear HS1 HB1 HW1 HL HN
  obtain ⟨s, hse⟩ : ∃ s, s = w.heap.size := ⟨_, rfl⟩
  rw [← hse]
  have HS2' : Hid (StIn w.heap.size w2 s (sto0 0)) := by rw [hse]; exact HS2
  clear HS2 hse
  go_wp2_with fail
  refine HFW.out.mono ?_
  rintro e w3 ⟨rfl, hb3⟩
  obtain ⟨n, hn⟩ : ∃ n, n = fewN 60 z0 0 0 := ⟨_, rfl⟩
  rw [← hn]
  obtain ⟨_, hn40, hnl, hnd⟩ := fewN_le (most := 60) (l := z0) (s := 0) (i := 0) (by decide)
  rw [← hn] at hn40 hnl hnd
  rw [HV.out.len, Nat.zero_add] at hnl
  have HND := Lib.hid hnd
  have HB3 := Lib.hid (HB2.out.trans (hb3.mono HB2.out.size))
  have HS3 := Lib.hid (HS2'.out.below hb3)
  clear hb3 hn hnd HFW HS2' HB2
  go_wp2_with fail
  go_loopw [22] (fun s22 wr => ∃ (k : Nat) (σ : Sto), k ≤ n ∧ s22 = .int .i64 k ∧ σ.ver ≤ k ∧ σ.id ≤ k ∧ σ.now ≤ 1099511627775 ∧ Hid (Inv σ) ∧ Hid (BornI σ) ∧ Hid (StIn w.heap.size wr s σ) ∧ Hid (Below w.heap.size w wr)) (fun s22 _ => n - (intOf s22).toNat)
  case atStart => exact ⟨0, sto0 0, by omega, rfl, by decide, by decide, by decide, Lib.hid inv0, Lib.hid born0, HS3, HB3⟩
  case round =>
    obtain ⟨k, σ, hk, rfl, hvk, hik, hnw, HI, HBI, HS, HB⟩ := hrel
    rename World => wr
    clear HS3 HB3
    by_cases hkn : k < n
    · obtain ⟨b, off, rfl, hc⟩ := HV.out.row HB.out (show k < len0 by omega)
      obtain ⟨x, hx⟩ : ∃ x, x = z0.getD k ActS.z := ⟨_, rfl⟩
      have hdn : x.dn ≤ 20000 := by rw [hx]; exact HND.out k (by omega)
      have hok : ActS.ok wr x := by rw [hx]; exact (HV.out.kept HB.out).all _ (vec_mem (S := ActS) (by rw [HV.out.len]; omega))
      rw [← hx] at hc
      have c0 : wr.cell? ⟨b, off + k * 8, none⟩ = some (.int .i64 x.ki) := hc 0 _ rfl
      have c1 := hc 1 _ rfl
      have c2 := hc 2 _ rfl
      have c3 := hc 3 _ rfl
      have c4 := hc 4 _ rfl
      have c5 := hc 5 _ rfl
      have c6 := hc 6 _ rfl
      have c7 := hc 7 _ rfl
      obtain ⟨w3, hw3⟩ : ∃ w3, w3 = wr.alloc (.cells (actC x) 31) := ⟨_, rfl⟩
      have hk3 : w3.heap[wr.heap.size]? = some (.cells (actC x) 31 (0, 0)) := by rw [hw3]; exact heap_new wr _
      have hb3 : Below wr.heap.size wr w3 := by rw [hw3]; exact (Below.refl _ _).alloc (Nat.le_refl _) _
      have HB3 := Lib.hid (HB.out.trans (hb3.mono HB.out.size))
      have HS3 := Lib.hid (HS.out.below hb3)
      have HCL := Lib.hid (call_any (w := w3) (x := x) ⟨hok.1.kept hb3, hok.2⟩ hdn)
      have HK3 := Lib.hid hk3
      have HW3 := Lib.hid hw3
      have HOK := Lib.hid hok
      have zk : (k : Int) < (n : Int) := by omega
      have zk0 : (0 : Int) ≤ (k : Int) := by omega
      have wk : IntKind.i64.wrap ((k : Int) + 1) = (k : Int) + 1 := IntWalk.i64_in _ (by omega)
      clear hc hx hw3 hk3 hb3 hok
      go_upto_region 7 with fail
      have hw3 := HW3.out
      unfold actC at hw3
      rw [← hw3]
      clear hw3 c0 c1 c2 c3 c4 c5 c6 c7
      have d0 := cell_blk2 HK3.out (i := 0) (u := .int .i64 x.ki) rfl
      have d4 := cell_blk2 HK3.out (i := 4) (u := .int .i64 x.at') rfl
      by_cases hki : x.ki = 0
      · have HTK := Lib.hid (tick_any HS3.out HB3.out.size ⟨HI.out.now, hnw⟩ x.at')
        go_wp2_with fail
        refine HTK.out.mono ?_
        rintro e w4 ⟨rfl, hs4, hb4, _⟩
        obtain ⟨t1, t2, t3, t4, t5, t6⟩ := HI.out.tick x.at'
        have HI4 := Lib.hid t1
        have HBI4 := Lib.hid (HBI.out.tick HI.out x.at')
        have HS4 := Lib.hid hs4
        have HB4 := Lib.hid (HB3.out.trans hb4)
        clear hs4 hb4 d0 d4 t1 t4 HTK
        go_wp2_with fail
        go_roundw
        case rel => exact ⟨k + 1, tickS σ x.at', by omega, by push_cast; rfl, by omega, by omega, by omega, HI4, HBI4, HS4, HB4⟩
        case measure => simp only [intOf]; omega
      · have n0 : (x.ki == 0) = false := by simpa using hki
        have d1 := cell_blk2 HK3.out (i := 1) (u := .string x.ky) rfl
        have d2 := cell_blk2 HK3.out (i := 2) (u := .slice x.da x.dn x.dc) rfl
        have d3 := cell_blk2 HK3.out (i := 3) (u := .int .i64 x.vr) rfl
        have d5 := cell_blk2 HK3.out (i := 5) (u := .int .i64 x.nn) rfl
        have d6 := cell_blk2 HK3.out (i := 6) (u := .int .i64 x.id) rfl
        have d7 := cell_blk2 HK3.out (i := 7) (u := .int .i64 x.big) rfl
        go_wp2_with fail
        refine HCL.out.mono ?_
        rintro e w4 ⟨qa, qn, qc, qx, rfl, hqb, hb4⟩
        clear d0 d1 d2 d3 d4 d5 d6 d7 n0
        have HB4 := Lib.hid (HB3.out.trans (hb4.mono HB3.out.size))
        have HST := Lib.hid (step_any (ki := x.ki) (vr := x.vr) (at_ := x.at') (nn := x.nn) (id := x.id) (ky := x.ky) (HS3.out.below hb4) HB4.out.size HI.out (by omega) (by omega) hqb (Nat.le_trans HOK.out.2.1 (by decide)) HOK.out.2.2.1)
        clear hqb hb4 HCL HB3 HS3 HK3
        go_wp2_with fail
        refine HST.out.mono ?_
        rintro e w5 ⟨er, v, bo, io, ra, rn, rc, la, ln, lc, mm, σ', rfl, hdr, hs5, hb5, hkc⟩
        unfold repV
        have HS5 := Lib.hid hs5
        have HB5 := Lib.hid (HB4.out.trans hb5)
        have HDR := Lib.hid hdr
        have hver := hdr.ver
        have hidd := hdr.idd
        have hnow := hdr.now
        have HNW := Lib.hid hnow
        clear hs5 hb5 hkc hdr hnow HST HB4
        go_wp2_with fail
        go_roundw
        case rel => exact ⟨k + 1, σ', by omega, by push_cast; rfl, by omega, by omega, by have := HNW.out; omega, Lib.hid HDR.out.inv, Lib.hid (HBI.out.step HI.out HDR.out), HS5, HB5⟩
        case measure => simp only [intOf]; omega
    · have e : n = k := by omega
      have HKY := Lib.hid (keys_st HS.out (by have := HI.out.nob; omega))
      go_wp2_with fail
      refine HKY.out.mono ?_
      rintro e w3 ⟨v, rfl, hrow, hb3⟩
      obtain ⟨N, hN⟩ : ∃ N, N = σ.objs.length := ⟨_, rfl⟩
      rw [← hN] at hrow
      have HNN := Lib.hid hN
      have hN512 : N ≤ 512 := by rw [hN]; exact HI.out.nob
      have hcur : ∀ g, v.ownBlock = some g → ∃ cur, w3.heap[g]? = some (.cells cur 9 (0, 0)) := by
        intro g hg
        rcases hrow.2 with ⟨rfl, hz⟩ | ⟨g', cap, cu, rfl, hbg, hh, _⟩
        · cases hg
        · cases hg; exact ⟨_, hh⟩
      obtain ⟨a, c, rfl, hget⟩ := row_get (S := KeyS) (l := σ.objs.map (·.1)) hrow (by rw [List.length_map, hN]) (fun _ _ => trivial)
      have HCUR := Lib.hid hcur
      have HGET := Lib.hid hget
      have HB3 := Lib.hid (HB.out.trans (hb3.mono HB.out.size))
      have HS3 := Lib.hid (HS.out.below hb3)
      have HB3z := Lib.hid HB3.out.size
      obtain ⟨i0, hi, hz0, hz1, hz2⟩ := info_parts info_rep
      clear hrow hb3 hcur hget hN HKY HB HS
      go_wp2_with fail
      go_loopw [6, 43] (fun s6 s43 wr => ∃ (i cc : Nat) (aa : Option Addr) (Ls : List RepV), i ≤ N ∧ s43 = .int .i64 i ∧ s6 = .slice aa i cc ∧ Hid (Ls.length = i) ∧ Hid (∀ j p, j < i → σ.objs[j]? = some p → (Ls.getD j RepS.z).ver = p.2.ver ∧ (Ls.getD j RepS.z).born = p.2.born) ∧ Hid (wr.ownsRow w3.heap.size 35 7 (.slice aa i cc) i (RepS.flat Ls)) ∧ Hid (∀ g, a = some ⟨g, 0, none⟩ → wr.heap[g]? = w3.heap[g]?) ∧ Hid (StIn w.heap.size wr s σ) ∧ Hid (Below w.heap.size w wr) ∧ w3.heap.size ≤ wr.heap.size) (fun _ s43 _ => N - (intOf s43).toNat)
      case atStart => exact ⟨0, 0, none, [], by omega, rfl, rfl, Lib.hid rfl, Lib.hid (fun j p hj => by omega), Lib.hid (World.ownsRow_nil w3 _ _ _), Lib.hid (fun _ _ => rfl), HS3, HB3, Nat.le_refl _⟩
      case round =>
        clear HS3 HB3
        obtain ⟨i, cc, aa, Ls, hiN, rfl, rfl, HLL, HLS, HO, HEQ, HS, HB, hz3⟩ := hrel
        rename World => wr
        by_cases hk2 : i < N
        · obtain ⟨p, hpi⟩ : ∃ p, σ.objs[i]? = some p := ⟨_, List.getElem?_eq_getElem (by rw [← HNN.out]; exact hk2)⟩
          have hpm : p ∈ σ.objs := List.mem_of_getElem? hpi
          obtain ⟨g, ha, hgb, hgl, hcell⟩ := HGET.out i hk2
          have hc1 := hcell 0 (.string p.1) (by rw [map_getD hpi]; rfl)
          rw [show i * KeyS.K + 0 = i from Nat.mul_one i] at hc1
          have hck : wr.cell? ⟨g, i, none⟩ = some (.string p.1) := by rw [← hc1]; exact cell_of_heap (HEQ.out g ha)
          have hAp := Apt.of (HS.out.sat HB.out.size).choose_spec.choose_spec.1
          have HAP := Lib.hid hAp
          have hob : objOf σ p.1 = some p.2 := get_of_mem litS hAp.obj hpm
          have hov : oldVer σ p.1 = p.2.ver := by unfold oldVer; rw [hob]
          have HGT := Lib.hid (step_get (ky := p.1) (a := none) (n := 0) (c := 0) (vr := 0) (at_ := 0) (nn := 0) (id := 0) HS.out HB.out.size HI.out (by omega) (by omega) (key_small HI.out p hpm))
          rw [hov] at HGT
          have HOB := Lib.hid hob
          have HPI := Lib.hid hpi
          have hoi := HI.out.obj p hpm
          have zi : (i : Int) < (N : Int) := by omega
          have zi0 : (0 : Int) ≤ (i : Int) := by omega
          have wi : IntKind.i64.wrap ((i : Int) + 1) = (i : Int) + 1 := IntWalk.i64_in _ (by omega)
          have y1 : decide (p.2.born < 0) = false := decide_eq_false (by omega)
          have y2 : decide (σ.now < p.2.born) = false := decide_eq_false (by omega)
          have y3 : decide (p.2.ver < 1) = false := decide_eq_false (by omega)
          clear hpi hpm hcell hc1 hgb hgl hAp hob hov hoi
          subst ha
          go_wp2_with fail
          refine HGT.out.mono ?_
          rintro e w4 ⟨hb4, hkc4, hs4, x, bo, ga, gn, gc, rfl, hx1, hx2⟩
          rw [HOB.out] at hx1
          obtain rfl : x = 0 := hx1
          obtain ⟨hbo, _⟩ := hx2 _ HOB.out
          subst hbo
          unfold repV
          obtain ⟨w5, hw5⟩ : ∃ w5, w5 = w4.alloc (.cells #[.int .i64 0, .slice ga gn gc, .int .i64 p.2.ver, .int .i64 p.2.born, .int .i64 0, .slice none 0 0, .bool false] 35) := ⟨_, rfl⟩
          have hb5 : Below w4.heap.size w4 w5 := by rw [hw5]; exact (Below.refl _ _).alloc (Nat.le_refl _) _
          have hk5 : w5.heap[w4.heap.size]? = some (.cells #[.int .i64 0, .slice ga gn gc, .int .i64 p.2.ver, .int .i64 p.2.born, .int .i64 0, .slice none 0 0, .bool false] 35 (0, 0)) := by rw [hw5]; exact heap_new w4 _
          have hbw4 := HB.out.trans hb4
          have HB5 := Lib.hid (hbw4.trans (hb5.mono hbw4.size))
          have HS5 := Lib.hid (hs4.below hb5)
          have HKC := Lib.hid (hkc4.below hb5)
          have HZ5 := Lib.hid (show wr.heap.size ≤ w5.heap.size from Nat.le_trans hb4.size hb5.size)
          have HK5 := Lib.hid hk5
          have HNW := Lib.hid (fun m : Nat => now_any (W := w5.drewN m) (HS5.out.below (below_drewN (Below.refl _ w5) m)))
          have e0 := cell_blk2 hk5 (i := 0) (u := .int .i64 0) rfl
          have e2 := cell_blk2 hk5 (i := 2) (u := .int .i64 p.2.ver) rfl
          have e3 := cell_blk2 hk5 (i := 3) (u := .int .i64 p.2.born) rfl
          have HW5 := Lib.hid hw5
          clear hx2 hw5 hb5 hk5 hb4 hkc4 hs4 hbw4 HGT hck
          go_upto_region 16 with fail
          rw [← HW5.out]
          go_quiet (exact Calls.quiet_of_same (HNW.out _))
          all_goals
            obtain ⟨w6, hw6⟩ : ∃ w6, w6 = w5.drewN nq := ⟨_, rfl⟩
            rw [← hw6]
            have hb6 : Below w5.heap.size w5 w6 := by rw [hw6]; exact below_drewN (Below.refl _ w5) nq
            have HB6 := Lib.hid (HB5.out.trans (hb6.mono HB5.out.size))
            have HS6 := Lib.hid (HS5.out.below hb6)
            have HK6 := Lib.hid ((hb6.block _ (Array.getElem?_eq_some_iff.1 HK5.out).1).trans HK5.out)
            have hkc6 := HKC.out.below hb6
            have HO6 := Lib.hid (own_keepC HO.out hkc6 (by decide))
            have HEQ6 : Hid (w6.heap[g]? = w3.heap[g]?) := Lib.hid (by
              obtain ⟨cu, hcu⟩ := HCUR.out g rfl
              rw [hcu]
              exact hkc6 _ _ _ _ ((HEQ.out g rfl).trans hcu) (by decide))
            have hz6 : w3.heap.size ≤ w6.heap.size := Nat.le_trans hz3 (Nat.le_trans HZ5.out hb6.size)
            clear hw6 hb6 hkc6 e0 e2 e3 y1 y2 y3 HB5 HS5 HK5 HKC HNW HW5 HO HS HB HOB
            go_wp2_with fail
            go_loopw [73] (fun s73 wq => ∃ (j : Nat), j ≤ i ∧ s73 = .int .i64 j ∧ Hid (Below w6.heap.size w6 wq)) (fun s73 _ => i - (intOf s73).toNat)
            case atStart => exact ⟨0, by omega, rfl, Lib.hid (Below.refl _ _)⟩
            case round =>
              obtain ⟨j, hj, rfl, HQ⟩ := hrel
              rename World => wq
              by_cases hji : j < i
              · obtain ⟨b, off, rfl, _, _, hc⟩ := (VecAt.ofOwn (own_below HO6.out HQ.out) HLL.out (fun _ _ => trivial)).get hji
                obtain ⟨q, hq⟩ : ∃ q, σ.objs[j]? = some q := ⟨_, List.getElem?_eq_getElem (by rw [← HNN.out]; omega)⟩
                obtain ⟨hv1, hv2⟩ := HLS.out j q hji hq
                obtain ⟨y, hy⟩ : ∃ y, y = Ls.getD j RepS.z := ⟨_, rfl⟩
                rw [← hy] at hc hv1 hv2
                obtain ⟨b1, b2, b3⟩ := born_pair HBI.out HAP.out HPI.out hq (by omega)
                rw [← hv1, ← hv2] at b2 b3
                rw [← hv1] at b1
                have c0 : wq.cell? ⟨b, off + j * 7, none⟩ = some (.int .i64 0) := hc 0 _ rfl
                have c1 : wq.cell? ⟨b, off + j * 7 + 1, none⟩ = some (.slice y.ga y.gn y.gc) := hc 1 _ rfl
                have c2 : wq.cell? ⟨b, off + j * 7 + 2, none⟩ = some (.int .i64 y.ver) := hc 2 _ rfl
                have c3 : wq.cell? ⟨b, off + j * 7 + 3, none⟩ = some (.int .i64 y.born) := hc 3 _ rfl
                have c4 : wq.cell? ⟨b, off + j * 7 + 4, none⟩ = some (.int .i64 0) := hc 4 _ rfl
                have c5 : wq.cell? ⟨b, off + j * 7 + 5, none⟩ = some (.slice none 0 0) := hc 5 _ rfl
                have c6 : wq.cell? ⟨b, off + j * 7 + 6, none⟩ = some (.bool false) := hc 6 _ rfl
                obtain ⟨w7, hw7⟩ : ∃ w7, w7 = wq.alloc (.cells #[.int .i64 0, .slice y.ga y.gn y.gc, .int .i64 y.ver, .int .i64 y.born, .int .i64 0, .slice none 0 0, .bool false] 35) := ⟨_, rfl⟩
                have hb7 : Below wq.heap.size wq w7 := by rw [hw7]; exact (Below.refl _ _).alloc (Nat.le_refl _) _
                have hk7 : w7.heap[wq.heap.size]? = some (.cells #[.int .i64 0, .slice y.ga y.gn y.gc, .int .i64 y.ver, .int .i64 y.born, .int .i64 0, .slice none 0 0, .bool false] 35 (0, 0)) := by rw [hw7]; exact heap_new wq _
                have HQ7 := Lib.hid (HQ.out.trans (hb7.mono HQ.out.size))
                have hk67 := (HQ7.out.block _ (Array.getElem?_eq_some_iff.1 HK6.out).1).trans HK6.out
                have f2 := cell_blk2 hk7 (i := 2) (u := .int .i64 y.ver) rfl
                have f3 := cell_blk2 hk7 (i := 3) (u := .int .i64 y.born) rfl
                have k2 := cell_blk2 hk67 (i := 2) (u := .int .i64 p.2.ver) rfl
                have k3 := cell_blk2 hk67 (i := 3) (u := .int .i64 p.2.born) rfl
                have HW7 := Lib.hid hw7
                have zj : (j : Int) < (i : Int) := by omega
                have zj0 : (0 : Int) ≤ (j : Int) := by omega
                have wj : IntKind.i64.wrap ((j : Int) + 1) = (j : Int) + 1 := IntWalk.i64_in _ (by omega)
                have n1 : (p.2.ver == y.ver) = false := by simpa using b1
                clear hc hq hv1 hv2 hy hw7 hb7 hk7 hk67
                go_upto_region 21 with fail
                rw [← HW7.out]
                clear c0 c1 c2 c3 c4 c5 c6
                rcases (by omega : p.2.ver < y.ver ∨ (¬ p.2.ver < y.ver ∧ y.ver < p.2.ver)) with g1 | ⟨g1, g2⟩
                · have m1 : ¬ y.born < p.2.born := by have := b2 g1; omega
                  have m2 : ¬ y.ver < p.2.ver := by omega
                  clear b1 b2 b3
                  go_wp2_with fail
                  go_roundw
                  case rel => exact ⟨j + 1, by omega, by push_cast; rfl, HQ7⟩
                  case measure => simp only [intOf]; omega
                · have m1 : ¬ p.2.born < y.born := by have := b3 g2; omega
                  clear b1 b2 b3
                  go_wp2_with fail
                  go_roundw
                  case rel => exact ⟨j + 1, by omega, by push_cast; rfl, HQ7⟩
                  case measure => simp only [intOf]; omega
              · have ej : j = i := by omega
                have hkq := (HQ.out.block _ (Array.getElem?_eq_some_iff.1 HK6.out).1).trans HK6.out
                have k0 := cell_blk2 hkq (i := 0) (u := .int .i64 0) rfl
                have k1 := cell_blk2 hkq (i := 1) (u := .slice ga gn gc) rfl
                have k2 := cell_blk2 hkq (i := 2) (u := .int .i64 p.2.ver) rfl
                have k3 := cell_blk2 hkq (i := 3) (u := .int .i64 p.2.born) rfl
                have k4 := cell_blk2 hkq (i := 4) (u := .int .i64 0) rfl
                have k5 := cell_blk2 hkq (i := 5) (u := .slice none 0 0) rfl
                have k6 := cell_blk2 hkq (i := 6) (u := .bool false) rfl
                obtain ⟨X, hX⟩ : ∃ X : RepV, X = ⟨ga, gn, gc, p.2.ver, p.2.born⟩ := ⟨_, rfl⟩
                have hba : Below wq.heap.size wq (wq.alloc (.cells #[.int .i64 0, .slice ga gn gc, .int .i64 p.2.ver, .int .i64 p.2.born, .int .i64 0, .slice none 0 0, .bool false] 35)) := (Below.refl _ _).alloc (Nat.le_refl _) _
                have HQA := Lib.hid (HQ.out.trans (hba.mono HQ.out.size))
                have HOA := Lib.hid (own_below HO6.out HQA.out)
                have HSRC := Lib.hid (RepS.src wq ⟨ga, gn, gc, p.2.ver, p.2.born⟩ 35 (cs := #[.int .i64 0, .slice ga gn gc, .int .i64 p.2.ver, .int .i64 p.2.born, .int .i64 0, .slice none 0 0, .bool false]) rfl)
                have hqs := HQ.out.size
                clear hkq hba
                go_wp2_with (at_builtin; refine wpList_append_own_at _ rfl (.tmp 111) (.tmp 113) 56 rfl w3.heap.size 35 i0 _ 7 88 Try.underlying56 hi hz0 hz1 hz2 rfl (by decide) _ _ _ rfl HOA.out ⟨wq.heap.size, 0, none⟩ 1 1 (RepS.f ⟨ga, gn, gc, p.2.ver, p.2.born⟩) rfl rfl HSRC.out (RepS.one _) (by unfold maxLen; omega) (by omega) (by rw [World.size_alloc]; omega) ?_)
                intro v8 w8 ho8 hg8 _ hat8
                obtain ⟨g8, c8, rfl⟩ := own_some2 ho8 (by omega)
                have hbA := HB6.out.trans (HQA.out.mono HB6.out.size)
                have HB8 := Lib.hid (hbA.grown hg8 hbA.size (fun jj hjj => Nat.le_trans (by have := HB3z.out; omega) (HOA.out.lt jj hjj).1))
                have HS8 := Lib.hid ((HS6.out.below HQA.out).grow HOA.out (by decide) hg8)
                have HEQ8 : Hid (∀ g', some (⟨g, 0, none⟩ : Addr) = some ⟨g', 0, none⟩ → w8.heap[g']? = w3.heap[g']?) := Lib.hid (by
                  intro g' e
                  cases e
                  obtain ⟨cu, hcu⟩ := HCUR.out g rfl
                  have h1 := HEQ6.out.trans hcu
                  have h2 := (HQA.out.block _ (Array.getElem?_eq_some_iff.1 h1).1).trans h1
                  rw [hcu]
                  exact (hg8.block g (Array.getElem?_eq_some_iff.1 h2).1 (fun e => own_ne HOA.out h2 (by decide) e.symm)).trans h2)
                have HO8 := Lib.hid (by rw [← Sty.flat_snoc] at ho8; exact ho8)
                have hz8 : w3.heap.size ≤ w8.heap.size := Nat.le_trans hz6 (Nat.le_trans HQA.out.size hg8.size)
                have HLS8 : Hid (∀ jj pp, jj < i + 1 → σ.objs[jj]? = some pp → ((Ls ++ [(⟨ga, gn, gc, p.2.ver, p.2.born⟩ : RepV)]).getD jj RepS.z).ver = pp.2.ver ∧ ((Ls ++ [(⟨ga, gn, gc, p.2.ver, p.2.born⟩ : RepV)]).getD jj RepS.z).born = pp.2.born) := Lib.hid (by
                  intro jj pp hjj hpp
                  rw [List.getD_eq_getElem?_getD]
                  rcases Nat.lt_or_ge jj i with g1 | g1
                  · rw [List.getElem?_append_left (by rw [HLL.out]; exact g1), ← List.getD_eq_getElem?_getD]
                    exact HLS.out jj pp g1 hpp
                  · obtain rfl : jj = i := by omega
                    rw [List.getElem?_append_right (by rw [HLL.out]; omega), HLL.out, Nat.sub_self]
                    have := HPI.out.symm.trans hpp
                    cases this
                    exact ⟨rfl, rfl⟩)
                have HLL8 : Hid ((Ls ++ [(⟨ga, gn, gc, p.2.ver, p.2.born⟩ : RepV)]).length = i + 1) := Lib.hid (by rw [List.length_append, HLL.out]; rfl)
                clear k0 k1 k2 k3 k4 k5 k6 ho8 hg8 hat8 hbA ej hji hj hqs
                go_wp2_with fail
                go_roundw
                case rel => exact ⟨i + 1, c8, _, _, by omega, by push_cast; rfl, rfl, HLL8, HLS8, HO8, HEQ8, HS8, HB8, hz8⟩
                case measure => simp only [intOf]; omega
        · have e : i = N := by omega
          go_wp2_with fail
          first | go_ret2 | go_ret
          exact ⟨rfl, HB.out⟩
end Go.Proofs.Ytjafagfhkpaciaa
