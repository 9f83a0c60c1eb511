/- Texts put together by packtpl2.py: SdDoP, SdDoQ, StoLiv, StoStep, SdSim, SdDoG, SdDoL. -/
import Derived.Test.YtjafagfhkpaciaaGreatPkSP2
import Derived.Test.YtjafagfhkpaciaaGreatPkSP4
import Derived.Test.YtjafagfhkpaciaaGreatPkSP5
import Derived.Lib.SlBytesConst
import Derived.Deep.CutBlock
section PkSP6_0
/- The document's Do: put. Written by gensddo.py. -/
namespace Go.Proofs.YtjafagfhkpaciaaGreat
open Go.RowKit
set_option linter.unusedVariables false
set_option linter.unusedSimpArgs false

set_option maxRecDepth 100000 in
set_option maxHeartbeats 16000000 in
theorem ddo_1 {w : World} {S base : Nat} {σ : DSto} (h : DStAt w S base σ) {vr at_ nn id : Int} {ky : ByteArray} {a : Option Addr} {n c : Nat} {xs : List Nat} (hx : BytesAt w a n c xs) (hbs : base ≤ w.heap.size) (hver : 0 ≤ σ.ver ∧ σ.ver ≤ 1000000000) (hver1 : ∀ o ∈ σ.objs, 1 ≤ o.ver) :
    Calls Tryz.prog 13 #[.pointer (some ⟨S, 0, none⟩), .agg #[.int .i64 1, .string ky, .slice a n c, .int .i64 vr, .int .i64 at_, .int .i64 nn, .int .i64 id]] w (Do1 w S base σ 1 ky vr n xs) := by
  have HE := Lib.hid (dent_mk h #[.int .i64 1, .string ky, .slice a n c, .int .i64 vr, .int .i64 at_, .int .i64 nn, .int .i64 id])
  have hSl : S < w.heap.size := (Array.getElem?_eq_some_iff.1 h.blk).1
  have hcap9 := hx.cap
  have hcapm9 := hx.capm
  clear h
  go_enter Tryz.func13, Tryz.ntmps13
  go_upto_region 1 with fail
  obtain ⟨W0, hW0⟩ : ∃ W0, W0 = (w.alloc (.cells #[.int .i64 1, .string ky, .slice a n c, .int .i64 vr, .int .i64 at_, .int .i64 nn, .int .i64 id] 34)).alloc (.cells zrep 43) := ⟨_, rfl⟩
  rw [← hW0] at HE
  unfold zrep at hW0
  rw [← hW0]
  clear hW0
  obtain ⟨ai, hai⟩ : ∃ ai, ai = atK σ.objs ky := ⟨_, rfl⟩
  obtain ⟨oi, hoi⟩ : ∃ oi, oi = openK σ.ups id := ⟨_, rfl⟩
  have HAT := Lib.hid (fun k => dat_any (HE.out.st.drewN k) ky)
  have HOP := Lib.hid (fun k => dopen_any (HE.out.st.drewN k) id)
  rw [← hai] at HAT
  rw [← hoi] at HOP
  have k1 := cell_blkD HE.out.cb (i := 1) (u := .string ky) rfl
  have k6 := cell_blkD HE.out.cb (i := 6) (u := .int .i64 id) rfl
  go_quiet ((first | (go_at_call 26; exact Calls.quiet_of_same (HAT.out _)) | (go_at_call 27; exact Calls.quiet_of_same (HOP.out _))))
  rename Nat => nq
  clear k1 k6 HAT HOP
  have HE1 := Lib.hid (HE.out.drewN nq)
  obtain ⟨W1, hW1⟩ : ∃ W1, W1 = W0.drewN nq := ⟨_, rfl⟩
  rw [← hW1] at HE1
  rw [← hW1]
  clear HE hW1
  have HE := HE1
  clear HE1
  have hz0 := HE.out.sz
  have hk0 : w.heap.size < W1.heap.size := by omega
  have hr0 : w.heap.size + 1 < W1.heap.size := by omega
  have hS0 : S < W1.heap.size := by omega
  have HZ0 := Lib.hid hz0
  clear hz0
  have HR0 := Lib.hid (Below.refl W1.heap.size W1)
  have k0 := cell_blkD HE.out.cb (i := 0) (u := .int .i64 1) rfl
  have HAI := Lib.hid hai
  have HOI := Lib.hid hoi
  clear hai hoi
  have k1 := cell_blkD HE.out.cb (i := 1) (u := .string ky) rfl
  have k3 := cell_blkD HE.out.cb (i := 3) (u := .int .i64 vr) rfl
  have htot0 := HE.out.st.tot
  obtain ⟨T, hT⟩ : ∃ T, T = osum σ.objs + usum σ.ups := ⟨_, rfl⟩
  have HTT := Lib.hid hT
  rw [← hT] at htot0
  clear hT
  go_wp2_with fail
  refine (dkey_any ky W1).mono ?_
  rintro e wk ⟨rfl, hwk⟩
  rw [hwk]
  clear hwk wk
  by_cases hkey : isKeyB ky = false
  case pos =>
    rw [hkey]
    have HPE := Lib.hid (show putDE σ 1 ky vr n = 1 from by unfold putDE; rw [if_pos hkey])
    go_wp2_with fail
    refine (dbad_any 1 W1).mono ?_
    rintro e wE ⟨rfl, hbE⟩
    unfold repA
    have hbe := HR0.out.trans (hbE.mono HR0.out.size)
    have HRB := Lib.hid ((hbe.block (w.heap.size + 1) hr0).trans HE.out.rb)
    have HST := Lib.hid (HE.out.st.below hbe)
    have HFR := Lib.hid (show Frm (DF S σ) w wE from Frm.ofBelow (HE.out.bel.trans (hbe.mono HE.out.bel.size)))
    obtain ⟨⟨q0, q1, q2, q3, q4, q5, q6⟩, r0, r1, r2, r3, r4, r5, r6⟩ := rb_cells HRB.out
    clear hbE hbe
    go_wp2_with fail
    clear q0 q1 q2 q3 q4 q5 q6 r0 r1 r2 r3 r4 r5 r6
    obtain ⟨W5, hW5⟩ : ∃ W5, W5 = setR wE (w.heap.size + 1) (.int .i64 1) (.slice none 0 0) (.int .i64 0) (.int .i64 0) (.int .i64 0) (.slice none 0 0) (.bool false) := ⟨_, rfl⟩
    have hr5 := setR_at0 HRB.out (.int .i64 1) (.slice none 0 0) (.int .i64 0) (.int .i64 0) (.int .i64 0) (.slice none 0 0) (.bool false)
    have hF5 := (Frm.refl (fun b => b = w.heap.size + 1) wE).setR (R := w.heap.size + 1) (.inl rfl) (.int .i64 1) (.slice none 0 0) (.int .i64 0) (.int .i64 0) (.int .i64 0) (.slice none 0 0) (.bool false)
    rw [← hW5] at hr5 hF5
    unfold setR at hW5
    rw [← hW5]
    have hfin := put_done HST.out HRB.out (Nat.le_succ _) HFR.out hF5
    exact bodyPost_ret (ret_rep rfl _ _ (w.heap.size + 1) rfl hr5) rfl (Do1.no HPE.out (by decide) hfin)
  have hkey' : isKeyB ky = true := by simpa using hkey
  rw [hkey']
  have HK1 := Lib.hid (show ¬ isKeyB ky = false from hkey)
  rcases atK_neg (l := σ.objs) (k := ky) with ⟨ho1, ho2⟩ | ⟨jo, ho1, ho2⟩
  · have hai := HAI.out
    rw [ho1] at hai
    clear HAI
    subst hai
    have HNO := Lib.hid (show (objD σ ky).isNone = true from by unfold objD; rw [ho2]; rfl)
    have HDV := Lib.hid (show dVer σ ky = 0 from by unfold dVer objD; rw [ho2])
    have HDH := Lib.hid (show (dHad σ ky : Int) = 0 from by unfold dHad objD; rw [ho2]; rfl)
    clear ho1 ho2
    go_upto_region 10 with fail
    go_quiet (fail)
    rename Nat => nqW8
    clear k0 k3 k1
    have HEX := Lib.hid (HE.out.drewN nqW8)
    obtain ⟨W8, hWX⟩ : ∃ W8, W8 = W1.drewN nqW8 := ⟨_, rfl⟩
    rw [← hWX] at HEX
    rw [← hWX]
    clear HE hWX HR0 hk0 hr0 hS0
    have HE := HEX
    clear HEX
    have hz0 := HE.out.sz
    have hk0 : w.heap.size < W8.heap.size := by omega
    have hr0 : w.heap.size + 1 < W8.heap.size := by omega
    have hS0 : S < W8.heap.size := by omega
    clear hz0
    have HR0 := Lib.hid (Below.refl W8.heap.size W8)
    have k2 := cell_blkD HE.out.cb (i := 2) (u := .slice a n c) rfl
    by_cases hn5 : 262144 < n
    case pos =>
      have hn5' : (262144 : Int) < (n : Int) := by omega
      have HPE := Lib.hid (show putDE σ 1 ky vr n = 5 from by unfold putDE; rw [if_neg HK1.out, if_neg (fun g => absurd g.1 (by decide)), if_pos hn5])
      go_wp2_with fail
      refine (dbad_any 5 W8).mono ?_
      rintro e wE ⟨rfl, hbE⟩
      unfold repA
      have hbe := HR0.out.trans (hbE.mono HR0.out.size)
      have HRB := Lib.hid ((hbe.block (w.heap.size + 1) hr0).trans HE.out.rb)
      have HST := Lib.hid (HE.out.st.below hbe)
      have HFR := Lib.hid (show Frm (DF S σ) w wE from Frm.ofBelow (HE.out.bel.trans (hbe.mono HE.out.bel.size)))
      obtain ⟨⟨q0, q1, q2, q3, q4, q5, q6⟩, r0, r1, r2, r3, r4, r5, r6⟩ := rb_cells HRB.out
      clear hbE hbe
      go_wp2_with fail
      clear q0 q1 q2 q3 q4 q5 q6 r0 r1 r2 r3 r4 r5 r6
      obtain ⟨W5, hW5⟩ : ∃ W5, W5 = setR wE (w.heap.size + 1) (.int .i64 5) (.slice none 0 0) (.int .i64 0) (.int .i64 0) (.int .i64 0) (.slice none 0 0) (.bool false) := ⟨_, rfl⟩
      have hr5 := setR_at0 HRB.out (.int .i64 5) (.slice none 0 0) (.int .i64 0) (.int .i64 0) (.int .i64 0) (.slice none 0 0) (.bool false)
      have hF5 := (Frm.refl (fun b => b = w.heap.size + 1) wE).setR (R := w.heap.size + 1) (.inl rfl) (.int .i64 5) (.slice none 0 0) (.int .i64 0) (.int .i64 0) (.int .i64 0) (.slice none 0 0) (.bool false)
      rw [← hW5] at hr5 hF5
      unfold setR at hW5
      rw [← hW5]
      have hfin := put_done HST.out HRB.out (Nat.le_succ _) HFR.out hF5
      exact bodyPost_ret (ret_rep rfl _ _ (w.heap.size + 1) rfl hr5) rfl (Do1.no HPE.out (by decide) hfin)
    have hn5' : ¬ (262144 : Int) < (n : Int) := by omega
    by_cases hful : 512 ≤ σ.objs.length
    case pos =>
      have hful' : (512 : Int) ≤ (σ.objs.length : Int) := by omega
      have c0 := cell_blkD HE.out.st.blk (i := 0) (u := .slice σ.oa σ.objs.length σ.oc) rfl
      have HPE := Lib.hid (show putDE σ 1 ky vr n = 9 from by unfold putDE; rw [if_neg HK1.out, if_neg (fun g => absurd g.1 (by decide)), if_neg hn5, if_pos (.inl ⟨HNO.out, hful⟩)])
      go_upto_region 14 with fail
      clear k2
      go_quiet (fail)
      rename Nat => nqW9
      have HEX := Lib.hid (HE.out.drewN nqW9)
      obtain ⟨W9, hWX⟩ : ∃ W9, W9 = W8.drewN nqW9 := ⟨_, rfl⟩
      rw [← hWX] at HEX
      rw [← hWX]
      clear HE hWX HR0 hk0 hr0 hS0
      have HE := HEX
      clear HEX
      have hz0 := HE.out.sz
      have hk0 : w.heap.size < W9.heap.size := by omega
      have hr0 : w.heap.size + 1 < W9.heap.size := by omega
      have hS0 : S < W9.heap.size := by omega
      clear hz0
      have HR0 := Lib.hid (Below.refl W9.heap.size W9)
      go_wp2_with fail
      refine (dbad_any 9 W9).mono ?_
      rintro e wE ⟨rfl, hbE⟩
      unfold repA
      have hbe := HR0.out.trans (hbE.mono HR0.out.size)
      have HRB := Lib.hid ((hbe.block (w.heap.size + 1) hr0).trans HE.out.rb)
      have HST := Lib.hid (HE.out.st.below hbe)
      have HFR := Lib.hid (show Frm (DF S σ) w wE from Frm.ofBelow (HE.out.bel.trans (hbe.mono HE.out.bel.size)))
      obtain ⟨⟨q0, q1, q2, q3, q4, q5, q6⟩, r0, r1, r2, r3, r4, r5, r6⟩ := rb_cells HRB.out
      clear hbE hbe
      go_wp2_with fail
      clear q0 q1 q2 q3 q4 q5 q6 r0 r1 r2 r3 r4 r5 r6
      obtain ⟨W5, hW5⟩ : ∃ W5, W5 = setR wE (w.heap.size + 1) (.int .i64 9) (.slice none 0 0) (.int .i64 0) (.int .i64 0) (.int .i64 0) (.slice none 0 0) (.bool false) := ⟨_, rfl⟩
      have hr5 := setR_at0 HRB.out (.int .i64 9) (.slice none 0 0) (.int .i64 0) (.int .i64 0) (.int .i64 0) (.slice none 0 0) (.bool false)
      have hF5 := (Frm.refl (fun b => b = w.heap.size + 1) wE).setR (R := w.heap.size + 1) (.inl rfl) (.int .i64 9) (.slice none 0 0) (.int .i64 0) (.int .i64 0) (.int .i64 0) (.slice none 0 0) (.bool false)
      rw [← hW5] at hr5 hF5
      unfold setR at hW5
      rw [← hW5]
      have hfin := put_done HST.out HRB.out (Nat.le_succ _) HFR.out hF5
      exact bodyPost_ret (ret_rep rfl _ _ (w.heap.size + 1) rfl hr5) rfl (Do1.no HPE.out (by decide) hfin)
    have hful' : ¬ (512 : Int) ≤ (σ.objs.length : Int) := by omega
    have HNW := Lib.hid (show atK σ.objs ky = -1 → σ.objs.length < 512 from fun _ => by omega)
    have HNF := Lib.hid (show (objD σ ky).isNone = true → 512 ≤ σ.objs.length → False from fun _ g => hful g)
    go_upto_region 14 with fail
    clear k2
    have HI14 := Lib.hid (Below.refl W8.heap.size W8).drew
    have wt1 : IntKind.i64.wrap (T : Int) = (T : Int) := IntWalk.i64_in _ (by omega)
    have wt2 : IntKind.i64.wrap ((T : Int) + (n : Int)) = (T : Int) + (n : Int) := IntWalk.i64_in _ (by omega)
    refine wp_region_chain (by kernel_rfl) (by kernel_rfl) (by kernel_rfl) [12] true (by kernel_rfl) (fun k u y => match k with
        | 0 => Below W8.heap.size W8 y
        | _ => Below W8.heap.size W8 y ∧ True) (fun y => Below W8.heap.size W8 y) (fun j_9 => match j_9 with | 0 => some (.int .i64 (-1)) | 1 => some (.bool true) | 2 => some (.bool true) | 3 => some ((.pointer (some ⟨S, 0, none⟩))) | 4 => some ((.pointer (some ⟨S, 0, none⟩))) | 5 => some ((.pointer (some ⟨S, 0, none⟩))) | 6 => some (.slice σ.oa σ.objs.length σ.oc) | 7 => some (.int .i64 (σ.objs.length : Int)) | 8 => some (.bool false) | 9 => some (.bool false) | 10 => some (.bool false) | 11 => some ((.pointer (some ⟨S, 0, none⟩))) | 12 => some (.int .i64 (T : Int)) | 13 => some (.int .i64 (0 : Int)) | 14 => some (.int .i64 (T : Int)) | 15 => some ((.pointer (some ⟨w.heap.size, 2, none⟩))) | 16 => some (.slice a n c) | 17 => some (.int .i64 (n : Int)) | 18 => some (.int .i64 ((T : Int) + (n : Int))) | 19 => some (.bool (decide ((4194304 : Int) < (T : Int) + (n : Int)))) | 20 => some (.bool (decide ((4194304 : Int) < (T : Int) + (n : Int)))) | _ => none) (by rfl) (fun u => HI14.out) (fun k u y hk9 hk hs => by
        match k, hk, hs with
        | 0, _, hs => exact hs
        | 1, _, hs => exact hs.1) ?_ ?_ ?_
    · intro i9 o ho hc9 V w9 K hR9 hdep hK
      have HR9 := Lib.hid hR9
      simp only [fill, slotOf, List.size_toArray, List.length_cons, List.length_nil, Nat.reduceAdd, List.getElem?_toArray, List.getElem?_cons_zero, List.getElem?_cons_succ, Option.bind_some, Act.put, List.setIfInBounds_toArray, List.set_cons_zero, List.set_cons_succ] at hK ⊢
      have hin9 : i9 < 21 := (Array.getElem?_eq_some_iff.1 ho).1
      have hcs : i9 = 0 ∨ i9 = 1 ∨ i9 = 2 ∨ i9 = 3 ∨ i9 = 4 ∨ i9 = 5 ∨ i9 = 6 ∨ i9 = 7 ∨ i9 = 8 ∨ i9 = 9 ∨ i9 = 10 ∨ i9 = 11 ∨ i9 = 12 ∨ i9 = 13 ∨ i9 = 14 ∨ i9 = 15 ∨ i9 = 16 ∨ i9 = 17 ∨ i9 = 18 ∨ i9 = 19 ∨ i9 = 20 := by omega
      clear hin9
      rcases hcs with rfl | rfl | rfl | rfl | rfl | rfl | rfl | rfl | rfl | rfl | rfl | rfl | rfl | rfl | rfl | rfl | rfl | rfl | rfl | rfl | rfl
      · obtain rfl := Option.some.inj ho.symm
        clear hdep ho hR9 hc9
        try simp only [fill, slotOf, List.size_toArray, List.length_cons, List.length_nil, Nat.reduceAdd, List.getElem?_toArray, List.getElem?_cons_zero, List.getElem?_cons_succ, Option.bind_some, Act.put, List.setIfInBounds_toArray, List.set_cons_zero, List.set_cons_succ] at hK ⊢
        go_simp
        exact hK (.int .i64 (-1)) rfl _ rfl
      · obtain rfl := Option.some.inj ho.symm
        have d0 : V 0 = .int .i64 (-1) := hdep ⟨0, .data⟩ (by simp) rfl _ rfl
        clear hdep ho hR9 hc9
        try simp only [fill, slotOf, List.size_toArray, List.length_cons, List.length_nil, Nat.reduceAdd, List.getElem?_toArray, List.getElem?_cons_zero, List.getElem?_cons_succ, Option.bind_some, Act.put, List.setIfInBounds_toArray, List.set_cons_zero, List.set_cons_succ] at hK ⊢
        rw [d0] at hK ⊢
        go_simp
        exact hK (.bool true) rfl _ rfl
      · obtain rfl := Option.some.inj ho.symm
        have d1 : V 1 = .bool true := hdep ⟨1, .data⟩ (by simp) rfl _ rfl
        clear hdep ho hR9 hc9
        try simp only [fill, slotOf, List.size_toArray, List.length_cons, List.length_nil, Nat.reduceAdd, List.getElem?_toArray, List.getElem?_cons_zero, List.getElem?_cons_succ, Option.bind_some, Act.put, List.setIfInBounds_toArray, List.set_cons_zero, List.set_cons_succ] at hK ⊢
        rw [d1] at hK ⊢
        go_simp
        exact hK (.bool true) rfl _ rfl
      · obtain rfl := Option.some.inj ho.symm
        have d2 : V 2 = .bool true := hdep ⟨2, .guard⟩ (by simp) rfl _ rfl
        clear hdep ho hR9 hc9
        try simp only [fill, slotOf, List.size_toArray, List.length_cons, List.length_nil, Nat.reduceAdd, List.getElem?_toArray, List.getElem?_cons_zero, List.getElem?_cons_succ, Option.bind_some, Act.put, List.setIfInBounds_toArray, List.set_cons_zero, List.set_cons_succ] at hK ⊢
        rw [d2] at hK ⊢
        go_simp
        exact hK ((.pointer (some ⟨S, 0, none⟩))) rfl _ rfl
      · obtain rfl := Option.some.inj ho.symm
        have d3 : V 3 = (.pointer (some ⟨S, 0, none⟩)) := hdep ⟨3, .data⟩ (by simp) rfl _ rfl
        have d2 : V 2 = .bool true := hdep ⟨2, .guard⟩ (by simp) rfl _ rfl
        clear hdep ho hR9 hc9
        try simp only [fill, slotOf, List.size_toArray, List.length_cons, List.length_nil, Nat.reduceAdd, List.getElem?_toArray, List.getElem?_cons_zero, List.getElem?_cons_succ, Option.bind_some, Act.put, List.setIfInBounds_toArray, List.set_cons_zero, List.set_cons_succ] at hK ⊢
        rw [d3, d2] at hK ⊢
        go_simp
        exact hK ((.pointer (some ⟨S, 0, none⟩))) rfl _ rfl
      · obtain rfl := Option.some.inj ho.symm
        have d4 : V 4 = (.pointer (some ⟨S, 0, none⟩)) := hdep ⟨4, .data⟩ (by simp) rfl _ rfl
        have d2 : V 2 = .bool true := hdep ⟨2, .guard⟩ (by simp) rfl _ rfl
        clear hdep ho hR9 hc9
        try simp only [fill, slotOf, List.size_toArray, List.length_cons, List.length_nil, Nat.reduceAdd, List.getElem?_toArray, List.getElem?_cons_zero, List.getElem?_cons_succ, Option.bind_some, Act.put, List.setIfInBounds_toArray, List.set_cons_zero, List.set_cons_succ] at hK ⊢
        rw [d4, d2] at hK ⊢
        go_simp
        exact hK ((.pointer (some ⟨S, 0, none⟩))) rfl _ rfl
      · obtain rfl := Option.some.inj ho.symm
        have d5 : V 5 = (.pointer (some ⟨S, 0, none⟩)) := hdep ⟨5, .data⟩ (by simp) rfl _ rfl
        have d2 : V 2 = .bool true := hdep ⟨2, .guard⟩ (by simp) rfl _ rfl
        have u0 := cell_blkD (HE.out.st.below HR9.out).blk (i := 0) (u := .slice σ.oa σ.objs.length σ.oc) rfl
        clear hdep ho hR9 hc9
        try simp only [fill, slotOf, List.size_toArray, List.length_cons, List.length_nil, Nat.reduceAdd, List.getElem?_toArray, List.getElem?_cons_zero, List.getElem?_cons_succ, Option.bind_some, Act.put, List.setIfInBounds_toArray, List.set_cons_zero, List.set_cons_succ] at hK ⊢
        rw [d5, d2] at hK ⊢
        go_simp
        exact hK (.slice σ.oa σ.objs.length σ.oc) rfl _ rfl
      · obtain rfl := Option.some.inj ho.symm
        have d6 : V 6 = .slice σ.oa σ.objs.length σ.oc := hdep ⟨6, .data⟩ (by simp) rfl _ rfl
        have d2 : V 2 = .bool true := hdep ⟨2, .guard⟩ (by simp) rfl _ rfl
        clear hdep ho hR9 hc9
        try simp only [fill, slotOf, List.size_toArray, List.length_cons, List.length_nil, Nat.reduceAdd, List.getElem?_toArray, List.getElem?_cons_zero, List.getElem?_cons_succ, Option.bind_some, Act.put, List.setIfInBounds_toArray, List.set_cons_zero, List.set_cons_succ] at hK ⊢
        rw [d6, d2] at hK ⊢
        go_simp
        exact hK (.int .i64 (σ.objs.length : Int)) rfl _ rfl
      · obtain rfl := Option.some.inj ho.symm
        have d7 : V 7 = .int .i64 (σ.objs.length : Int) := hdep ⟨7, .data⟩ (by simp) rfl _ rfl
        have d2 : V 2 = .bool true := hdep ⟨2, .guard⟩ (by simp) rfl _ rfl
        clear hdep ho hR9 hc9
        try simp only [fill, slotOf, List.size_toArray, List.length_cons, List.length_nil, Nat.reduceAdd, List.getElem?_toArray, List.getElem?_cons_zero, List.getElem?_cons_succ, Option.bind_some, Act.put, List.setIfInBounds_toArray, List.set_cons_zero, List.set_cons_succ] at hK ⊢
        rw [d7, d2] at hK ⊢
        go_simp
        exact hK (.bool false) rfl _ rfl
      · obtain rfl := Option.some.inj ho.symm
        have d2 : V 2 = .bool true := hdep ⟨2, .data⟩ (by simp) rfl _ rfl
        have d8 : V 8 = .bool false := hdep ⟨8, .data⟩ (by simp) rfl _ rfl
        clear hdep ho hR9 hc9
        try simp only [fill, slotOf, List.size_toArray, List.length_cons, List.length_nil, Nat.reduceAdd, List.getElem?_toArray, List.getElem?_cons_zero, List.getElem?_cons_succ, Option.bind_some, Act.put, List.setIfInBounds_toArray, List.set_cons_zero, List.set_cons_succ] at hK ⊢
        rw [d2, d8] at hK ⊢
        go_simp
        exact hK (.bool false) rfl _ rfl
      · obtain rfl := Option.some.inj ho.symm
        have d9 : V 9 = .bool false := hdep ⟨9, .data⟩ (by simp) rfl _ rfl
        clear hdep ho hR9 hc9
        try simp only [fill, slotOf, List.size_toArray, List.length_cons, List.length_nil, Nat.reduceAdd, List.getElem?_toArray, List.getElem?_cons_zero, List.getElem?_cons_succ, Option.bind_some, Act.put, List.setIfInBounds_toArray, List.set_cons_zero, List.set_cons_succ] at hK ⊢
        rw [d9] at hK ⊢
        go_simp
        exact hK (.bool false) rfl _ rfl
      · obtain rfl := Option.some.inj ho.symm
        have d10 : V 10 = .bool false := hdep ⟨10, .guard⟩ (by simp) rfl _ rfl
        clear hdep ho hR9 hc9
        try simp only [fill, slotOf, List.size_toArray, List.length_cons, List.length_nil, Nat.reduceAdd, List.getElem?_toArray, List.getElem?_cons_zero, List.getElem?_cons_succ, Option.bind_some, Act.put, List.setIfInBounds_toArray, List.set_cons_zero, List.set_cons_succ] at hK ⊢
        rw [d10] at hK ⊢
        go_simp
        exact hK ((.pointer (some ⟨S, 0, none⟩))) rfl _ rfl
      · cases hc9
      · obtain rfl := Option.some.inj ho.symm
        have d10 : V 10 = .bool false := hdep ⟨10, .guard⟩ (by simp) rfl _ rfl
        clear hdep ho hR9 hc9
        try simp only [fill, slotOf, List.size_toArray, List.length_cons, List.length_nil, Nat.reduceAdd, List.getElem?_toArray, List.getElem?_cons_zero, List.getElem?_cons_succ, Option.bind_some, Act.put, List.setIfInBounds_toArray, List.set_cons_zero, List.set_cons_succ] at hK ⊢
        rw [d10] at hK ⊢
        go_simp
        exact hK (.int .i64 (0 : Int)) rfl _ rfl
      · obtain rfl := Option.some.inj ho.symm
        have d12 : V 12 = .int .i64 (T : Int) := hdep ⟨12, .data⟩ (by simp) rfl _ rfl
        have d13 : V 13 = .int .i64 (0 : Int) := hdep ⟨13, .data⟩ (by simp) rfl _ rfl
        have d10 : V 10 = .bool false := hdep ⟨10, .guard⟩ (by simp) rfl _ rfl
        clear hdep ho hR9 hc9
        try simp only [fill, slotOf, List.size_toArray, List.length_cons, List.length_nil, Nat.reduceAdd, List.getElem?_toArray, List.getElem?_cons_zero, List.getElem?_cons_succ, Option.bind_some, Act.put, List.setIfInBounds_toArray, List.set_cons_zero, List.set_cons_succ] at hK ⊢
        rw [d12, d13, d10] at hK ⊢
        go_simp
        exact hK (.int .i64 (T : Int)) rfl _ rfl
      · obtain rfl := Option.some.inj ho.symm
        have d10 : V 10 = .bool false := hdep ⟨10, .guard⟩ (by simp) rfl _ rfl
        clear hdep ho hR9 hc9
        try simp only [fill, slotOf, List.size_toArray, List.length_cons, List.length_nil, Nat.reduceAdd, List.getElem?_toArray, List.getElem?_cons_zero, List.getElem?_cons_succ, Option.bind_some, Act.put, List.setIfInBounds_toArray, List.set_cons_zero, List.set_cons_succ] at hK ⊢
        rw [d10] at hK ⊢
        go_simp
        exact hK ((.pointer (some ⟨w.heap.size, 2, none⟩))) rfl _ rfl
      · obtain rfl := Option.some.inj ho.symm
        have d15 : V 15 = (.pointer (some ⟨w.heap.size, 2, none⟩)) := hdep ⟨15, .data⟩ (by simp) rfl _ rfl
        have d10 : V 10 = .bool false := hdep ⟨10, .guard⟩ (by simp) rfl _ rfl
        have u0 := cell_blkD (cells_of_below HR9.out HE.out.cb) (i := 2) (u := .slice a n c) rfl
        clear hdep ho hR9 hc9
        try simp only [fill, slotOf, List.size_toArray, List.length_cons, List.length_nil, Nat.reduceAdd, List.getElem?_toArray, List.getElem?_cons_zero, List.getElem?_cons_succ, Option.bind_some, Act.put, List.setIfInBounds_toArray, List.set_cons_zero, List.set_cons_succ] at hK ⊢
        rw [d15, d10] at hK ⊢
        go_simp
        exact hK (.slice a n c) rfl _ rfl
      · obtain rfl := Option.some.inj ho.symm
        have d16 : V 16 = .slice a n c := hdep ⟨16, .data⟩ (by simp) rfl _ rfl
        have d10 : V 10 = .bool false := hdep ⟨10, .guard⟩ (by simp) rfl _ rfl
        clear hdep ho hR9 hc9
        try simp only [fill, slotOf, List.size_toArray, List.length_cons, List.length_nil, Nat.reduceAdd, List.getElem?_toArray, List.getElem?_cons_zero, List.getElem?_cons_succ, Option.bind_some, Act.put, List.setIfInBounds_toArray, List.set_cons_zero, List.set_cons_succ] at hK ⊢
        rw [d16, d10] at hK ⊢
        go_simp
        exact hK (.int .i64 (n : Int)) rfl _ rfl
      · obtain rfl := Option.some.inj ho.symm
        have d14 : V 14 = .int .i64 (T : Int) := hdep ⟨14, .data⟩ (by simp) rfl _ rfl
        have d17 : V 17 = .int .i64 (n : Int) := hdep ⟨17, .data⟩ (by simp) rfl _ rfl
        have d10 : V 10 = .bool false := hdep ⟨10, .guard⟩ (by simp) rfl _ rfl
        clear hdep ho hR9 hc9
        try simp only [fill, slotOf, List.size_toArray, List.length_cons, List.length_nil, Nat.reduceAdd, List.getElem?_toArray, List.getElem?_cons_zero, List.getElem?_cons_succ, Option.bind_some, Act.put, List.setIfInBounds_toArray, List.set_cons_zero, List.set_cons_succ] at hK ⊢
        rw [d14, d17, d10] at hK ⊢
        go_simp
        exact hK (.int .i64 ((T : Int) + (n : Int))) rfl _ rfl
      · obtain rfl := Option.some.inj ho.symm
        have d18 : V 18 = .int .i64 ((T : Int) + (n : Int)) := hdep ⟨18, .data⟩ (by simp) rfl _ rfl
        have d10 : V 10 = .bool false := hdep ⟨10, .guard⟩ (by simp) rfl _ rfl
        clear hdep ho hR9 hc9
        try simp only [fill, slotOf, List.size_toArray, List.length_cons, List.length_nil, Nat.reduceAdd, List.getElem?_toArray, List.getElem?_cons_zero, List.getElem?_cons_succ, Option.bind_some, Act.put, List.setIfInBounds_toArray, List.set_cons_zero, List.set_cons_succ] at hK ⊢
        rw [d18, d10] at hK ⊢
        go_simp
        exact hK (.bool (decide ((4194304 : Int) < (T : Int) + (n : Int)))) rfl _ rfl
      · obtain rfl := Option.some.inj ho.symm
        have d10 : V 10 = .bool false := hdep ⟨10, .data⟩ (by simp) rfl _ rfl
        have d19 : V 19 = .bool (decide ((4194304 : Int) < (T : Int) + (n : Int))) := hdep ⟨19, .data⟩ (by simp) rfl _ rfl
        clear hdep ho hR9 hc9
        try simp only [fill, slotOf, List.size_toArray, List.length_cons, List.length_nil, Nat.reduceAdd, List.getElem?_toArray, List.getElem?_cons_zero, List.getElem?_cons_succ, Option.bind_some, Act.put, List.setIfInBounds_toArray, List.set_cons_zero, List.set_cons_succ] at hK ⊢
        rw [d10, d19] at hK ⊢
        go_simp
        exact hK (.bool (decide ((4194304 : Int) < (T : Int) + (n : Int)))) rfl _ rfl
    · intro i9 j9 o he9 ho V w9 K hS9 hdep hK
      simp only [fill, slotOf, List.size_toArray, List.length_cons, List.length_nil, Nat.reduceAdd, List.getElem?_toArray, List.getElem?_cons_zero, List.getElem?_cons_succ, Option.bind_some, Act.put, List.setIfInBounds_toArray, List.set_cons_zero, List.set_cons_succ] at hK ⊢
      have hin9 : i9 < 1 := (List.getElem?_eq_some_iff.1 he9).1
      have hcs : i9 = 0 := by omega
      clear hin9
      rcases hcs with rfl
      · obtain rfl := Option.some.inj he9.symm
        obtain rfl := Option.some.inj ho.symm
        have d11 : V 11 = (.pointer (some ⟨S, 0, none⟩)) := hdep ⟨11, .data⟩ (by simp) rfl _ rfl
        have d10 : V 10 = .bool false := hdep ⟨10, .guard⟩ (by simp) rfl _ rfl
        have hs : Below W8.heap.size W8 w9 := hS9
        have HSZ := Lib.hid (dsize_any (HE.out.st.below hs))
        rw [← HTT.out] at HSZ
        have HS9 := Lib.hid hs
        clear hdep ho he9 hS9 hs
        try simp only [fill, slotOf, List.size_toArray, List.length_cons, List.length_nil, Nat.reduceAdd, List.getElem?_toArray, List.getElem?_cons_zero, List.getElem?_cons_succ, Option.bind_some, Act.put, List.setIfInBounds_toArray, List.set_cons_zero, List.set_cons_succ] at hK ⊢
        rw [d11, d10] at hK ⊢
        go_simp
        refine HSZ.out.mono ?_
        rintro e w8 ⟨rfl, hb8⟩
        exact hK _ w8 ⟨HS9.out.trans (hb8.mono HS9.out.size), trivial⟩ (fun y h => Option.some.inj h) _ rfl
    · intro V w14 hS9 hv9
      have HB14 := Lib.hid (show Below W8.heap.size W8 w14 from hS9.1)
      have d20 : V 20 = .bool (decide ((4194304 : Int) < (T : Int) + (n : Int))) := hv9 20 _ (by decide) rfl
      clear hS9 hv9
      simp only [fill, slotOf, List.size_toArray, List.length_cons, List.length_nil, Nat.reduceAdd, List.getElem?_toArray, List.getElem?_cons_zero, List.getElem?_cons_succ, Option.bind_some, Act.put, List.setIfInBounds_toArray, List.set_cons_zero, List.set_cons_succ]
      rw [d20]
      clear d20
      by_cases htot : (4194304 : Int) < (T : Int) + (n : Int)
      case pos =>
        have HPE := Lib.hid (show putDE σ 1 ky vr n = 9 from by unfold putDE; rw [if_neg HK1.out, if_neg (fun g => absurd g.1 (by decide)), if_neg hn5, HDH.out, ← HTT.out]; rw [if_pos (.inr (by omega))])
        rw [decide_eq_true htot]
        go_wp2_with fail
        refine (dbad_any 9 w14).mono ?_
        rintro e wE ⟨rfl, hbE⟩
        unfold repA
        have hbe := HB14.out.trans (hbE.mono HB14.out.size)
        have HRB := Lib.hid ((hbe.block (w.heap.size + 1) hr0).trans HE.out.rb)
        have HST := Lib.hid (HE.out.st.below hbe)
        have HFR := Lib.hid (show Frm (DF S σ) w wE from Frm.ofBelow (HE.out.bel.trans (hbe.mono HE.out.bel.size)))
        obtain ⟨⟨q0, q1, q2, q3, q4, q5, q6⟩, r0, r1, r2, r3, r4, r5, r6⟩ := rb_cells HRB.out
        clear hbE hbe
        go_wp2_with fail
        clear q0 q1 q2 q3 q4 q5 q6 r0 r1 r2 r3 r4 r5 r6
        obtain ⟨W5, hW5⟩ : ∃ W5, W5 = setR wE (w.heap.size + 1) (.int .i64 9) (.slice none 0 0) (.int .i64 0) (.int .i64 0) (.int .i64 0) (.slice none 0 0) (.bool false) := ⟨_, rfl⟩
        have hr5 := setR_at0 HRB.out (.int .i64 9) (.slice none 0 0) (.int .i64 0) (.int .i64 0) (.int .i64 0) (.slice none 0 0) (.bool false)
        have hF5 := (Frm.refl (fun b => b = w.heap.size + 1) wE).setR (R := w.heap.size + 1) (.inl rfl) (.int .i64 9) (.slice none 0 0) (.int .i64 0) (.int .i64 0) (.int .i64 0) (.slice none 0 0) (.bool false)
        rw [← hW5] at hr5 hF5
        unfold setR at hW5
        rw [← hW5]
        have hfin := put_done HST.out HRB.out (Nat.le_succ _) HFR.out hF5
        exact bodyPost_ret (ret_rep rfl _ _ (w.heap.size + 1) rfl hr5) rfl (Do1.no HPE.out (by decide) hfin)
      case neg =>
        have HPE := Lib.hid (show putDE σ 1 ky vr n = 0 from by unfold putDE; rw [if_neg HK1.out, if_neg (fun g => absurd g.1 (by decide)), if_neg hn5, HDH.out, ← HTT.out]; rw [if_neg (by rintro (⟨g1, g2⟩ | g1); exact HNF.out g1 g2; omega)])
        rw [decide_eq_false htot]
        have hB0 := HE.out.bel.trans (HB14.out.mono HE.out.bel.size)
        have k1 := cell_blkD (cells_of_below HB14.out HE.out.cb) (i := 1) (u := .string ky) rfl
        have k2 := cell_blkD (cells_of_below HB14.out HE.out.cb) (i := 2) (u := .slice a n c) rfl
        have HPT := Lib.hid (dput_any (HE.out.st.below HB14.out) ky (hx.kept hB0) hver (Nat.le_trans hbs hB0.size) (by omega) HNW.out)
        have HFD := Lib.hid (show Frm (DF S σ) w w14 from Frm.ofBelow hB0)
        have HRD := Lib.hid (cells_of_below HB14.out HE.out.rb)
        have HSD := Lib.hid (HE.out.st.below HB14.out)
        clear hB0
        go_wp2_with fail
        refine HPT.out.mono ?_
        rintro e wp ⟨rfl, oa', oc', da', dc', hst, hfr, hfb⟩
        have hfr2 : Frm (DF S σ) w14 wp := hfr.imp (fun b hb => hb.elim .inl (fun g => .inr (.inl g)))
        have HST := Lib.hid hst
        have HFR := Lib.hid (HFD.out.trans hfr2 (fun b hb => .inl hb))
        have HRB := Lib.hid (rb_kept HSD.out HRD.out hfr2)
        obtain ⟨⟨q0, q1, q2, q3, q4, q5, q6⟩, r0, r1, r2, r3, r4, r5, r6⟩ := rb_cells HRB.out
        clear hst hfr hfr2 k1 k2
        unfold rep
        go_wp2_with fail
        clear q0 q1 q2 q3 q4 q5 q6 r0 r1 r2 r3 r4 r5 r6
        obtain ⟨W5, hW5⟩ : ∃ W5, W5 = setR wp (w.heap.size + 1) (.int .i64 0) (.slice none 0 0) (.int .i64 (σ.ver + 1)) (.int .i64 σ.now) (.int .i64 0) (.slice none 0 0) (.bool false) := ⟨_, rfl⟩
        have hr5 := setR_at0 HRB.out (.int .i64 0) (.slice none 0 0) (.int .i64 (σ.ver + 1)) (.int .i64 σ.now) (.int .i64 0) (.slice none 0 0) (.bool false)
        have hF5 := (Frm.refl (fun b => b = w.heap.size + 1) wp).setR (R := w.heap.size + 1) (.inl rfl) (.int .i64 0) (.slice none 0 0) (.int .i64 (σ.ver + 1)) (.int .i64 σ.now) (.int .i64 0) (.slice none 0 0) (.bool false)
        rw [← hW5] at hr5 hF5
        unfold setR at hW5
        rw [← hW5]
        have hfin := put_done HST.out HRB.out (Nat.le_succ _) HFR.out hF5
        exact bodyPost_ret (ret_rep rfl _ _ (w.heap.size + 1) rfl hr5) rfl ⟨fun e0 => absurd HPE.out e0, fun _ => ⟨rfl, ⟨oa', oc', da', dc', hfin.1, fun b hb => Nat.le_trans HFD.out.size (hfb b hb)⟩, hfin.2⟩⟩
  · have hai := HAI.out
    rw [ho1] at hai
    clear HAI
    subst hai
    have HAT1 := Lib.hid ho1
    obtain ⟨o, hu, _, hul⟩ := find_at ho2
    have HU := Lib.hid hu
    have zjo : ¬ (jo : Int) < 0 := by omega
    have zjo0 : (0 : Int) ≤ (jo : Int) := by omega
    have HOD := Lib.hid (show objD σ ky = some o from by unfold objD; rw [ho2]; exact hu)
    have HDV := Lib.hid (show dVer σ ky = o.ver from by unfold dVer; rw [HOD.out])
    have HDH := Lib.hid (show (dHad σ ky : Int) = ((o.dn : Nat) : Int) from by unfold dHad; rw [HOD.out])
    have hyv := hver1 o (List.mem_of_getElem? hu)
    have hysm := (HE.out.st.obj o (List.mem_of_getElem? hu)).small
    have HV0 := Lib.hid HE.out.st.objs
    obtain ⟨gb, off, hga, hgl, _, hgc⟩ := HV0.out.get hul
    have hgd : σ.objs.getD jo DObjS.z = o := by rw [List.getD_eq_getElem?_getD, HU.out]; rfl
    rw [hgd] at hgc
    obtain ⟨yk, ya, yn, yc, yd, yv, yb⟩ := o
    have v1 : W1.cell? ⟨gb, off + jo * 4 + 1, none⟩ = some (.slice ya yn yc) := hgc 1 _ rfl
    have v2 : W1.cell? ⟨gb, off + jo * 4 + 2, none⟩ = some (.int .i64 yv) := hgc 2 _ rfl
    have c0 := cell_blkD HE.out.st.blk (i := 0) (u := .slice σ.oa σ.objs.length σ.oc) rfl
    rw [hga] at c0
    have zi : (jo : Int) < (σ.objs.length : Int) := by omega
    have hyv : 1 ≤ yv := hyv
    have hysm : yn ≤ 262144 := hysm
    have HDV := Lib.hid (show dVer σ ky = yv from HDV.out)
    have HDH := Lib.hid (show (dHad σ ky : Int) = ((yn : Nat) : Int) from HDH.out)
    clear hu ho1 ho2 hgc hgd hga hgl
    go_upto_region 10 with fail
    go_quiet (fail)
    rename Nat => nqW8
    clear k0 k3 k1 c0 v1 v2
    have HEX := Lib.hid (HE.out.drewN nqW8)
    obtain ⟨W8, hWX⟩ : ∃ W8, W8 = W1.drewN nqW8 := ⟨_, rfl⟩
    rw [← hWX] at HEX
    rw [← hWX]
    clear HE hWX HR0 hk0 hr0 hS0
    have HE := HEX
    clear HEX
    have hz0 := HE.out.sz
    have hk0 : w.heap.size < W8.heap.size := by omega
    have hr0 : w.heap.size + 1 < W8.heap.size := by omega
    have hS0 : S < W8.heap.size := by omega
    clear hz0
    have HR0 := Lib.hid (Below.refl W8.heap.size W8)
    have k2 := cell_blkD HE.out.cb (i := 2) (u := .slice a n c) rfl
    by_cases hn5 : 262144 < n
    case pos =>
      have hn5' : (262144 : Int) < (n : Int) := by omega
      have HPE := Lib.hid (show putDE σ 1 ky vr n = 5 from by unfold putDE; rw [if_neg HK1.out, if_neg (fun g => absurd g.1 (by decide)), if_pos hn5])
      go_wp2_with fail
      refine (dbad_any 5 W8).mono ?_
      rintro e wE ⟨rfl, hbE⟩
      unfold repA
      have hbe := HR0.out.trans (hbE.mono HR0.out.size)
      have HRB := Lib.hid ((hbe.block (w.heap.size + 1) hr0).trans HE.out.rb)
      have HST := Lib.hid (HE.out.st.below hbe)
      have HFR := Lib.hid (show Frm (DF S σ) w wE from Frm.ofBelow (HE.out.bel.trans (hbe.mono HE.out.bel.size)))
      obtain ⟨⟨q0, q1, q2, q3, q4, q5, q6⟩, r0, r1, r2, r3, r4, r5, r6⟩ := rb_cells HRB.out
      clear hbE hbe
      go_wp2_with fail
      clear q0 q1 q2 q3 q4 q5 q6 r0 r1 r2 r3 r4 r5 r6
      obtain ⟨W5, hW5⟩ : ∃ W5, W5 = setR wE (w.heap.size + 1) (.int .i64 5) (.slice none 0 0) (.int .i64 0) (.int .i64 0) (.int .i64 0) (.slice none 0 0) (.bool false) := ⟨_, rfl⟩
      have hr5 := setR_at0 HRB.out (.int .i64 5) (.slice none 0 0) (.int .i64 0) (.int .i64 0) (.int .i64 0) (.slice none 0 0) (.bool false)
      have hF5 := (Frm.refl (fun b => b = w.heap.size + 1) wE).setR (R := w.heap.size + 1) (.inl rfl) (.int .i64 5) (.slice none 0 0) (.int .i64 0) (.int .i64 0) (.int .i64 0) (.slice none 0 0) (.bool false)
      rw [← hW5] at hr5 hF5
      unfold setR at hW5
      rw [← hW5]
      have hfin := put_done HST.out HRB.out (Nat.le_succ _) HFR.out hF5
      exact bodyPost_ret (ret_rep rfl _ _ (w.heap.size + 1) rfl hr5) rfl (Do1.no HPE.out (by decide) hfin)
    have hn5' : ¬ (262144 : Int) < (n : Int) := by omega
    have HNW := Lib.hid (show atK σ.objs ky = -1 → σ.objs.length < 512 from fun g => by rw [HAT1.out] at g; omega)
    have HNF := Lib.hid (show (objD σ ky).isNone = true → 512 ≤ σ.objs.length → False from fun g _ => by rw [HOD.out] at g; cases g)
    go_upto_region 14 with fail
    clear k2
    have HI14 := Lib.hid (Below.refl W8.heap.size W8).drew
    have wt1 : IntKind.i64.wrap ((T : Int) - ((yn : Nat) : Int)) = ((T : Int) - ((yn : Nat) : Int)) := IntWalk.i64_in _ (by omega)
    have wt2 : IntKind.i64.wrap (((T : Int) - ((yn : Nat) : Int)) + (n : Int)) = ((T : Int) - ((yn : Nat) : Int)) + (n : Int) := IntWalk.i64_in _ (by omega)
    refine wp_region_chain (by kernel_rfl) (by kernel_rfl) (by kernel_rfl) [12] true (by kernel_rfl) (fun k u y => match k with
        | 0 => Below W8.heap.size W8 y
        | _ => Below W8.heap.size W8 y ∧ True) (fun y => Below W8.heap.size W8 y) (fun j_9 => match j_9 with | 0 => some (.int .i64 (jo : Int)) | 1 => some (.bool false) | 2 => some (.bool false) | 3 => some (undef) | 4 => some (undef) | 5 => some (undef) | 6 => some (undef) | 7 => some (undef) | 8 => some (undef) | 9 => some (.bool false) | 10 => some (.bool false) | 11 => some ((.pointer (some ⟨S, 0, none⟩))) | 12 => some (.int .i64 (T : Int)) | 13 => some (.int .i64 ((yn : Nat) : Int)) | 14 => some (.int .i64 ((T : Int) - ((yn : Nat) : Int))) | 15 => some ((.pointer (some ⟨w.heap.size, 2, none⟩))) | 16 => some (.slice a n c) | 17 => some (.int .i64 (n : Int)) | 18 => some (.int .i64 (((T : Int) - ((yn : Nat) : Int)) + (n : Int))) | 19 => some (.bool (decide ((4194304 : Int) < ((T : Int) - ((yn : Nat) : Int)) + (n : Int)))) | 20 => some (.bool (decide ((4194304 : Int) < ((T : Int) - ((yn : Nat) : Int)) + (n : Int)))) | _ => none) (by rfl) (fun u => HI14.out) (fun k u y hk9 hk hs => by
        match k, hk, hs with
        | 0, _, hs => exact hs
        | 1, _, hs => exact hs.1) ?_ ?_ ?_
    · intro i9 o ho hc9 V w9 K hR9 hdep hK
      have HR9 := Lib.hid hR9
      simp only [fill, slotOf, List.size_toArray, List.length_cons, List.length_nil, Nat.reduceAdd, List.getElem?_toArray, List.getElem?_cons_zero, List.getElem?_cons_succ, Option.bind_some, Act.put, List.setIfInBounds_toArray, List.set_cons_zero, List.set_cons_succ] at hK ⊢
      have hin9 : i9 < 21 := (Array.getElem?_eq_some_iff.1 ho).1
      have hcs : i9 = 0 ∨ i9 = 1 ∨ i9 = 2 ∨ i9 = 3 ∨ i9 = 4 ∨ i9 = 5 ∨ i9 = 6 ∨ i9 = 7 ∨ i9 = 8 ∨ i9 = 9 ∨ i9 = 10 ∨ i9 = 11 ∨ i9 = 12 ∨ i9 = 13 ∨ i9 = 14 ∨ i9 = 15 ∨ i9 = 16 ∨ i9 = 17 ∨ i9 = 18 ∨ i9 = 19 ∨ i9 = 20 := by omega
      clear hin9
      rcases hcs with rfl | rfl | rfl | rfl | rfl | rfl | rfl | rfl | rfl | rfl | rfl | rfl | rfl | rfl | rfl | rfl | rfl | rfl | rfl | rfl | rfl
      · obtain rfl := Option.some.inj ho.symm
        clear hdep ho hR9 hc9
        try simp only [fill, slotOf, List.size_toArray, List.length_cons, List.length_nil, Nat.reduceAdd, List.getElem?_toArray, List.getElem?_cons_zero, List.getElem?_cons_succ, Option.bind_some, Act.put, List.setIfInBounds_toArray, List.set_cons_zero, List.set_cons_succ] at hK ⊢
        go_simp
        exact hK (.int .i64 (jo : Int)) rfl _ rfl
      · obtain rfl := Option.some.inj ho.symm
        have d0 : V 0 = .int .i64 (jo : Int) := hdep ⟨0, .data⟩ (by simp) rfl _ rfl
        clear hdep ho hR9 hc9
        try simp only [fill, slotOf, List.size_toArray, List.length_cons, List.length_nil, Nat.reduceAdd, List.getElem?_toArray, List.getElem?_cons_zero, List.getElem?_cons_succ, Option.bind_some, Act.put, List.setIfInBounds_toArray, List.set_cons_zero, List.set_cons_succ] at hK ⊢
        rw [d0] at hK ⊢
        go_simp
        exact hK (.bool false) rfl _ rfl
      · obtain rfl := Option.some.inj ho.symm
        have d1 : V 1 = .bool false := hdep ⟨1, .data⟩ (by simp) rfl _ rfl
        clear hdep ho hR9 hc9
        try simp only [fill, slotOf, List.size_toArray, List.length_cons, List.length_nil, Nat.reduceAdd, List.getElem?_toArray, List.getElem?_cons_zero, List.getElem?_cons_succ, Option.bind_some, Act.put, List.setIfInBounds_toArray, List.set_cons_zero, List.set_cons_succ] at hK ⊢
        rw [d1] at hK ⊢
        go_simp
        exact hK (.bool false) rfl _ rfl
      · obtain rfl := Option.some.inj ho.symm
        have d2 : V 2 = .bool false := hdep ⟨2, .guard⟩ (by simp) rfl _ rfl
        clear hdep ho hR9 hc9
        try simp only [fill, slotOf, List.size_toArray, List.length_cons, List.length_nil, Nat.reduceAdd, List.getElem?_toArray, List.getElem?_cons_zero, List.getElem?_cons_succ, Option.bind_some, Act.put, List.setIfInBounds_toArray, List.set_cons_zero, List.set_cons_succ] at hK ⊢
        rw [d2] at hK ⊢
        go_simp
        exact hK (undef) rfl _ rfl
      · obtain rfl := Option.some.inj ho.symm
        have d3 : V 3 = undef := hdep ⟨3, .data⟩ (by simp) rfl _ rfl
        have d2 : V 2 = .bool false := hdep ⟨2, .guard⟩ (by simp) rfl _ rfl
        clear hdep ho hR9 hc9
        try simp only [fill, slotOf, List.size_toArray, List.length_cons, List.length_nil, Nat.reduceAdd, List.getElem?_toArray, List.getElem?_cons_zero, List.getElem?_cons_succ, Option.bind_some, Act.put, List.setIfInBounds_toArray, List.set_cons_zero, List.set_cons_succ] at hK ⊢
        rw [d3, d2] at hK ⊢
        go_simp
        exact hK (undef) rfl _ rfl
      · obtain rfl := Option.some.inj ho.symm
        have d4 : V 4 = undef := hdep ⟨4, .data⟩ (by simp) rfl _ rfl
        have d2 : V 2 = .bool false := hdep ⟨2, .guard⟩ (by simp) rfl _ rfl
        clear hdep ho hR9 hc9
        try simp only [fill, slotOf, List.size_toArray, List.length_cons, List.length_nil, Nat.reduceAdd, List.getElem?_toArray, List.getElem?_cons_zero, List.getElem?_cons_succ, Option.bind_some, Act.put, List.setIfInBounds_toArray, List.set_cons_zero, List.set_cons_succ] at hK ⊢
        rw [d4, d2] at hK ⊢
        go_simp
        exact hK (undef) rfl _ rfl
      · obtain rfl := Option.some.inj ho.symm
        have d5 : V 5 = undef := hdep ⟨5, .data⟩ (by simp) rfl _ rfl
        have d2 : V 2 = .bool false := hdep ⟨2, .guard⟩ (by simp) rfl _ rfl
        clear hdep ho hR9 hc9
        try simp only [fill, slotOf, List.size_toArray, List.length_cons, List.length_nil, Nat.reduceAdd, List.getElem?_toArray, List.getElem?_cons_zero, List.getElem?_cons_succ, Option.bind_some, Act.put, List.setIfInBounds_toArray, List.set_cons_zero, List.set_cons_succ] at hK ⊢
        rw [d5, d2] at hK ⊢
        go_simp
        exact hK (undef) rfl _ rfl
      · obtain rfl := Option.some.inj ho.symm
        have d6 : V 6 = undef := hdep ⟨6, .data⟩ (by simp) rfl _ rfl
        have d2 : V 2 = .bool false := hdep ⟨2, .guard⟩ (by simp) rfl _ rfl
        clear hdep ho hR9 hc9
        try simp only [fill, slotOf, List.size_toArray, List.length_cons, List.length_nil, Nat.reduceAdd, List.getElem?_toArray, List.getElem?_cons_zero, List.getElem?_cons_succ, Option.bind_some, Act.put, List.setIfInBounds_toArray, List.set_cons_zero, List.set_cons_succ] at hK ⊢
        rw [d6, d2] at hK ⊢
        go_simp
        exact hK (undef) rfl _ rfl
      · obtain rfl := Option.some.inj ho.symm
        have d7 : V 7 = undef := hdep ⟨7, .data⟩ (by simp) rfl _ rfl
        have d2 : V 2 = .bool false := hdep ⟨2, .guard⟩ (by simp) rfl _ rfl
        clear hdep ho hR9 hc9
        try simp only [fill, slotOf, List.size_toArray, List.length_cons, List.length_nil, Nat.reduceAdd, List.getElem?_toArray, List.getElem?_cons_zero, List.getElem?_cons_succ, Option.bind_some, Act.put, List.setIfInBounds_toArray, List.set_cons_zero, List.set_cons_succ] at hK ⊢
        rw [d7, d2] at hK ⊢
        go_simp
        exact hK (undef) rfl _ rfl
      · obtain rfl := Option.some.inj ho.symm
        have d2 : V 2 = .bool false := hdep ⟨2, .data⟩ (by simp) rfl _ rfl
        have d8 : V 8 = undef := hdep ⟨8, .data⟩ (by simp) rfl _ rfl
        clear hdep ho hR9 hc9
        try simp only [fill, slotOf, List.size_toArray, List.length_cons, List.length_nil, Nat.reduceAdd, List.getElem?_toArray, List.getElem?_cons_zero, List.getElem?_cons_succ, Option.bind_some, Act.put, List.setIfInBounds_toArray, List.set_cons_zero, List.set_cons_succ] at hK ⊢
        rw [d2, d8] at hK ⊢
        go_simp
        exact hK (.bool false) rfl _ rfl
      · obtain rfl := Option.some.inj ho.symm
        have d9 : V 9 = .bool false := hdep ⟨9, .data⟩ (by simp) rfl _ rfl
        clear hdep ho hR9 hc9
        try simp only [fill, slotOf, List.size_toArray, List.length_cons, List.length_nil, Nat.reduceAdd, List.getElem?_toArray, List.getElem?_cons_zero, List.getElem?_cons_succ, Option.bind_some, Act.put, List.setIfInBounds_toArray, List.set_cons_zero, List.set_cons_succ] at hK ⊢
        rw [d9] at hK ⊢
        go_simp
        exact hK (.bool false) rfl _ rfl
      · obtain rfl := Option.some.inj ho.symm
        have d10 : V 10 = .bool false := hdep ⟨10, .guard⟩ (by simp) rfl _ rfl
        clear hdep ho hR9 hc9
        try simp only [fill, slotOf, List.size_toArray, List.length_cons, List.length_nil, Nat.reduceAdd, List.getElem?_toArray, List.getElem?_cons_zero, List.getElem?_cons_succ, Option.bind_some, Act.put, List.setIfInBounds_toArray, List.set_cons_zero, List.set_cons_succ] at hK ⊢
        rw [d10] at hK ⊢
        go_simp
        exact hK ((.pointer (some ⟨S, 0, none⟩))) rfl _ rfl
      · cases hc9
      · obtain rfl := Option.some.inj ho.symm
        have d10 : V 10 = .bool false := hdep ⟨10, .guard⟩ (by simp) rfl _ rfl
        clear hdep ho hR9 hc9
        try simp only [fill, slotOf, List.size_toArray, List.length_cons, List.length_nil, Nat.reduceAdd, List.getElem?_toArray, List.getElem?_cons_zero, List.getElem?_cons_succ, Option.bind_some, Act.put, List.setIfInBounds_toArray, List.set_cons_zero, List.set_cons_succ] at hK ⊢
        rw [d10] at hK ⊢
        go_simp
        exact hK (.int .i64 ((yn : Nat) : Int)) rfl _ rfl
      · obtain rfl := Option.some.inj ho.symm
        have d12 : V 12 = .int .i64 (T : Int) := hdep ⟨12, .data⟩ (by simp) rfl _ rfl
        have d13 : V 13 = .int .i64 ((yn : Nat) : Int) := hdep ⟨13, .data⟩ (by simp) rfl _ rfl
        have d10 : V 10 = .bool false := hdep ⟨10, .guard⟩ (by simp) rfl _ rfl
        clear hdep ho hR9 hc9
        try simp only [fill, slotOf, List.size_toArray, List.length_cons, List.length_nil, Nat.reduceAdd, List.getElem?_toArray, List.getElem?_cons_zero, List.getElem?_cons_succ, Option.bind_some, Act.put, List.setIfInBounds_toArray, List.set_cons_zero, List.set_cons_succ] at hK ⊢
        rw [d12, d13, d10] at hK ⊢
        go_simp
        exact hK (.int .i64 ((T : Int) - ((yn : Nat) : Int))) rfl _ rfl
      · obtain rfl := Option.some.inj ho.symm
        have d10 : V 10 = .bool false := hdep ⟨10, .guard⟩ (by simp) rfl _ rfl
        clear hdep ho hR9 hc9
        try simp only [fill, slotOf, List.size_toArray, List.length_cons, List.length_nil, Nat.reduceAdd, List.getElem?_toArray, List.getElem?_cons_zero, List.getElem?_cons_succ, Option.bind_some, Act.put, List.setIfInBounds_toArray, List.set_cons_zero, List.set_cons_succ] at hK ⊢
        rw [d10] at hK ⊢
        go_simp
        exact hK ((.pointer (some ⟨w.heap.size, 2, none⟩))) rfl _ rfl
      · obtain rfl := Option.some.inj ho.symm
        have d15 : V 15 = (.pointer (some ⟨w.heap.size, 2, none⟩)) := hdep ⟨15, .data⟩ (by simp) rfl _ rfl
        have d10 : V 10 = .bool false := hdep ⟨10, .guard⟩ (by simp) rfl _ rfl
        have u0 := cell_blkD (cells_of_below HR9.out HE.out.cb) (i := 2) (u := .slice a n c) rfl
        clear hdep ho hR9 hc9
        try simp only [fill, slotOf, List.size_toArray, List.length_cons, List.length_nil, Nat.reduceAdd, List.getElem?_toArray, List.getElem?_cons_zero, List.getElem?_cons_succ, Option.bind_some, Act.put, List.setIfInBounds_toArray, List.set_cons_zero, List.set_cons_succ] at hK ⊢
        rw [d15, d10] at hK ⊢
        go_simp
        exact hK (.slice a n c) rfl _ rfl
      · obtain rfl := Option.some.inj ho.symm
        have d16 : V 16 = .slice a n c := hdep ⟨16, .data⟩ (by simp) rfl _ rfl
        have d10 : V 10 = .bool false := hdep ⟨10, .guard⟩ (by simp) rfl _ rfl
        clear hdep ho hR9 hc9
        try simp only [fill, slotOf, List.size_toArray, List.length_cons, List.length_nil, Nat.reduceAdd, List.getElem?_toArray, List.getElem?_cons_zero, List.getElem?_cons_succ, Option.bind_some, Act.put, List.setIfInBounds_toArray, List.set_cons_zero, List.set_cons_succ] at hK ⊢
        rw [d16, d10] at hK ⊢
        go_simp
        exact hK (.int .i64 (n : Int)) rfl _ rfl
      · obtain rfl := Option.some.inj ho.symm
        have d14 : V 14 = .int .i64 ((T : Int) - ((yn : Nat) : Int)) := hdep ⟨14, .data⟩ (by simp) rfl _ rfl
        have d17 : V 17 = .int .i64 (n : Int) := hdep ⟨17, .data⟩ (by simp) rfl _ rfl
        have d10 : V 10 = .bool false := hdep ⟨10, .guard⟩ (by simp) rfl _ rfl
        clear hdep ho hR9 hc9
        try simp only [fill, slotOf, List.size_toArray, List.length_cons, List.length_nil, Nat.reduceAdd, List.getElem?_toArray, List.getElem?_cons_zero, List.getElem?_cons_succ, Option.bind_some, Act.put, List.setIfInBounds_toArray, List.set_cons_zero, List.set_cons_succ] at hK ⊢
        rw [d14, d17, d10] at hK ⊢
        go_simp
        exact hK (.int .i64 (((T : Int) - ((yn : Nat) : Int)) + (n : Int))) rfl _ rfl
      · obtain rfl := Option.some.inj ho.symm
        have d18 : V 18 = .int .i64 (((T : Int) - ((yn : Nat) : Int)) + (n : Int)) := hdep ⟨18, .data⟩ (by simp) rfl _ rfl
        have d10 : V 10 = .bool false := hdep ⟨10, .guard⟩ (by simp) rfl _ rfl
        clear hdep ho hR9 hc9
        try simp only [fill, slotOf, List.size_toArray, List.length_cons, List.length_nil, Nat.reduceAdd, List.getElem?_toArray, List.getElem?_cons_zero, List.getElem?_cons_succ, Option.bind_some, Act.put, List.setIfInBounds_toArray, List.set_cons_zero, List.set_cons_succ] at hK ⊢
        rw [d18, d10] at hK ⊢
        go_simp
        exact hK (.bool (decide ((4194304 : Int) < ((T : Int) - ((yn : Nat) : Int)) + (n : Int)))) rfl _ rfl
      · obtain rfl := Option.some.inj ho.symm
        have d10 : V 10 = .bool false := hdep ⟨10, .data⟩ (by simp) rfl _ rfl
        have d19 : V 19 = .bool (decide ((4194304 : Int) < ((T : Int) - ((yn : Nat) : Int)) + (n : Int))) := hdep ⟨19, .data⟩ (by simp) rfl _ rfl
        clear hdep ho hR9 hc9
        try simp only [fill, slotOf, List.size_toArray, List.length_cons, List.length_nil, Nat.reduceAdd, List.getElem?_toArray, List.getElem?_cons_zero, List.getElem?_cons_succ, Option.bind_some, Act.put, List.setIfInBounds_toArray, List.set_cons_zero, List.set_cons_succ] at hK ⊢
        rw [d10, d19] at hK ⊢
        go_simp
        exact hK (.bool (decide ((4194304 : Int) < ((T : Int) - ((yn : Nat) : Int)) + (n : Int)))) rfl _ rfl
    · intro i9 j9 o he9 ho V w9 K hS9 hdep hK
      simp only [fill, slotOf, List.size_toArray, List.length_cons, List.length_nil, Nat.reduceAdd, List.getElem?_toArray, List.getElem?_cons_zero, List.getElem?_cons_succ, Option.bind_some, Act.put, List.setIfInBounds_toArray, List.set_cons_zero, List.set_cons_succ] at hK ⊢
      have hin9 : i9 < 1 := (List.getElem?_eq_some_iff.1 he9).1
      have hcs : i9 = 0 := by omega
      clear hin9
      rcases hcs with rfl
      · obtain rfl := Option.some.inj he9.symm
        obtain rfl := Option.some.inj ho.symm
        have d11 : V 11 = (.pointer (some ⟨S, 0, none⟩)) := hdep ⟨11, .data⟩ (by simp) rfl _ rfl
        have d10 : V 10 = .bool false := hdep ⟨10, .guard⟩ (by simp) rfl _ rfl
        have hs : Below W8.heap.size W8 w9 := hS9
        have HSZ := Lib.hid (dsize_any (HE.out.st.below hs))
        rw [← HTT.out] at HSZ
        have HS9 := Lib.hid hs
        clear hdep ho he9 hS9 hs
        try simp only [fill, slotOf, List.size_toArray, List.length_cons, List.length_nil, Nat.reduceAdd, List.getElem?_toArray, List.getElem?_cons_zero, List.getElem?_cons_succ, Option.bind_some, Act.put, List.setIfInBounds_toArray, List.set_cons_zero, List.set_cons_succ] at hK ⊢
        rw [d11, d10] at hK ⊢
        go_simp
        refine HSZ.out.mono ?_
        rintro e w8 ⟨rfl, hb8⟩
        exact hK _ w8 ⟨HS9.out.trans (hb8.mono HS9.out.size), trivial⟩ (fun y h => Option.some.inj h) _ rfl
    · intro V w14 hS9 hv9
      have HB14 := Lib.hid (show Below W8.heap.size W8 w14 from hS9.1)
      have d20 : V 20 = .bool (decide ((4194304 : Int) < ((T : Int) - ((yn : Nat) : Int)) + (n : Int))) := hv9 20 _ (by decide) rfl
      clear hS9 hv9
      simp only [fill, slotOf, List.size_toArray, List.length_cons, List.length_nil, Nat.reduceAdd, List.getElem?_toArray, List.getElem?_cons_zero, List.getElem?_cons_succ, Option.bind_some, Act.put, List.setIfInBounds_toArray, List.set_cons_zero, List.set_cons_succ]
      rw [d20]
      clear d20
      by_cases htot : (4194304 : Int) < ((T : Int) - ((yn : Nat) : Int)) + (n : Int)
      case pos =>
        have HPE := Lib.hid (show putDE σ 1 ky vr n = 9 from by unfold putDE; rw [if_neg HK1.out, if_neg (fun g => absurd g.1 (by decide)), if_neg hn5, HDH.out, ← HTT.out]; rw [if_pos (.inr (by omega))])
        rw [decide_eq_true htot]
        go_wp2_with fail
        refine (dbad_any 9 w14).mono ?_
        rintro e wE ⟨rfl, hbE⟩
        unfold repA
        have hbe := HB14.out.trans (hbE.mono HB14.out.size)
        have HRB := Lib.hid ((hbe.block (w.heap.size + 1) hr0).trans HE.out.rb)
        have HST := Lib.hid (HE.out.st.below hbe)
        have HFR := Lib.hid (show Frm (DF S σ) w wE from Frm.ofBelow (HE.out.bel.trans (hbe.mono HE.out.bel.size)))
        obtain ⟨⟨q0, q1, q2, q3, q4, q5, q6⟩, r0, r1, r2, r3, r4, r5, r6⟩ := rb_cells HRB.out
        clear hbE hbe
        go_wp2_with fail
        clear q0 q1 q2 q3 q4 q5 q6 r0 r1 r2 r3 r4 r5 r6
        obtain ⟨W5, hW5⟩ : ∃ W5, W5 = setR wE (w.heap.size + 1) (.int .i64 9) (.slice none 0 0) (.int .i64 0) (.int .i64 0) (.int .i64 0) (.slice none 0 0) (.bool false) := ⟨_, rfl⟩
        have hr5 := setR_at0 HRB.out (.int .i64 9) (.slice none 0 0) (.int .i64 0) (.int .i64 0) (.int .i64 0) (.slice none 0 0) (.bool false)
        have hF5 := (Frm.refl (fun b => b = w.heap.size + 1) wE).setR (R := w.heap.size + 1) (.inl rfl) (.int .i64 9) (.slice none 0 0) (.int .i64 0) (.int .i64 0) (.int .i64 0) (.slice none 0 0) (.bool false)
        rw [← hW5] at hr5 hF5
        unfold setR at hW5
        rw [← hW5]
        have hfin := put_done HST.out HRB.out (Nat.le_succ _) HFR.out hF5
        exact bodyPost_ret (ret_rep rfl _ _ (w.heap.size + 1) rfl hr5) rfl (Do1.no HPE.out (by decide) hfin)
      case neg =>
        have HPE := Lib.hid (show putDE σ 1 ky vr n = 0 from by unfold putDE; rw [if_neg HK1.out, if_neg (fun g => absurd g.1 (by decide)), if_neg hn5, HDH.out, ← HTT.out]; rw [if_neg (by rintro (⟨g1, g2⟩ | g1); exact HNF.out g1 g2; omega)])
        rw [decide_eq_false htot]
        have hB0 := HE.out.bel.trans (HB14.out.mono HE.out.bel.size)
        have k1 := cell_blkD (cells_of_below HB14.out HE.out.cb) (i := 1) (u := .string ky) rfl
        have k2 := cell_blkD (cells_of_below HB14.out HE.out.cb) (i := 2) (u := .slice a n c) rfl
        have HPT := Lib.hid (dput_any (HE.out.st.below HB14.out) ky (hx.kept hB0) hver (Nat.le_trans hbs hB0.size) (by omega) HNW.out)
        have HFD := Lib.hid (show Frm (DF S σ) w w14 from Frm.ofBelow hB0)
        have HRD := Lib.hid (cells_of_below HB14.out HE.out.rb)
        have HSD := Lib.hid (HE.out.st.below HB14.out)
        clear hB0
        go_wp2_with fail
        refine HPT.out.mono ?_
        rintro e wp ⟨rfl, oa', oc', da', dc', hst, hfr, hfb⟩
        have hfr2 : Frm (DF S σ) w14 wp := hfr.imp (fun b hb => hb.elim .inl (fun g => .inr (.inl g)))
        have HST := Lib.hid hst
        have HFR := Lib.hid (HFD.out.trans hfr2 (fun b hb => .inl hb))
        have HRB := Lib.hid (rb_kept HSD.out HRD.out hfr2)
        obtain ⟨⟨q0, q1, q2, q3, q4, q5, q6⟩, r0, r1, r2, r3, r4, r5, r6⟩ := rb_cells HRB.out
        clear hst hfr hfr2 k1 k2
        unfold rep
        go_wp2_with fail
        clear q0 q1 q2 q3 q4 q5 q6 r0 r1 r2 r3 r4 r5 r6
        obtain ⟨W5, hW5⟩ : ∃ W5, W5 = setR wp (w.heap.size + 1) (.int .i64 0) (.slice none 0 0) (.int .i64 (σ.ver + 1)) (.int .i64 σ.now) (.int .i64 0) (.slice none 0 0) (.bool false) := ⟨_, rfl⟩
        have hr5 := setR_at0 HRB.out (.int .i64 0) (.slice none 0 0) (.int .i64 (σ.ver + 1)) (.int .i64 σ.now) (.int .i64 0) (.slice none 0 0) (.bool false)
        have hF5 := (Frm.refl (fun b => b = w.heap.size + 1) wp).setR (R := w.heap.size + 1) (.inl rfl) (.int .i64 0) (.slice none 0 0) (.int .i64 (σ.ver + 1)) (.int .i64 σ.now) (.int .i64 0) (.slice none 0 0) (.bool false)
        rw [← hW5] at hr5 hF5
        unfold setR at hW5
        rw [← hW5]
        have hfin := put_done HST.out HRB.out (Nat.le_succ _) HFR.out hF5
        exact bodyPost_ret (ret_rep rfl _ _ (w.heap.size + 1) rfl hr5) rfl ⟨fun e0 => absurd HPE.out e0, fun _ => ⟨rfl, ⟨oa', oc', da', dc', hfin.1, fun b hb => Nat.le_trans HFD.out.size (hfb b hb)⟩, hfin.2⟩⟩
end Go.Proofs.YtjafagfhkpaciaaGreat
end PkSP6_0
section PkSP6_1
/- The document's Do: put if. Written by gensddo.py. -/
namespace Go.Proofs.YtjafagfhkpaciaaGreat
open Go.RowKit
set_option linter.unusedVariables false
set_option linter.unusedSimpArgs false

set_option maxRecDepth 100000 in
set_option maxHeartbeats 16000000 in
theorem ddo_2 {w : World} {S base : Nat} {σ : DSto} (h : DStAt w S base σ) {vr at_ nn id : Int} {ky : ByteArray} {a : Option Addr} {n c : Nat} {xs : List Nat} (hx : BytesAt w a n c xs) (hbs : base ≤ w.heap.size) (hver : 0 ≤ σ.ver ∧ σ.ver ≤ 1000000000) (hver1 : ∀ o ∈ σ.objs, 1 ≤ o.ver) :
    Calls Tryz.prog 13 #[.pointer (some ⟨S, 0, none⟩), .agg #[.int .i64 2, .string ky, .slice a n c, .int .i64 vr, .int .i64 at_, .int .i64 nn, .int .i64 id]] w (Do1 w S base σ 2 ky vr n xs) := by
  have HE := Lib.hid (dent_mk h #[.int .i64 2, .string ky, .slice a n c, .int .i64 vr, .int .i64 at_, .int .i64 nn, .int .i64 id])
  have hSl : S < w.heap.size := (Array.getElem?_eq_some_iff.1 h.blk).1
  have hcap9 := hx.cap
  have hcapm9 := hx.capm
  clear h
  go_enter Tryz.func13, Tryz.ntmps13
  go_upto_region 1 with fail
  obtain ⟨W0, hW0⟩ : ∃ W0, W0 = (w.alloc (.cells #[.int .i64 2, .string ky, .slice a n c, .int .i64 vr, .int .i64 at_, .int .i64 nn, .int .i64 id] 34)).alloc (.cells zrep 43) := ⟨_, rfl⟩
  rw [← hW0] at HE
  unfold zrep at hW0
  rw [← hW0]
  clear hW0
  obtain ⟨ai, hai⟩ : ∃ ai, ai = atK σ.objs ky := ⟨_, rfl⟩
  obtain ⟨oi, hoi⟩ : ∃ oi, oi = openK σ.ups id := ⟨_, rfl⟩
  have HAT := Lib.hid (fun k => dat_any (HE.out.st.drewN k) ky)
  have HOP := Lib.hid (fun k => dopen_any (HE.out.st.drewN k) id)
  rw [← hai] at HAT
  rw [← hoi] at HOP
  have k1 := cell_blkD HE.out.cb (i := 1) (u := .string ky) rfl
  have k6 := cell_blkD HE.out.cb (i := 6) (u := .int .i64 id) rfl
  go_quiet ((first | (go_at_call 26; exact Calls.quiet_of_same (HAT.out _)) | (go_at_call 27; exact Calls.quiet_of_same (HOP.out _))))
  rename Nat => nq
  clear k1 k6 HAT HOP
  have HE1 := Lib.hid (HE.out.drewN nq)
  obtain ⟨W1, hW1⟩ : ∃ W1, W1 = W0.drewN nq := ⟨_, rfl⟩
  rw [← hW1] at HE1
  rw [← hW1]
  clear HE hW1
  have HE := HE1
  clear HE1
  have hz0 := HE.out.sz
  have hk0 : w.heap.size < W1.heap.size := by omega
  have hr0 : w.heap.size + 1 < W1.heap.size := by omega
  have hS0 : S < W1.heap.size := by omega
  have HZ0 := Lib.hid hz0
  clear hz0
  have HR0 := Lib.hid (Below.refl W1.heap.size W1)
  have k0 := cell_blkD HE.out.cb (i := 0) (u := .int .i64 2) rfl
  have HAI := Lib.hid hai
  have HOI := Lib.hid hoi
  clear hai hoi
  have k1 := cell_blkD HE.out.cb (i := 1) (u := .string ky) rfl
  have k3 := cell_blkD HE.out.cb (i := 3) (u := .int .i64 vr) rfl
  have htot0 := HE.out.st.tot
  obtain ⟨T, hT⟩ : ∃ T, T = osum σ.objs + usum σ.ups := ⟨_, rfl⟩
  have HTT := Lib.hid hT
  rw [← hT] at htot0
  clear hT
  go_wp2_with fail
  refine (dkey_any ky W1).mono ?_
  rintro e wk ⟨rfl, hwk⟩
  rw [hwk]
  clear hwk wk
  by_cases hkey : isKeyB ky = false
  case pos =>
    rw [hkey]
    have HPE := Lib.hid (show putDE σ 2 ky vr n = 1 from by unfold putDE; rw [if_pos hkey])
    go_wp2_with fail
    refine (dbad_any 1 W1).mono ?_
    rintro e wE ⟨rfl, hbE⟩
    unfold repA
    have hbe := HR0.out.trans (hbE.mono HR0.out.size)
    have HRB := Lib.hid ((hbe.block (w.heap.size + 1) hr0).trans HE.out.rb)
    have HST := Lib.hid (HE.out.st.below hbe)
    have HFR := Lib.hid (show Frm (DF S σ) w wE from Frm.ofBelow (HE.out.bel.trans (hbe.mono HE.out.bel.size)))
    obtain ⟨⟨q0, q1, q2, q3, q4, q5, q6⟩, r0, r1, r2, r3, r4, r5, r6⟩ := rb_cells HRB.out
    clear hbE hbe
    go_wp2_with fail
    clear q0 q1 q2 q3 q4 q5 q6 r0 r1 r2 r3 r4 r5 r6
    obtain ⟨W5, hW5⟩ : ∃ W5, W5 = setR wE (w.heap.size + 1) (.int .i64 1) (.slice none 0 0) (.int .i64 0) (.int .i64 0) (.int .i64 0) (.slice none 0 0) (.bool false) := ⟨_, rfl⟩
    have hr5 := setR_at0 HRB.out (.int .i64 1) (.slice none 0 0) (.int .i64 0) (.int .i64 0) (.int .i64 0) (.slice none 0 0) (.bool false)
    have hF5 := (Frm.refl (fun b => b = w.heap.size + 1) wE).setR (R := w.heap.size + 1) (.inl rfl) (.int .i64 1) (.slice none 0 0) (.int .i64 0) (.int .i64 0) (.int .i64 0) (.slice none 0 0) (.bool false)
    rw [← hW5] at hr5 hF5
    unfold setR at hW5
    rw [← hW5]
    have hfin := put_done HST.out HRB.out (Nat.le_succ _) HFR.out hF5
    exact bodyPost_ret (ret_rep rfl _ _ (w.heap.size + 1) rfl hr5) rfl (Do1.no HPE.out (by decide) hfin)
  have hkey' : isKeyB ky = true := by simpa using hkey
  rw [hkey']
  have HK1 := Lib.hid (show ¬ isKeyB ky = false from hkey)
  rcases atK_neg (l := σ.objs) (k := ky) with ⟨ho1, ho2⟩ | ⟨jo, ho1, ho2⟩
  · have hai := HAI.out
    rw [ho1] at hai
    clear HAI
    subst hai
    have HNO := Lib.hid (show (objD σ ky).isNone = true from by unfold objD; rw [ho2]; rfl)
    have HDV := Lib.hid (show dVer σ ky = 0 from by unfold dVer objD; rw [ho2])
    have HDH := Lib.hid (show (dHad σ ky : Int) = 0 from by unfold dHad objD; rw [ho2]; rfl)
    clear ho1 ho2
    by_cases hvr : ¬ vr = 0
    case pos =>
      have HPE := Lib.hid (show putDE σ 2 ky vr n = 8 from by unfold putDE; rw [if_neg HK1.out, if_pos ⟨rfl, by rw [HDV.out]; exact hvr⟩])
      have hb1 : (vr == 0) = false := beq_eq_false_iff_ne.2 hvr
      have hb2 : (vr != 0) = true := by simp [hvr]
      go_upto_region 10 with fail
      go_quiet (fail)
      rename Nat => nqW8
      have HEX := Lib.hid (HE.out.drewN nqW8)
      obtain ⟨W8, hWX⟩ : ∃ W8, W8 = W1.drewN nqW8 := ⟨_, rfl⟩
      rw [← hWX] at HEX
      rw [← hWX]
      clear HE hWX HR0 hk0 hr0 hS0
      have HE := HEX
      clear HEX
      have hz0 := HE.out.sz
      have hk0 : w.heap.size < W8.heap.size := by omega
      have hr0 : w.heap.size + 1 < W8.heap.size := by omega
      have hS0 : S < W8.heap.size := by omega
      clear hz0
      have HR0 := Lib.hid (Below.refl W8.heap.size W8)
      go_wp2_with fail
      refine (dbad_any 8 W8).mono ?_
      rintro e wE ⟨rfl, hbE⟩
      unfold repA
      have hbe := HR0.out.trans (hbE.mono HR0.out.size)
      have HRB := Lib.hid ((hbe.block (w.heap.size + 1) hr0).trans HE.out.rb)
      have HST := Lib.hid (HE.out.st.below hbe)
      have HFR := Lib.hid (show Frm (DF S σ) w wE from Frm.ofBelow (HE.out.bel.trans (hbe.mono HE.out.bel.size)))
      obtain ⟨⟨q0, q1, q2, q3, q4, q5, q6⟩, r0, r1, r2, r3, r4, r5, r6⟩ := rb_cells HRB.out
      clear hbE hbe
      go_wp2_with fail
      clear q0 q1 q2 q3 q4 q5 q6 r0 r1 r2 r3 r4 r5 r6
      obtain ⟨W5, hW5⟩ : ∃ W5, W5 = setR wE (w.heap.size + 1) (.int .i64 8) (.slice none 0 0) (.int .i64 0) (.int .i64 0) (.int .i64 0) (.slice none 0 0) (.bool false) := ⟨_, rfl⟩
      have hr5 := setR_at0 HRB.out (.int .i64 8) (.slice none 0 0) (.int .i64 0) (.int .i64 0) (.int .i64 0) (.slice none 0 0) (.bool false)
      have hF5 := (Frm.refl (fun b => b = w.heap.size + 1) wE).setR (R := w.heap.size + 1) (.inl rfl) (.int .i64 8) (.slice none 0 0) (.int .i64 0) (.int .i64 0) (.int .i64 0) (.slice none 0 0) (.bool false)
      rw [← hW5] at hr5 hF5
      unfold setR at hW5
      rw [← hW5]
      have hfin := put_done HST.out HRB.out (Nat.le_succ _) HFR.out hF5
      exact bodyPost_ret (ret_rep rfl _ _ (w.heap.size + 1) rfl hr5) rfl (Do1.no HPE.out (by decide) hfin)
    have hvr0 : vr = 0 := by omega
    subst hvr0
    have HK2 := Lib.hid (show (0 : Int) = dVer σ ky from HDV.out.symm)
    go_upto_region 10 with fail
    go_quiet (fail)
    rename Nat => nqW8
    clear k0 k3 k1
    have HEX := Lib.hid (HE.out.drewN nqW8)
    obtain ⟨W8, hWX⟩ : ∃ W8, W8 = W1.drewN nqW8 := ⟨_, rfl⟩
    rw [← hWX] at HEX
    rw [← hWX]
    clear HE hWX HR0 hk0 hr0 hS0
    have HE := HEX
    clear HEX
    have hz0 := HE.out.sz
    have hk0 : w.heap.size < W8.heap.size := by omega
    have hr0 : w.heap.size + 1 < W8.heap.size := by omega
    have hS0 : S < W8.heap.size := by omega
    clear hz0
    have HR0 := Lib.hid (Below.refl W8.heap.size W8)
    have k2 := cell_blkD HE.out.cb (i := 2) (u := .slice a n c) rfl
    by_cases hn5 : 262144 < n
    case pos =>
      have hn5' : (262144 : Int) < (n : Int) := by omega
      have HPE := Lib.hid (show putDE σ 2 ky (0 : Int) n = 5 from by unfold putDE; rw [if_neg HK1.out, if_neg (fun g => g.2 HK2.out), if_pos hn5])
      go_wp2_with fail
      refine (dbad_any 5 W8).mono ?_
      rintro e wE ⟨rfl, hbE⟩
      unfold repA
      have hbe := HR0.out.trans (hbE.mono HR0.out.size)
      have HRB := Lib.hid ((hbe.block (w.heap.size + 1) hr0).trans HE.out.rb)
      have HST := Lib.hid (HE.out.st.below hbe)
      have HFR := Lib.hid (show Frm (DF S σ) w wE from Frm.ofBelow (HE.out.bel.trans (hbe.mono HE.out.bel.size)))
      obtain ⟨⟨q0, q1, q2, q3, q4, q5, q6⟩, r0, r1, r2, r3, r4, r5, r6⟩ := rb_cells HRB.out
      clear hbE hbe
      go_wp2_with fail
      clear q0 q1 q2 q3 q4 q5 q6 r0 r1 r2 r3 r4 r5 r6
      obtain ⟨W5, hW5⟩ : ∃ W5, W5 = setR wE (w.heap.size + 1) (.int .i64 5) (.slice none 0 0) (.int .i64 0) (.int .i64 0) (.int .i64 0) (.slice none 0 0) (.bool false) := ⟨_, rfl⟩
      have hr5 := setR_at0 HRB.out (.int .i64 5) (.slice none 0 0) (.int .i64 0) (.int .i64 0) (.int .i64 0) (.slice none 0 0) (.bool false)
      have hF5 := (Frm.refl (fun b => b = w.heap.size + 1) wE).setR (R := w.heap.size + 1) (.inl rfl) (.int .i64 5) (.slice none 0 0) (.int .i64 0) (.int .i64 0) (.int .i64 0) (.slice none 0 0) (.bool false)
      rw [← hW5] at hr5 hF5
      unfold setR at hW5
      rw [← hW5]
      have hfin := put_done HST.out HRB.out (Nat.le_succ _) HFR.out hF5
      exact bodyPost_ret (ret_rep rfl _ _ (w.heap.size + 1) rfl hr5) rfl (Do1.no HPE.out (by decide) hfin)
    have hn5' : ¬ (262144 : Int) < (n : Int) := by omega
    by_cases hful : 512 ≤ σ.objs.length
    case pos =>
      have hful' : (512 : Int) ≤ (σ.objs.length : Int) := by omega
      have c0 := cell_blkD HE.out.st.blk (i := 0) (u := .slice σ.oa σ.objs.length σ.oc) rfl
      have HPE := Lib.hid (show putDE σ 2 ky (0 : Int) n = 9 from by unfold putDE; rw [if_neg HK1.out, if_neg (fun g => g.2 HK2.out), if_neg hn5, if_pos (.inl ⟨HNO.out, hful⟩)])
      go_upto_region 14 with fail
      clear k2
      go_quiet (fail)
      rename Nat => nqW9
      have HEX := Lib.hid (HE.out.drewN nqW9)
      obtain ⟨W9, hWX⟩ : ∃ W9, W9 = W8.drewN nqW9 := ⟨_, rfl⟩
      rw [← hWX] at HEX
      rw [← hWX]
      clear HE hWX HR0 hk0 hr0 hS0
      have HE := HEX
      clear HEX
      have hz0 := HE.out.sz
      have hk0 : w.heap.size < W9.heap.size := by omega
      have hr0 : w.heap.size + 1 < W9.heap.size := by omega
      have hS0 : S < W9.heap.size := by omega
      clear hz0
      have HR0 := Lib.hid (Below.refl W9.heap.size W9)
      go_wp2_with fail
      refine (dbad_any 9 W9).mono ?_
      rintro e wE ⟨rfl, hbE⟩
      unfold repA
      have hbe := HR0.out.trans (hbE.mono HR0.out.size)
      have HRB := Lib.hid ((hbe.block (w.heap.size + 1) hr0).trans HE.out.rb)
      have HST := Lib.hid (HE.out.st.below hbe)
      have HFR := Lib.hid (show Frm (DF S σ) w wE from Frm.ofBelow (HE.out.bel.trans (hbe.mono HE.out.bel.size)))
      obtain ⟨⟨q0, q1, q2, q3, q4, q5, q6⟩, r0, r1, r2, r3, r4, r5, r6⟩ := rb_cells HRB.out
      clear hbE hbe
      go_wp2_with fail
      clear q0 q1 q2 q3 q4 q5 q6 r0 r1 r2 r3 r4 r5 r6
      obtain ⟨W5, hW5⟩ : ∃ W5, W5 = setR wE (w.heap.size + 1) (.int .i64 9) (.slice none 0 0) (.int .i64 0) (.int .i64 0) (.int .i64 0) (.slice none 0 0) (.bool false) := ⟨_, rfl⟩
      have hr5 := setR_at0 HRB.out (.int .i64 9) (.slice none 0 0) (.int .i64 0) (.int .i64 0) (.int .i64 0) (.slice none 0 0) (.bool false)
      have hF5 := (Frm.refl (fun b => b = w.heap.size + 1) wE).setR (R := w.heap.size + 1) (.inl rfl) (.int .i64 9) (.slice none 0 0) (.int .i64 0) (.int .i64 0) (.int .i64 0) (.slice none 0 0) (.bool false)
      rw [← hW5] at hr5 hF5
      unfold setR at hW5
      rw [← hW5]
      have hfin := put_done HST.out HRB.out (Nat.le_succ _) HFR.out hF5
      exact bodyPost_ret (ret_rep rfl _ _ (w.heap.size + 1) rfl hr5) rfl (Do1.no HPE.out (by decide) hfin)
    have hful' : ¬ (512 : Int) ≤ (σ.objs.length : Int) := by omega
    have HNW := Lib.hid (show atK σ.objs ky = -1 → σ.objs.length < 512 from fun _ => by omega)
    have HNF := Lib.hid (show (objD σ ky).isNone = true → 512 ≤ σ.objs.length → False from fun _ g => hful g)
    go_upto_region 14 with fail
    clear k2
    have HI14 := Lib.hid (Below.refl W8.heap.size W8).drew
    have wt1 : IntKind.i64.wrap (T : Int) = (T : Int) := IntWalk.i64_in _ (by omega)
    have wt2 : IntKind.i64.wrap ((T : Int) + (n : Int)) = (T : Int) + (n : Int) := IntWalk.i64_in _ (by omega)
    refine wp_region_chain (by kernel_rfl) (by kernel_rfl) (by kernel_rfl) [12] true (by kernel_rfl) (fun k u y => match k with
        | 0 => Below W8.heap.size W8 y
        | _ => Below W8.heap.size W8 y ∧ True) (fun y => Below W8.heap.size W8 y) (fun j_9 => match j_9 with | 0 => some (.int .i64 (-1)) | 1 => some (.bool true) | 2 => some (.bool true) | 3 => some ((.pointer (some ⟨S, 0, none⟩))) | 4 => some ((.pointer (some ⟨S, 0, none⟩))) | 5 => some ((.pointer (some ⟨S, 0, none⟩))) | 6 => some (.slice σ.oa σ.objs.length σ.oc) | 7 => some (.int .i64 (σ.objs.length : Int)) | 8 => some (.bool false) | 9 => some (.bool false) | 10 => some (.bool false) | 11 => some ((.pointer (some ⟨S, 0, none⟩))) | 12 => some (.int .i64 (T : Int)) | 13 => some (.int .i64 (0 : Int)) | 14 => some (.int .i64 (T : Int)) | 15 => some ((.pointer (some ⟨w.heap.size, 2, none⟩))) | 16 => some (.slice a n c) | 17 => some (.int .i64 (n : Int)) | 18 => some (.int .i64 ((T : Int) + (n : Int))) | 19 => some (.bool (decide ((4194304 : Int) < (T : Int) + (n : Int)))) | 20 => some (.bool (decide ((4194304 : Int) < (T : Int) + (n : Int)))) | _ => none) (by rfl) (fun u => HI14.out) (fun k u y hk9 hk hs => by
        match k, hk, hs with
        | 0, _, hs => exact hs
        | 1, _, hs => exact hs.1) ?_ ?_ ?_
    · intro i9 o ho hc9 V w9 K hR9 hdep hK
      have HR9 := Lib.hid hR9
      simp only [fill, slotOf, List.size_toArray, List.length_cons, List.length_nil, Nat.reduceAdd, List.getElem?_toArray, List.getElem?_cons_zero, List.getElem?_cons_succ, Option.bind_some, Act.put, List.setIfInBounds_toArray, List.set_cons_zero, List.set_cons_succ] at hK ⊢
      have hin9 : i9 < 21 := (Array.getElem?_eq_some_iff.1 ho).1
      have hcs : i9 = 0 ∨ i9 = 1 ∨ i9 = 2 ∨ i9 = 3 ∨ i9 = 4 ∨ i9 = 5 ∨ i9 = 6 ∨ i9 = 7 ∨ i9 = 8 ∨ i9 = 9 ∨ i9 = 10 ∨ i9 = 11 ∨ i9 = 12 ∨ i9 = 13 ∨ i9 = 14 ∨ i9 = 15 ∨ i9 = 16 ∨ i9 = 17 ∨ i9 = 18 ∨ i9 = 19 ∨ i9 = 20 := by omega
      clear hin9
      rcases hcs with rfl | rfl | rfl | rfl | rfl | rfl | rfl | rfl | rfl | rfl | rfl | rfl | rfl | rfl | rfl | rfl | rfl | rfl | rfl | rfl | rfl
      · obtain rfl := Option.some.inj ho.symm
        clear hdep ho hR9 hc9
        try simp only [fill, slotOf, List.size_toArray, List.length_cons, List.length_nil, Nat.reduceAdd, List.getElem?_toArray, List.getElem?_cons_zero, List.getElem?_cons_succ, Option.bind_some, Act.put, List.setIfInBounds_toArray, List.set_cons_zero, List.set_cons_succ] at hK ⊢
        go_simp
        exact hK (.int .i64 (-1)) rfl _ rfl
      · obtain rfl := Option.some.inj ho.symm
        have d0 : V 0 = .int .i64 (-1) := hdep ⟨0, .data⟩ (by simp) rfl _ rfl
        clear hdep ho hR9 hc9
        try simp only [fill, slotOf, List.size_toArray, List.length_cons, List.length_nil, Nat.reduceAdd, List.getElem?_toArray, List.getElem?_cons_zero, List.getElem?_cons_succ, Option.bind_some, Act.put, List.setIfInBounds_toArray, List.set_cons_zero, List.set_cons_succ] at hK ⊢
        rw [d0] at hK ⊢
        go_simp
        exact hK (.bool true) rfl _ rfl
      · obtain rfl := Option.some.inj ho.symm
        have d1 : V 1 = .bool true := hdep ⟨1, .data⟩ (by simp) rfl _ rfl
        clear hdep ho hR9 hc9
        try simp only [fill, slotOf, List.size_toArray, List.length_cons, List.length_nil, Nat.reduceAdd, List.getElem?_toArray, List.getElem?_cons_zero, List.getElem?_cons_succ, Option.bind_some, Act.put, List.setIfInBounds_toArray, List.set_cons_zero, List.set_cons_succ] at hK ⊢
        rw [d1] at hK ⊢
        go_simp
        exact hK (.bool true) rfl _ rfl
      · obtain rfl := Option.some.inj ho.symm
        have d2 : V 2 = .bool true := hdep ⟨2, .guard⟩ (by simp) rfl _ rfl
        clear hdep ho hR9 hc9
        try simp only [fill, slotOf, List.size_toArray, List.length_cons, List.length_nil, Nat.reduceAdd, List.getElem?_toArray, List.getElem?_cons_zero, List.getElem?_cons_succ, Option.bind_some, Act.put, List.setIfInBounds_toArray, List.set_cons_zero, List.set_cons_succ] at hK ⊢
        rw [d2] at hK ⊢
        go_simp
        exact hK ((.pointer (some ⟨S, 0, none⟩))) rfl _ rfl
      · obtain rfl := Option.some.inj ho.symm
        have d3 : V 3 = (.pointer (some ⟨S, 0, none⟩)) := hdep ⟨3, .data⟩ (by simp) rfl _ rfl
        have d2 : V 2 = .bool true := hdep ⟨2, .guard⟩ (by simp) rfl _ rfl
        clear hdep ho hR9 hc9
        try simp only [fill, slotOf, List.size_toArray, List.length_cons, List.length_nil, Nat.reduceAdd, List.getElem?_toArray, List.getElem?_cons_zero, List.getElem?_cons_succ, Option.bind_some, Act.put, List.setIfInBounds_toArray, List.set_cons_zero, List.set_cons_succ] at hK ⊢
        rw [d3, d2] at hK ⊢
        go_simp
        exact hK ((.pointer (some ⟨S, 0, none⟩))) rfl _ rfl
      · obtain rfl := Option.some.inj ho.symm
        have d4 : V 4 = (.pointer (some ⟨S, 0, none⟩)) := hdep ⟨4, .data⟩ (by simp) rfl _ rfl
        have d2 : V 2 = .bool true := hdep ⟨2, .guard⟩ (by simp) rfl _ rfl
        clear hdep ho hR9 hc9
        try simp only [fill, slotOf, List.size_toArray, List.length_cons, List.length_nil, Nat.reduceAdd, List.getElem?_toArray, List.getElem?_cons_zero, List.getElem?_cons_succ, Option.bind_some, Act.put, List.setIfInBounds_toArray, List.set_cons_zero, List.set_cons_succ] at hK ⊢
        rw [d4, d2] at hK ⊢
        go_simp
        exact hK ((.pointer (some ⟨S, 0, none⟩))) rfl _ rfl
      · obtain rfl := Option.some.inj ho.symm
        have d5 : V 5 = (.pointer (some ⟨S, 0, none⟩)) := hdep ⟨5, .data⟩ (by simp) rfl _ rfl
        have d2 : V 2 = .bool true := hdep ⟨2, .guard⟩ (by simp) rfl _ rfl
        have u0 := cell_blkD (HE.out.st.below HR9.out).blk (i := 0) (u := .slice σ.oa σ.objs.length σ.oc) rfl
        clear hdep ho hR9 hc9
        try simp only [fill, slotOf, List.size_toArray, List.length_cons, List.length_nil, Nat.reduceAdd, List.getElem?_toArray, List.getElem?_cons_zero, List.getElem?_cons_succ, Option.bind_some, Act.put, List.setIfInBounds_toArray, List.set_cons_zero, List.set_cons_succ] at hK ⊢
        rw [d5, d2] at hK ⊢
        go_simp
        exact hK (.slice σ.oa σ.objs.length σ.oc) rfl _ rfl
      · obtain rfl := Option.some.inj ho.symm
        have d6 : V 6 = .slice σ.oa σ.objs.length σ.oc := hdep ⟨6, .data⟩ (by simp) rfl _ rfl
        have d2 : V 2 = .bool true := hdep ⟨2, .guard⟩ (by simp) rfl _ rfl
        clear hdep ho hR9 hc9
        try simp only [fill, slotOf, List.size_toArray, List.length_cons, List.length_nil, Nat.reduceAdd, List.getElem?_toArray, List.getElem?_cons_zero, List.getElem?_cons_succ, Option.bind_some, Act.put, List.setIfInBounds_toArray, List.set_cons_zero, List.set_cons_succ] at hK ⊢
        rw [d6, d2] at hK ⊢
        go_simp
        exact hK (.int .i64 (σ.objs.length : Int)) rfl _ rfl
      · obtain rfl := Option.some.inj ho.symm
        have d7 : V 7 = .int .i64 (σ.objs.length : Int) := hdep ⟨7, .data⟩ (by simp) rfl _ rfl
        have d2 : V 2 = .bool true := hdep ⟨2, .guard⟩ (by simp) rfl _ rfl
        clear hdep ho hR9 hc9
        try simp only [fill, slotOf, List.size_toArray, List.length_cons, List.length_nil, Nat.reduceAdd, List.getElem?_toArray, List.getElem?_cons_zero, List.getElem?_cons_succ, Option.bind_some, Act.put, List.setIfInBounds_toArray, List.set_cons_zero, List.set_cons_succ] at hK ⊢
        rw [d7, d2] at hK ⊢
        go_simp
        exact hK (.bool false) rfl _ rfl
      · obtain rfl := Option.some.inj ho.symm
        have d2 : V 2 = .bool true := hdep ⟨2, .data⟩ (by simp) rfl _ rfl
        have d8 : V 8 = .bool false := hdep ⟨8, .data⟩ (by simp) rfl _ rfl
        clear hdep ho hR9 hc9
        try simp only [fill, slotOf, List.size_toArray, List.length_cons, List.length_nil, Nat.reduceAdd, List.getElem?_toArray, List.getElem?_cons_zero, List.getElem?_cons_succ, Option.bind_some, Act.put, List.setIfInBounds_toArray, List.set_cons_zero, List.set_cons_succ] at hK ⊢
        rw [d2, d8] at hK ⊢
        go_simp
        exact hK (.bool false) rfl _ rfl
      · obtain rfl := Option.some.inj ho.symm
        have d9 : V 9 = .bool false := hdep ⟨9, .data⟩ (by simp) rfl _ rfl
        clear hdep ho hR9 hc9
        try simp only [fill, slotOf, List.size_toArray, List.length_cons, List.length_nil, Nat.reduceAdd, List.getElem?_toArray, List.getElem?_cons_zero, List.getElem?_cons_succ, Option.bind_some, Act.put, List.setIfInBounds_toArray, List.set_cons_zero, List.set_cons_succ] at hK ⊢
        rw [d9] at hK ⊢
        go_simp
        exact hK (.bool false) rfl _ rfl
      · obtain rfl := Option.some.inj ho.symm
        have d10 : V 10 = .bool false := hdep ⟨10, .guard⟩ (by simp) rfl _ rfl
        clear hdep ho hR9 hc9
        try simp only [fill, slotOf, List.size_toArray, List.length_cons, List.length_nil, Nat.reduceAdd, List.getElem?_toArray, List.getElem?_cons_zero, List.getElem?_cons_succ, Option.bind_some, Act.put, List.setIfInBounds_toArray, List.set_cons_zero, List.set_cons_succ] at hK ⊢
        rw [d10] at hK ⊢
        go_simp
        exact hK ((.pointer (some ⟨S, 0, none⟩))) rfl _ rfl
      · cases hc9
      · obtain rfl := Option.some.inj ho.symm
        have d10 : V 10 = .bool false := hdep ⟨10, .guard⟩ (by simp) rfl _ rfl
        clear hdep ho hR9 hc9
        try simp only [fill, slotOf, List.size_toArray, List.length_cons, List.length_nil, Nat.reduceAdd, List.getElem?_toArray, List.getElem?_cons_zero, List.getElem?_cons_succ, Option.bind_some, Act.put, List.setIfInBounds_toArray, List.set_cons_zero, List.set_cons_succ] at hK ⊢
        rw [d10] at hK ⊢
        go_simp
        exact hK (.int .i64 (0 : Int)) rfl _ rfl
      · obtain rfl := Option.some.inj ho.symm
        have d12 : V 12 = .int .i64 (T : Int) := hdep ⟨12, .data⟩ (by simp) rfl _ rfl
        have d13 : V 13 = .int .i64 (0 : Int) := hdep ⟨13, .data⟩ (by simp) rfl _ rfl
        have d10 : V 10 = .bool false := hdep ⟨10, .guard⟩ (by simp) rfl _ rfl
        clear hdep ho hR9 hc9
        try simp only [fill, slotOf, List.size_toArray, List.length_cons, List.length_nil, Nat.reduceAdd, List.getElem?_toArray, List.getElem?_cons_zero, List.getElem?_cons_succ, Option.bind_some, Act.put, List.setIfInBounds_toArray, List.set_cons_zero, List.set_cons_succ] at hK ⊢
        rw [d12, d13, d10] at hK ⊢
        go_simp
        exact hK (.int .i64 (T : Int)) rfl _ rfl
      · obtain rfl := Option.some.inj ho.symm
        have d10 : V 10 = .bool false := hdep ⟨10, .guard⟩ (by simp) rfl _ rfl
        clear hdep ho hR9 hc9
        try simp only [fill, slotOf, List.size_toArray, List.length_cons, List.length_nil, Nat.reduceAdd, List.getElem?_toArray, List.getElem?_cons_zero, List.getElem?_cons_succ, Option.bind_some, Act.put, List.setIfInBounds_toArray, List.set_cons_zero, List.set_cons_succ] at hK ⊢
        rw [d10] at hK ⊢
        go_simp
        exact hK ((.pointer (some ⟨w.heap.size, 2, none⟩))) rfl _ rfl
      · obtain rfl := Option.some.inj ho.symm
        have d15 : V 15 = (.pointer (some ⟨w.heap.size, 2, none⟩)) := hdep ⟨15, .data⟩ (by simp) rfl _ rfl
        have d10 : V 10 = .bool false := hdep ⟨10, .guard⟩ (by simp) rfl _ rfl
        have u0 := cell_blkD (cells_of_below HR9.out HE.out.cb) (i := 2) (u := .slice a n c) rfl
        clear hdep ho hR9 hc9
        try simp only [fill, slotOf, List.size_toArray, List.length_cons, List.length_nil, Nat.reduceAdd, List.getElem?_toArray, List.getElem?_cons_zero, List.getElem?_cons_succ, Option.bind_some, Act.put, List.setIfInBounds_toArray, List.set_cons_zero, List.set_cons_succ] at hK ⊢
        rw [d15, d10] at hK ⊢
        go_simp
        exact hK (.slice a n c) rfl _ rfl
      · obtain rfl := Option.some.inj ho.symm
        have d16 : V 16 = .slice a n c := hdep ⟨16, .data⟩ (by simp) rfl _ rfl
        have d10 : V 10 = .bool false := hdep ⟨10, .guard⟩ (by simp) rfl _ rfl
        clear hdep ho hR9 hc9
        try simp only [fill, slotOf, List.size_toArray, List.length_cons, List.length_nil, Nat.reduceAdd, List.getElem?_toArray, List.getElem?_cons_zero, List.getElem?_cons_succ, Option.bind_some, Act.put, List.setIfInBounds_toArray, List.set_cons_zero, List.set_cons_succ] at hK ⊢
        rw [d16, d10] at hK ⊢
        go_simp
        exact hK (.int .i64 (n : Int)) rfl _ rfl
      · obtain rfl := Option.some.inj ho.symm
        have d14 : V 14 = .int .i64 (T : Int) := hdep ⟨14, .data⟩ (by simp) rfl _ rfl
        have d17 : V 17 = .int .i64 (n : Int) := hdep ⟨17, .data⟩ (by simp) rfl _ rfl
        have d10 : V 10 = .bool false := hdep ⟨10, .guard⟩ (by simp) rfl _ rfl
        clear hdep ho hR9 hc9
        try simp only [fill, slotOf, List.size_toArray, List.length_cons, List.length_nil, Nat.reduceAdd, List.getElem?_toArray, List.getElem?_cons_zero, List.getElem?_cons_succ, Option.bind_some, Act.put, List.setIfInBounds_toArray, List.set_cons_zero, List.set_cons_succ] at hK ⊢
        rw [d14, d17, d10] at hK ⊢
        go_simp
        exact hK (.int .i64 ((T : Int) + (n : Int))) rfl _ rfl
      · obtain rfl := Option.some.inj ho.symm
        have d18 : V 18 = .int .i64 ((T : Int) + (n : Int)) := hdep ⟨18, .data⟩ (by simp) rfl _ rfl
        have d10 : V 10 = .bool false := hdep ⟨10, .guard⟩ (by simp) rfl _ rfl
        clear hdep ho hR9 hc9
        try simp only [fill, slotOf, List.size_toArray, List.length_cons, List.length_nil, Nat.reduceAdd, List.getElem?_toArray, List.getElem?_cons_zero, List.getElem?_cons_succ, Option.bind_some, Act.put, List.setIfInBounds_toArray, List.set_cons_zero, List.set_cons_succ] at hK ⊢
        rw [d18, d10] at hK ⊢
        go_simp
        exact hK (.bool (decide ((4194304 : Int) < (T : Int) + (n : Int)))) rfl _ rfl
      · obtain rfl := Option.some.inj ho.symm
        have d10 : V 10 = .bool false := hdep ⟨10, .data⟩ (by simp) rfl _ rfl
        have d19 : V 19 = .bool (decide ((4194304 : Int) < (T : Int) + (n : Int))) := hdep ⟨19, .data⟩ (by simp) rfl _ rfl
        clear hdep ho hR9 hc9
        try simp only [fill, slotOf, List.size_toArray, List.length_cons, List.length_nil, Nat.reduceAdd, List.getElem?_toArray, List.getElem?_cons_zero, List.getElem?_cons_succ, Option.bind_some, Act.put, List.setIfInBounds_toArray, List.set_cons_zero, List.set_cons_succ] at hK ⊢
        rw [d10, d19] at hK ⊢
        go_simp
        exact hK (.bool (decide ((4194304 : Int) < (T : Int) + (n : Int)))) rfl _ rfl
    · intro i9 j9 o he9 ho V w9 K hS9 hdep hK
      simp only [fill, slotOf, List.size_toArray, List.length_cons, List.length_nil, Nat.reduceAdd, List.getElem?_toArray, List.getElem?_cons_zero, List.getElem?_cons_succ, Option.bind_some, Act.put, List.setIfInBounds_toArray, List.set_cons_zero, List.set_cons_succ] at hK ⊢
      have hin9 : i9 < 1 := (List.getElem?_eq_some_iff.1 he9).1
      have hcs : i9 = 0 := by omega
      clear hin9
      rcases hcs with rfl
      · obtain rfl := Option.some.inj he9.symm
        obtain rfl := Option.some.inj ho.symm
        have d11 : V 11 = (.pointer (some ⟨S, 0, none⟩)) := hdep ⟨11, .data⟩ (by simp) rfl _ rfl
        have d10 : V 10 = .bool false := hdep ⟨10, .guard⟩ (by simp) rfl _ rfl
        have hs : Below W8.heap.size W8 w9 := hS9
        have HSZ := Lib.hid (dsize_any (HE.out.st.below hs))
        rw [← HTT.out] at HSZ
        have HS9 := Lib.hid hs
        clear hdep ho he9 hS9 hs
        try simp only [fill, slotOf, List.size_toArray, List.length_cons, List.length_nil, Nat.reduceAdd, List.getElem?_toArray, List.getElem?_cons_zero, List.getElem?_cons_succ, Option.bind_some, Act.put, List.setIfInBounds_toArray, List.set_cons_zero, List.set_cons_succ] at hK ⊢
        rw [d11, d10] at hK ⊢
        go_simp
        refine HSZ.out.mono ?_
        rintro e w8 ⟨rfl, hb8⟩
        exact hK _ w8 ⟨HS9.out.trans (hb8.mono HS9.out.size), trivial⟩ (fun y h => Option.some.inj h) _ rfl
    · intro V w14 hS9 hv9
      have HB14 := Lib.hid (show Below W8.heap.size W8 w14 from hS9.1)
      have d20 : V 20 = .bool (decide ((4194304 : Int) < (T : Int) + (n : Int))) := hv9 20 _ (by decide) rfl
      clear hS9 hv9
      simp only [fill, slotOf, List.size_toArray, List.length_cons, List.length_nil, Nat.reduceAdd, List.getElem?_toArray, List.getElem?_cons_zero, List.getElem?_cons_succ, Option.bind_some, Act.put, List.setIfInBounds_toArray, List.set_cons_zero, List.set_cons_succ]
      rw [d20]
      clear d20
      by_cases htot : (4194304 : Int) < (T : Int) + (n : Int)
      case pos =>
        have HPE := Lib.hid (show putDE σ 2 ky (0 : Int) n = 9 from by unfold putDE; rw [if_neg HK1.out, if_neg (fun g => g.2 HK2.out), if_neg hn5, HDH.out, ← HTT.out]; rw [if_pos (.inr (by omega))])
        rw [decide_eq_true htot]
        go_wp2_with fail
        refine (dbad_any 9 w14).mono ?_
        rintro e wE ⟨rfl, hbE⟩
        unfold repA
        have hbe := HB14.out.trans (hbE.mono HB14.out.size)
        have HRB := Lib.hid ((hbe.block (w.heap.size + 1) hr0).trans HE.out.rb)
        have HST := Lib.hid (HE.out.st.below hbe)
        have HFR := Lib.hid (show Frm (DF S σ) w wE from Frm.ofBelow (HE.out.bel.trans (hbe.mono HE.out.bel.size)))
        obtain ⟨⟨q0, q1, q2, q3, q4, q5, q6⟩, r0, r1, r2, r3, r4, r5, r6⟩ := rb_cells HRB.out
        clear hbE hbe
        go_wp2_with fail
        clear q0 q1 q2 q3 q4 q5 q6 r0 r1 r2 r3 r4 r5 r6
        obtain ⟨W5, hW5⟩ : ∃ W5, W5 = setR wE (w.heap.size + 1) (.int .i64 9) (.slice none 0 0) (.int .i64 0) (.int .i64 0) (.int .i64 0) (.slice none 0 0) (.bool false) := ⟨_, rfl⟩
        have hr5 := setR_at0 HRB.out (.int .i64 9) (.slice none 0 0) (.int .i64 0) (.int .i64 0) (.int .i64 0) (.slice none 0 0) (.bool false)
        have hF5 := (Frm.refl (fun b => b = w.heap.size + 1) wE).setR (R := w.heap.size + 1) (.inl rfl) (.int .i64 9) (.slice none 0 0) (.int .i64 0) (.int .i64 0) (.int .i64 0) (.slice none 0 0) (.bool false)
        rw [← hW5] at hr5 hF5
        unfold setR at hW5
        rw [← hW5]
        have hfin := put_done HST.out HRB.out (Nat.le_succ _) HFR.out hF5
        exact bodyPost_ret (ret_rep rfl _ _ (w.heap.size + 1) rfl hr5) rfl (Do1.no HPE.out (by decide) hfin)
      case neg =>
        have HPE := Lib.hid (show putDE σ 2 ky (0 : Int) n = 0 from by unfold putDE; rw [if_neg HK1.out, if_neg (fun g => g.2 HK2.out), if_neg hn5, HDH.out, ← HTT.out]; rw [if_neg (by rintro (⟨g1, g2⟩ | g1); exact HNF.out g1 g2; omega)])
        rw [decide_eq_false htot]
        have hB0 := HE.out.bel.trans (HB14.out.mono HE.out.bel.size)
        have k1 := cell_blkD (cells_of_below HB14.out HE.out.cb) (i := 1) (u := .string ky) rfl
        have k2 := cell_blkD (cells_of_below HB14.out HE.out.cb) (i := 2) (u := .slice a n c) rfl
        have HPT := Lib.hid (dput_any (HE.out.st.below HB14.out) ky (hx.kept hB0) hver (Nat.le_trans hbs hB0.size) (by omega) HNW.out)
        have HFD := Lib.hid (show Frm (DF S σ) w w14 from Frm.ofBelow hB0)
        have HRD := Lib.hid (cells_of_below HB14.out HE.out.rb)
        have HSD := Lib.hid (HE.out.st.below HB14.out)
        clear hB0
        go_wp2_with fail
        refine HPT.out.mono ?_
        rintro e wp ⟨rfl, oa', oc', da', dc', hst, hfr, hfb⟩
        have hfr2 : Frm (DF S σ) w14 wp := hfr.imp (fun b hb => hb.elim .inl (fun g => .inr (.inl g)))
        have HST := Lib.hid hst
        have HFR := Lib.hid (HFD.out.trans hfr2 (fun b hb => .inl hb))
        have HRB := Lib.hid (rb_kept HSD.out HRD.out hfr2)
        obtain ⟨⟨q0, q1, q2, q3, q4, q5, q6⟩, r0, r1, r2, r3, r4, r5, r6⟩ := rb_cells HRB.out
        clear hst hfr hfr2 k1 k2
        unfold rep
        go_wp2_with fail
        clear q0 q1 q2 q3 q4 q5 q6 r0 r1 r2 r3 r4 r5 r6
        obtain ⟨W5, hW5⟩ : ∃ W5, W5 = setR wp (w.heap.size + 1) (.int .i64 0) (.slice none 0 0) (.int .i64 (σ.ver + 1)) (.int .i64 σ.now) (.int .i64 0) (.slice none 0 0) (.bool false) := ⟨_, rfl⟩
        have hr5 := setR_at0 HRB.out (.int .i64 0) (.slice none 0 0) (.int .i64 (σ.ver + 1)) (.int .i64 σ.now) (.int .i64 0) (.slice none 0 0) (.bool false)
        have hF5 := (Frm.refl (fun b => b = w.heap.size + 1) wp).setR (R := w.heap.size + 1) (.inl rfl) (.int .i64 0) (.slice none 0 0) (.int .i64 (σ.ver + 1)) (.int .i64 σ.now) (.int .i64 0) (.slice none 0 0) (.bool false)
        rw [← hW5] at hr5 hF5
        unfold setR at hW5
        rw [← hW5]
        have hfin := put_done HST.out HRB.out (Nat.le_succ _) HFR.out hF5
        exact bodyPost_ret (ret_rep rfl _ _ (w.heap.size + 1) rfl hr5) rfl ⟨fun e0 => absurd HPE.out e0, fun _ => ⟨rfl, ⟨oa', oc', da', dc', hfin.1, fun b hb => Nat.le_trans HFD.out.size (hfb b hb)⟩, hfin.2⟩⟩
  · have hai := HAI.out
    rw [ho1] at hai
    clear HAI
    subst hai
    have HAT1 := Lib.hid ho1
    obtain ⟨o, hu, _, hul⟩ := find_at ho2
    have HU := Lib.hid hu
    have zjo : ¬ (jo : Int) < 0 := by omega
    have zjo0 : (0 : Int) ≤ (jo : Int) := by omega
    have HOD := Lib.hid (show objD σ ky = some o from by unfold objD; rw [ho2]; exact hu)
    have HDV := Lib.hid (show dVer σ ky = o.ver from by unfold dVer; rw [HOD.out])
    have HDH := Lib.hid (show (dHad σ ky : Int) = ((o.dn : Nat) : Int) from by unfold dHad; rw [HOD.out])
    have hyv := hver1 o (List.mem_of_getElem? hu)
    have hysm := (HE.out.st.obj o (List.mem_of_getElem? hu)).small
    have HV0 := Lib.hid HE.out.st.objs
    obtain ⟨gb, off, hga, hgl, _, hgc⟩ := HV0.out.get hul
    have hgd : σ.objs.getD jo DObjS.z = o := by rw [List.getD_eq_getElem?_getD, HU.out]; rfl
    rw [hgd] at hgc
    obtain ⟨yk, ya, yn, yc, yd, yv, yb⟩ := o
    have v1 : W1.cell? ⟨gb, off + jo * 4 + 1, none⟩ = some (.slice ya yn yc) := hgc 1 _ rfl
    have v2 : W1.cell? ⟨gb, off + jo * 4 + 2, none⟩ = some (.int .i64 yv) := hgc 2 _ rfl
    have c0 := cell_blkD HE.out.st.blk (i := 0) (u := .slice σ.oa σ.objs.length σ.oc) rfl
    rw [hga] at c0
    have zi : (jo : Int) < (σ.objs.length : Int) := by omega
    have hyv : 1 ≤ yv := hyv
    have hysm : yn ≤ 262144 := hysm
    have HDV := Lib.hid (show dVer σ ky = yv from HDV.out)
    have HDH := Lib.hid (show (dHad σ ky : Int) = ((yn : Nat) : Int) from HDH.out)
    clear hu ho1 ho2 hgc hgd hga hgl
    by_cases hvr : vr = 0
    case pos =>
      have HPE := Lib.hid (show putDE σ 2 ky vr n = 8 from by unfold putDE; rw [if_neg HK1.out, if_pos ⟨rfl, by rw [HDV.out]; have := hyv; omega⟩])
      subst hvr
      go_upto_region 10 with fail
      go_quiet (fail)
      rename Nat => nqW8
      have HEX := Lib.hid (HE.out.drewN nqW8)
      obtain ⟨W8, hWX⟩ : ∃ W8, W8 = W1.drewN nqW8 := ⟨_, rfl⟩
      rw [← hWX] at HEX
      rw [← hWX]
      clear HE hWX HR0 hk0 hr0 hS0
      have HE := HEX
      clear HEX
      have hz0 := HE.out.sz
      have hk0 : w.heap.size < W8.heap.size := by omega
      have hr0 : w.heap.size + 1 < W8.heap.size := by omega
      have hS0 : S < W8.heap.size := by omega
      clear hz0
      have HR0 := Lib.hid (Below.refl W8.heap.size W8)
      go_wp2_with fail
      refine (dbad_any 8 W8).mono ?_
      rintro e wE ⟨rfl, hbE⟩
      unfold repA
      have hbe := HR0.out.trans (hbE.mono HR0.out.size)
      have HRB := Lib.hid ((hbe.block (w.heap.size + 1) hr0).trans HE.out.rb)
      have HST := Lib.hid (HE.out.st.below hbe)
      have HFR := Lib.hid (show Frm (DF S σ) w wE from Frm.ofBelow (HE.out.bel.trans (hbe.mono HE.out.bel.size)))
      obtain ⟨⟨q0, q1, q2, q3, q4, q5, q6⟩, r0, r1, r2, r3, r4, r5, r6⟩ := rb_cells HRB.out
      clear hbE hbe
      go_wp2_with fail
      clear q0 q1 q2 q3 q4 q5 q6 r0 r1 r2 r3 r4 r5 r6
      obtain ⟨W5, hW5⟩ : ∃ W5, W5 = setR wE (w.heap.size + 1) (.int .i64 8) (.slice none 0 0) (.int .i64 0) (.int .i64 0) (.int .i64 0) (.slice none 0 0) (.bool false) := ⟨_, rfl⟩
      have hr5 := setR_at0 HRB.out (.int .i64 8) (.slice none 0 0) (.int .i64 0) (.int .i64 0) (.int .i64 0) (.slice none 0 0) (.bool false)
      have hF5 := (Frm.refl (fun b => b = w.heap.size + 1) wE).setR (R := w.heap.size + 1) (.inl rfl) (.int .i64 8) (.slice none 0 0) (.int .i64 0) (.int .i64 0) (.int .i64 0) (.slice none 0 0) (.bool false)
      rw [← hW5] at hr5 hF5
      unfold setR at hW5
      rw [← hW5]
      have hfin := put_done HST.out HRB.out (Nat.le_succ _) HFR.out hF5
      exact bodyPost_ret (ret_rep rfl _ _ (w.heap.size + 1) rfl hr5) rfl (Do1.no HPE.out (by decide) hfin)
    have hb1 : (vr == 0) = false := beq_eq_false_iff_ne.2 hvr
    have hb2 : (vr != 0) = true := by simp [hvr]
    by_cases hvv : ¬ yv = vr
    case pos =>
      have HPE := Lib.hid (show putDE σ 2 ky vr n = 8 from by unfold putDE; rw [if_neg HK1.out, if_pos ⟨rfl, by rw [HDV.out]; exact fun h => hvv h.symm⟩])
      have hb3 : (yv == vr) = false := beq_eq_false_iff_ne.2 hvv
      have hb4 : (yv != vr) = true := by simp [hvv]
      go_upto_region 10 with fail
      go_quiet (fail)
      rename Nat => nqW8
      have HEX := Lib.hid (HE.out.drewN nqW8)
      obtain ⟨W8, hWX⟩ : ∃ W8, W8 = W1.drewN nqW8 := ⟨_, rfl⟩
      rw [← hWX] at HEX
      rw [← hWX]
      clear HE hWX HR0 hk0 hr0 hS0
      have HE := HEX
      clear HEX
      have hz0 := HE.out.sz
      have hk0 : w.heap.size < W8.heap.size := by omega
      have hr0 : w.heap.size + 1 < W8.heap.size := by omega
      have hS0 : S < W8.heap.size := by omega
      clear hz0
      have HR0 := Lib.hid (Below.refl W8.heap.size W8)
      go_wp2_with fail
      refine (dbad_any 8 W8).mono ?_
      rintro e wE ⟨rfl, hbE⟩
      unfold repA
      have hbe := HR0.out.trans (hbE.mono HR0.out.size)
      have HRB := Lib.hid ((hbe.block (w.heap.size + 1) hr0).trans HE.out.rb)
      have HST := Lib.hid (HE.out.st.below hbe)
      have HFR := Lib.hid (show Frm (DF S σ) w wE from Frm.ofBelow (HE.out.bel.trans (hbe.mono HE.out.bel.size)))
      obtain ⟨⟨q0, q1, q2, q3, q4, q5, q6⟩, r0, r1, r2, r3, r4, r5, r6⟩ := rb_cells HRB.out
      clear hbE hbe
      go_wp2_with fail
      clear q0 q1 q2 q3 q4 q5 q6 r0 r1 r2 r3 r4 r5 r6
      obtain ⟨W5, hW5⟩ : ∃ W5, W5 = setR wE (w.heap.size + 1) (.int .i64 8) (.slice none 0 0) (.int .i64 0) (.int .i64 0) (.int .i64 0) (.slice none 0 0) (.bool false) := ⟨_, rfl⟩
      have hr5 := setR_at0 HRB.out (.int .i64 8) (.slice none 0 0) (.int .i64 0) (.int .i64 0) (.int .i64 0) (.slice none 0 0) (.bool false)
      have hF5 := (Frm.refl (fun b => b = w.heap.size + 1) wE).setR (R := w.heap.size + 1) (.inl rfl) (.int .i64 8) (.slice none 0 0) (.int .i64 0) (.int .i64 0) (.int .i64 0) (.slice none 0 0) (.bool false)
      rw [← hW5] at hr5 hF5
      unfold setR at hW5
      rw [← hW5]
      have hfin := put_done HST.out HRB.out (Nat.le_succ _) HFR.out hF5
      exact bodyPost_ret (ret_rep rfl _ _ (w.heap.size + 1) rfl hr5) rfl (Do1.no HPE.out (by decide) hfin)
    have hvv0 : yv = vr := by omega
    subst hvv0
    have HK2 := Lib.hid (show yv = dVer σ ky from HDV.out.symm)
    go_upto_region 10 with fail
    go_quiet (fail)
    rename Nat => nqW8
    clear k0 k3 k1 c0 v1 v2
    have HEX := Lib.hid (HE.out.drewN nqW8)
    obtain ⟨W8, hWX⟩ : ∃ W8, W8 = W1.drewN nqW8 := ⟨_, rfl⟩
    rw [← hWX] at HEX
    rw [← hWX]
    clear HE hWX HR0 hk0 hr0 hS0
    have HE := HEX
    clear HEX
    have hz0 := HE.out.sz
    have hk0 : w.heap.size < W8.heap.size := by omega
    have hr0 : w.heap.size + 1 < W8.heap.size := by omega
    have hS0 : S < W8.heap.size := by omega
    clear hz0
    have HR0 := Lib.hid (Below.refl W8.heap.size W8)
    have k2 := cell_blkD HE.out.cb (i := 2) (u := .slice a n c) rfl
    by_cases hn5 : 262144 < n
    case pos =>
      have hn5' : (262144 : Int) < (n : Int) := by omega
      have HPE := Lib.hid (show putDE σ 2 ky yv n = 5 from by unfold putDE; rw [if_neg HK1.out, if_neg (fun g => g.2 HK2.out), if_pos hn5])
      go_wp2_with fail
      refine (dbad_any 5 W8).mono ?_
      rintro e wE ⟨rfl, hbE⟩
      unfold repA
      have hbe := HR0.out.trans (hbE.mono HR0.out.size)
      have HRB := Lib.hid ((hbe.block (w.heap.size + 1) hr0).trans HE.out.rb)
      have HST := Lib.hid (HE.out.st.below hbe)
      have HFR := Lib.hid (show Frm (DF S σ) w wE from Frm.ofBelow (HE.out.bel.trans (hbe.mono HE.out.bel.size)))
      obtain ⟨⟨q0, q1, q2, q3, q4, q5, q6⟩, r0, r1, r2, r3, r4, r5, r6⟩ := rb_cells HRB.out
      clear hbE hbe
      go_wp2_with fail
      clear q0 q1 q2 q3 q4 q5 q6 r0 r1 r2 r3 r4 r5 r6
      obtain ⟨W5, hW5⟩ : ∃ W5, W5 = setR wE (w.heap.size + 1) (.int .i64 5) (.slice none 0 0) (.int .i64 0) (.int .i64 0) (.int .i64 0) (.slice none 0 0) (.bool false) := ⟨_, rfl⟩
      have hr5 := setR_at0 HRB.out (.int .i64 5) (.slice none 0 0) (.int .i64 0) (.int .i64 0) (.int .i64 0) (.slice none 0 0) (.bool false)
      have hF5 := (Frm.refl (fun b => b = w.heap.size + 1) wE).setR (R := w.heap.size + 1) (.inl rfl) (.int .i64 5) (.slice none 0 0) (.int .i64 0) (.int .i64 0) (.int .i64 0) (.slice none 0 0) (.bool false)
      rw [← hW5] at hr5 hF5
      unfold setR at hW5
      rw [← hW5]
      have hfin := put_done HST.out HRB.out (Nat.le_succ _) HFR.out hF5
      exact bodyPost_ret (ret_rep rfl _ _ (w.heap.size + 1) rfl hr5) rfl (Do1.no HPE.out (by decide) hfin)
    have hn5' : ¬ (262144 : Int) < (n : Int) := by omega
    have HNW := Lib.hid (show atK σ.objs ky = -1 → σ.objs.length < 512 from fun g => by rw [HAT1.out] at g; omega)
    have HNF := Lib.hid (show (objD σ ky).isNone = true → 512 ≤ σ.objs.length → False from fun g _ => by rw [HOD.out] at g; cases g)
    go_upto_region 14 with fail
    clear k2
    have HI14 := Lib.hid (Below.refl W8.heap.size W8).drew
    have wt1 : IntKind.i64.wrap ((T : Int) - ((yn : Nat) : Int)) = ((T : Int) - ((yn : Nat) : Int)) := IntWalk.i64_in _ (by omega)
    have wt2 : IntKind.i64.wrap (((T : Int) - ((yn : Nat) : Int)) + (n : Int)) = ((T : Int) - ((yn : Nat) : Int)) + (n : Int) := IntWalk.i64_in _ (by omega)
    refine wp_region_chain (by kernel_rfl) (by kernel_rfl) (by kernel_rfl) [12] true (by kernel_rfl) (fun k u y => match k with
        | 0 => Below W8.heap.size W8 y
        | _ => Below W8.heap.size W8 y ∧ True) (fun y => Below W8.heap.size W8 y) (fun j_9 => match j_9 with | 0 => some (.int .i64 (jo : Int)) | 1 => some (.bool false) | 2 => some (.bool false) | 3 => some (undef) | 4 => some (undef) | 5 => some (undef) | 6 => some (undef) | 7 => some (undef) | 8 => some (undef) | 9 => some (.bool false) | 10 => some (.bool false) | 11 => some ((.pointer (some ⟨S, 0, none⟩))) | 12 => some (.int .i64 (T : Int)) | 13 => some (.int .i64 ((yn : Nat) : Int)) | 14 => some (.int .i64 ((T : Int) - ((yn : Nat) : Int))) | 15 => some ((.pointer (some ⟨w.heap.size, 2, none⟩))) | 16 => some (.slice a n c) | 17 => some (.int .i64 (n : Int)) | 18 => some (.int .i64 (((T : Int) - ((yn : Nat) : Int)) + (n : Int))) | 19 => some (.bool (decide ((4194304 : Int) < ((T : Int) - ((yn : Nat) : Int)) + (n : Int)))) | 20 => some (.bool (decide ((4194304 : Int) < ((T : Int) - ((yn : Nat) : Int)) + (n : Int)))) | _ => none) (by rfl) (fun u => HI14.out) (fun k u y hk9 hk hs => by
        match k, hk, hs with
        | 0, _, hs => exact hs
        | 1, _, hs => exact hs.1) ?_ ?_ ?_
    · intro i9 o ho hc9 V w9 K hR9 hdep hK
      have HR9 := Lib.hid hR9
      simp only [fill, slotOf, List.size_toArray, List.length_cons, List.length_nil, Nat.reduceAdd, List.getElem?_toArray, List.getElem?_cons_zero, List.getElem?_cons_succ, Option.bind_some, Act.put, List.setIfInBounds_toArray, List.set_cons_zero, List.set_cons_succ] at hK ⊢
      have hin9 : i9 < 21 := (Array.getElem?_eq_some_iff.1 ho).1
      have hcs : i9 = 0 ∨ i9 = 1 ∨ i9 = 2 ∨ i9 = 3 ∨ i9 = 4 ∨ i9 = 5 ∨ i9 = 6 ∨ i9 = 7 ∨ i9 = 8 ∨ i9 = 9 ∨ i9 = 10 ∨ i9 = 11 ∨ i9 = 12 ∨ i9 = 13 ∨ i9 = 14 ∨ i9 = 15 ∨ i9 = 16 ∨ i9 = 17 ∨ i9 = 18 ∨ i9 = 19 ∨ i9 = 20 := by omega
      clear hin9
      rcases hcs with rfl | rfl | rfl | rfl | rfl | rfl | rfl | rfl | rfl | rfl | rfl | rfl | rfl | rfl | rfl | rfl | rfl | rfl | rfl | rfl | rfl
      · obtain rfl := Option.some.inj ho.symm
        clear hdep ho hR9 hc9
        try simp only [fill, slotOf, List.size_toArray, List.length_cons, List.length_nil, Nat.reduceAdd, List.getElem?_toArray, List.getElem?_cons_zero, List.getElem?_cons_succ, Option.bind_some, Act.put, List.setIfInBounds_toArray, List.set_cons_zero, List.set_cons_succ] at hK ⊢
        go_simp
        exact hK (.int .i64 (jo : Int)) rfl _ rfl
      · obtain rfl := Option.some.inj ho.symm
        have d0 : V 0 = .int .i64 (jo : Int) := hdep ⟨0, .data⟩ (by simp) rfl _ rfl
        clear hdep ho hR9 hc9
        try simp only [fill, slotOf, List.size_toArray, List.length_cons, List.length_nil, Nat.reduceAdd, List.getElem?_toArray, List.getElem?_cons_zero, List.getElem?_cons_succ, Option.bind_some, Act.put, List.setIfInBounds_toArray, List.set_cons_zero, List.set_cons_succ] at hK ⊢
        rw [d0] at hK ⊢
        go_simp
        exact hK (.bool false) rfl _ rfl
      · obtain rfl := Option.some.inj ho.symm
        have d1 : V 1 = .bool false := hdep ⟨1, .data⟩ (by simp) rfl _ rfl
        clear hdep ho hR9 hc9
        try simp only [fill, slotOf, List.size_toArray, List.length_cons, List.length_nil, Nat.reduceAdd, List.getElem?_toArray, List.getElem?_cons_zero, List.getElem?_cons_succ, Option.bind_some, Act.put, List.setIfInBounds_toArray, List.set_cons_zero, List.set_cons_succ] at hK ⊢
        rw [d1] at hK ⊢
        go_simp
        exact hK (.bool false) rfl _ rfl
      · obtain rfl := Option.some.inj ho.symm
        have d2 : V 2 = .bool false := hdep ⟨2, .guard⟩ (by simp) rfl _ rfl
        clear hdep ho hR9 hc9
        try simp only [fill, slotOf, List.size_toArray, List.length_cons, List.length_nil, Nat.reduceAdd, List.getElem?_toArray, List.getElem?_cons_zero, List.getElem?_cons_succ, Option.bind_some, Act.put, List.setIfInBounds_toArray, List.set_cons_zero, List.set_cons_succ] at hK ⊢
        rw [d2] at hK ⊢
        go_simp
        exact hK (undef) rfl _ rfl
      · obtain rfl := Option.some.inj ho.symm
        have d3 : V 3 = undef := hdep ⟨3, .data⟩ (by simp) rfl _ rfl
        have d2 : V 2 = .bool false := hdep ⟨2, .guard⟩ (by simp) rfl _ rfl
        clear hdep ho hR9 hc9
        try simp only [fill, slotOf, List.size_toArray, List.length_cons, List.length_nil, Nat.reduceAdd, List.getElem?_toArray, List.getElem?_cons_zero, List.getElem?_cons_succ, Option.bind_some, Act.put, List.setIfInBounds_toArray, List.set_cons_zero, List.set_cons_succ] at hK ⊢
        rw [d3, d2] at hK ⊢
        go_simp
        exact hK (undef) rfl _ rfl
      · obtain rfl := Option.some.inj ho.symm
        have d4 : V 4 = undef := hdep ⟨4, .data⟩ (by simp) rfl _ rfl
        have d2 : V 2 = .bool false := hdep ⟨2, .guard⟩ (by simp) rfl _ rfl
        clear hdep ho hR9 hc9
        try simp only [fill, slotOf, List.size_toArray, List.length_cons, List.length_nil, Nat.reduceAdd, List.getElem?_toArray, List.getElem?_cons_zero, List.getElem?_cons_succ, Option.bind_some, Act.put, List.setIfInBounds_toArray, List.set_cons_zero, List.set_cons_succ] at hK ⊢
        rw [d4, d2] at hK ⊢
        go_simp
        exact hK (undef) rfl _ rfl
      · obtain rfl := Option.some.inj ho.symm
        have d5 : V 5 = undef := hdep ⟨5, .data⟩ (by simp) rfl _ rfl
        have d2 : V 2 = .bool false := hdep ⟨2, .guard⟩ (by simp) rfl _ rfl
        clear hdep ho hR9 hc9
        try simp only [fill, slotOf, List.size_toArray, List.length_cons, List.length_nil, Nat.reduceAdd, List.getElem?_toArray, List.getElem?_cons_zero, List.getElem?_cons_succ, Option.bind_some, Act.put, List.setIfInBounds_toArray, List.set_cons_zero, List.set_cons_succ] at hK ⊢
        rw [d5, d2] at hK ⊢
        go_simp
        exact hK (undef) rfl _ rfl
      · obtain rfl := Option.some.inj ho.symm
        have d6 : V 6 = undef := hdep ⟨6, .data⟩ (by simp) rfl _ rfl
        have d2 : V 2 = .bool false := hdep ⟨2, .guard⟩ (by simp) rfl _ rfl
        clear hdep ho hR9 hc9
        try simp only [fill, slotOf, List.size_toArray, List.length_cons, List.length_nil, Nat.reduceAdd, List.getElem?_toArray, List.getElem?_cons_zero, List.getElem?_cons_succ, Option.bind_some, Act.put, List.setIfInBounds_toArray, List.set_cons_zero, List.set_cons_succ] at hK ⊢
        rw [d6, d2] at hK ⊢
        go_simp
        exact hK (undef) rfl _ rfl
      · obtain rfl := Option.some.inj ho.symm
        have d7 : V 7 = undef := hdep ⟨7, .data⟩ (by simp) rfl _ rfl
        have d2 : V 2 = .bool false := hdep ⟨2, .guard⟩ (by simp) rfl _ rfl
        clear hdep ho hR9 hc9
        try simp only [fill, slotOf, List.size_toArray, List.length_cons, List.length_nil, Nat.reduceAdd, List.getElem?_toArray, List.getElem?_cons_zero, List.getElem?_cons_succ, Option.bind_some, Act.put, List.setIfInBounds_toArray, List.set_cons_zero, List.set_cons_succ] at hK ⊢
        rw [d7, d2] at hK ⊢
        go_simp
        exact hK (undef) rfl _ rfl
      · obtain rfl := Option.some.inj ho.symm
        have d2 : V 2 = .bool false := hdep ⟨2, .data⟩ (by simp) rfl _ rfl
        have d8 : V 8 = undef := hdep ⟨8, .data⟩ (by simp) rfl _ rfl
        clear hdep ho hR9 hc9
        try simp only [fill, slotOf, List.size_toArray, List.length_cons, List.length_nil, Nat.reduceAdd, List.getElem?_toArray, List.getElem?_cons_zero, List.getElem?_cons_succ, Option.bind_some, Act.put, List.setIfInBounds_toArray, List.set_cons_zero, List.set_cons_succ] at hK ⊢
        rw [d2, d8] at hK ⊢
        go_simp
        exact hK (.bool false) rfl _ rfl
      · obtain rfl := Option.some.inj ho.symm
        have d9 : V 9 = .bool false := hdep ⟨9, .data⟩ (by simp) rfl _ rfl
        clear hdep ho hR9 hc9
        try simp only [fill, slotOf, List.size_toArray, List.length_cons, List.length_nil, Nat.reduceAdd, List.getElem?_toArray, List.getElem?_cons_zero, List.getElem?_cons_succ, Option.bind_some, Act.put, List.setIfInBounds_toArray, List.set_cons_zero, List.set_cons_succ] at hK ⊢
        rw [d9] at hK ⊢
        go_simp
        exact hK (.bool false) rfl _ rfl
      · obtain rfl := Option.some.inj ho.symm
        have d10 : V 10 = .bool false := hdep ⟨10, .guard⟩ (by simp) rfl _ rfl
        clear hdep ho hR9 hc9
        try simp only [fill, slotOf, List.size_toArray, List.length_cons, List.length_nil, Nat.reduceAdd, List.getElem?_toArray, List.getElem?_cons_zero, List.getElem?_cons_succ, Option.bind_some, Act.put, List.setIfInBounds_toArray, List.set_cons_zero, List.set_cons_succ] at hK ⊢
        rw [d10] at hK ⊢
        go_simp
        exact hK ((.pointer (some ⟨S, 0, none⟩))) rfl _ rfl
      · cases hc9
      · obtain rfl := Option.some.inj ho.symm
        have d10 : V 10 = .bool false := hdep ⟨10, .guard⟩ (by simp) rfl _ rfl
        clear hdep ho hR9 hc9
        try simp only [fill, slotOf, List.size_toArray, List.length_cons, List.length_nil, Nat.reduceAdd, List.getElem?_toArray, List.getElem?_cons_zero, List.getElem?_cons_succ, Option.bind_some, Act.put, List.setIfInBounds_toArray, List.set_cons_zero, List.set_cons_succ] at hK ⊢
        rw [d10] at hK ⊢
        go_simp
        exact hK (.int .i64 ((yn : Nat) : Int)) rfl _ rfl
      · obtain rfl := Option.some.inj ho.symm
        have d12 : V 12 = .int .i64 (T : Int) := hdep ⟨12, .data⟩ (by simp) rfl _ rfl
        have d13 : V 13 = .int .i64 ((yn : Nat) : Int) := hdep ⟨13, .data⟩ (by simp) rfl _ rfl
        have d10 : V 10 = .bool false := hdep ⟨10, .guard⟩ (by simp) rfl _ rfl
        clear hdep ho hR9 hc9
        try simp only [fill, slotOf, List.size_toArray, List.length_cons, List.length_nil, Nat.reduceAdd, List.getElem?_toArray, List.getElem?_cons_zero, List.getElem?_cons_succ, Option.bind_some, Act.put, List.setIfInBounds_toArray, List.set_cons_zero, List.set_cons_succ] at hK ⊢
        rw [d12, d13, d10] at hK ⊢
        go_simp
        exact hK (.int .i64 ((T : Int) - ((yn : Nat) : Int))) rfl _ rfl
      · obtain rfl := Option.some.inj ho.symm
        have d10 : V 10 = .bool false := hdep ⟨10, .guard⟩ (by simp) rfl _ rfl
        clear hdep ho hR9 hc9
        try simp only [fill, slotOf, List.size_toArray, List.length_cons, List.length_nil, Nat.reduceAdd, List.getElem?_toArray, List.getElem?_cons_zero, List.getElem?_cons_succ, Option.bind_some, Act.put, List.setIfInBounds_toArray, List.set_cons_zero, List.set_cons_succ] at hK ⊢
        rw [d10] at hK ⊢
        go_simp
        exact hK ((.pointer (some ⟨w.heap.size, 2, none⟩))) rfl _ rfl
      · obtain rfl := Option.some.inj ho.symm
        have d15 : V 15 = (.pointer (some ⟨w.heap.size, 2, none⟩)) := hdep ⟨15, .data⟩ (by simp) rfl _ rfl
        have d10 : V 10 = .bool false := hdep ⟨10, .guard⟩ (by simp) rfl _ rfl
        have u0 := cell_blkD (cells_of_below HR9.out HE.out.cb) (i := 2) (u := .slice a n c) rfl
        clear hdep ho hR9 hc9
        try simp only [fill, slotOf, List.size_toArray, List.length_cons, List.length_nil, Nat.reduceAdd, List.getElem?_toArray, List.getElem?_cons_zero, List.getElem?_cons_succ, Option.bind_some, Act.put, List.setIfInBounds_toArray, List.set_cons_zero, List.set_cons_succ] at hK ⊢
        rw [d15, d10] at hK ⊢
        go_simp
        exact hK (.slice a n c) rfl _ rfl
      · obtain rfl := Option.some.inj ho.symm
        have d16 : V 16 = .slice a n c := hdep ⟨16, .data⟩ (by simp) rfl _ rfl
        have d10 : V 10 = .bool false := hdep ⟨10, .guard⟩ (by simp) rfl _ rfl
        clear hdep ho hR9 hc9
        try simp only [fill, slotOf, List.size_toArray, List.length_cons, List.length_nil, Nat.reduceAdd, List.getElem?_toArray, List.getElem?_cons_zero, List.getElem?_cons_succ, Option.bind_some, Act.put, List.setIfInBounds_toArray, List.set_cons_zero, List.set_cons_succ] at hK ⊢
        rw [d16, d10] at hK ⊢
        go_simp
        exact hK (.int .i64 (n : Int)) rfl _ rfl
      · obtain rfl := Option.some.inj ho.symm
        have d14 : V 14 = .int .i64 ((T : Int) - ((yn : Nat) : Int)) := hdep ⟨14, .data⟩ (by simp) rfl _ rfl
        have d17 : V 17 = .int .i64 (n : Int) := hdep ⟨17, .data⟩ (by simp) rfl _ rfl
        have d10 : V 10 = .bool false := hdep ⟨10, .guard⟩ (by simp) rfl _ rfl
        clear hdep ho hR9 hc9
        try simp only [fill, slotOf, List.size_toArray, List.length_cons, List.length_nil, Nat.reduceAdd, List.getElem?_toArray, List.getElem?_cons_zero, List.getElem?_cons_succ, Option.bind_some, Act.put, List.setIfInBounds_toArray, List.set_cons_zero, List.set_cons_succ] at hK ⊢
        rw [d14, d17, d10] at hK ⊢
        go_simp
        exact hK (.int .i64 (((T : Int) - ((yn : Nat) : Int)) + (n : Int))) rfl _ rfl
      · obtain rfl := Option.some.inj ho.symm
        have d18 : V 18 = .int .i64 (((T : Int) - ((yn : Nat) : Int)) + (n : Int)) := hdep ⟨18, .data⟩ (by simp) rfl _ rfl
        have d10 : V 10 = .bool false := hdep ⟨10, .guard⟩ (by simp) rfl _ rfl
        clear hdep ho hR9 hc9
        try simp only [fill, slotOf, List.size_toArray, List.length_cons, List.length_nil, Nat.reduceAdd, List.getElem?_toArray, List.getElem?_cons_zero, List.getElem?_cons_succ, Option.bind_some, Act.put, List.setIfInBounds_toArray, List.set_cons_zero, List.set_cons_succ] at hK ⊢
        rw [d18, d10] at hK ⊢
        go_simp
        exact hK (.bool (decide ((4194304 : Int) < ((T : Int) - ((yn : Nat) : Int)) + (n : Int)))) rfl _ rfl
      · obtain rfl := Option.some.inj ho.symm
        have d10 : V 10 = .bool false := hdep ⟨10, .data⟩ (by simp) rfl _ rfl
        have d19 : V 19 = .bool (decide ((4194304 : Int) < ((T : Int) - ((yn : Nat) : Int)) + (n : Int))) := hdep ⟨19, .data⟩ (by simp) rfl _ rfl
        clear hdep ho hR9 hc9
        try simp only [fill, slotOf, List.size_toArray, List.length_cons, List.length_nil, Nat.reduceAdd, List.getElem?_toArray, List.getElem?_cons_zero, List.getElem?_cons_succ, Option.bind_some, Act.put, List.setIfInBounds_toArray, List.set_cons_zero, List.set_cons_succ] at hK ⊢
        rw [d10, d19] at hK ⊢
        go_simp
        exact hK (.bool (decide ((4194304 : Int) < ((T : Int) - ((yn : Nat) : Int)) + (n : Int)))) rfl _ rfl
    · intro i9 j9 o he9 ho V w9 K hS9 hdep hK
      simp only [fill, slotOf, List.size_toArray, List.length_cons, List.length_nil, Nat.reduceAdd, List.getElem?_toArray, List.getElem?_cons_zero, List.getElem?_cons_succ, Option.bind_some, Act.put, List.setIfInBounds_toArray, List.set_cons_zero, List.set_cons_succ] at hK ⊢
      have hin9 : i9 < 1 := (List.getElem?_eq_some_iff.1 he9).1
      have hcs : i9 = 0 := by omega
      clear hin9
      rcases hcs with rfl
      · obtain rfl := Option.some.inj he9.symm
        obtain rfl := Option.some.inj ho.symm
        have d11 : V 11 = (.pointer (some ⟨S, 0, none⟩)) := hdep ⟨11, .data⟩ (by simp) rfl _ rfl
        have d10 : V 10 = .bool false := hdep ⟨10, .guard⟩ (by simp) rfl _ rfl
        have hs : Below W8.heap.size W8 w9 := hS9
        have HSZ := Lib.hid (dsize_any (HE.out.st.below hs))
        rw [← HTT.out] at HSZ
        have HS9 := Lib.hid hs
        clear hdep ho he9 hS9 hs
        try simp only [fill, slotOf, List.size_toArray, List.length_cons, List.length_nil, Nat.reduceAdd, List.getElem?_toArray, List.getElem?_cons_zero, List.getElem?_cons_succ, Option.bind_some, Act.put, List.setIfInBounds_toArray, List.set_cons_zero, List.set_cons_succ] at hK ⊢
        rw [d11, d10] at hK ⊢
        go_simp
        refine HSZ.out.mono ?_
        rintro e w8 ⟨rfl, hb8⟩
        exact hK _ w8 ⟨HS9.out.trans (hb8.mono HS9.out.size), trivial⟩ (fun y h => Option.some.inj h) _ rfl
    · intro V w14 hS9 hv9
      have HB14 := Lib.hid (show Below W8.heap.size W8 w14 from hS9.1)
      have d20 : V 20 = .bool (decide ((4194304 : Int) < ((T : Int) - ((yn : Nat) : Int)) + (n : Int))) := hv9 20 _ (by decide) rfl
      clear hS9 hv9
      simp only [fill, slotOf, List.size_toArray, List.length_cons, List.length_nil, Nat.reduceAdd, List.getElem?_toArray, List.getElem?_cons_zero, List.getElem?_cons_succ, Option.bind_some, Act.put, List.setIfInBounds_toArray, List.set_cons_zero, List.set_cons_succ]
      rw [d20]
      clear d20
      by_cases htot : (4194304 : Int) < ((T : Int) - ((yn : Nat) : Int)) + (n : Int)
      case pos =>
        have HPE := Lib.hid (show putDE σ 2 ky yv n = 9 from by unfold putDE; rw [if_neg HK1.out, if_neg (fun g => g.2 HK2.out), if_neg hn5, HDH.out, ← HTT.out]; rw [if_pos (.inr (by omega))])
        rw [decide_eq_true htot]
        go_wp2_with fail
        refine (dbad_any 9 w14).mono ?_
        rintro e wE ⟨rfl, hbE⟩
        unfold repA
        have hbe := HB14.out.trans (hbE.mono HB14.out.size)
        have HRB := Lib.hid ((hbe.block (w.heap.size + 1) hr0).trans HE.out.rb)
        have HST := Lib.hid (HE.out.st.below hbe)
        have HFR := Lib.hid (show Frm (DF S σ) w wE from Frm.ofBelow (HE.out.bel.trans (hbe.mono HE.out.bel.size)))
        obtain ⟨⟨q0, q1, q2, q3, q4, q5, q6⟩, r0, r1, r2, r3, r4, r5, r6⟩ := rb_cells HRB.out
        clear hbE hbe
        go_wp2_with fail
        clear q0 q1 q2 q3 q4 q5 q6 r0 r1 r2 r3 r4 r5 r6
        obtain ⟨W5, hW5⟩ : ∃ W5, W5 = setR wE (w.heap.size + 1) (.int .i64 9) (.slice none 0 0) (.int .i64 0) (.int .i64 0) (.int .i64 0) (.slice none 0 0) (.bool false) := ⟨_, rfl⟩
        have hr5 := setR_at0 HRB.out (.int .i64 9) (.slice none 0 0) (.int .i64 0) (.int .i64 0) (.int .i64 0) (.slice none 0 0) (.bool false)
        have hF5 := (Frm.refl (fun b => b = w.heap.size + 1) wE).setR (R := w.heap.size + 1) (.inl rfl) (.int .i64 9) (.slice none 0 0) (.int .i64 0) (.int .i64 0) (.int .i64 0) (.slice none 0 0) (.bool false)
        rw [← hW5] at hr5 hF5
        unfold setR at hW5
        rw [← hW5]
        have hfin := put_done HST.out HRB.out (Nat.le_succ _) HFR.out hF5
        exact bodyPost_ret (ret_rep rfl _ _ (w.heap.size + 1) rfl hr5) rfl (Do1.no HPE.out (by decide) hfin)
      case neg =>
        have HPE := Lib.hid (show putDE σ 2 ky yv n = 0 from by unfold putDE; rw [if_neg HK1.out, if_neg (fun g => g.2 HK2.out), if_neg hn5, HDH.out, ← HTT.out]; rw [if_neg (by rintro (⟨g1, g2⟩ | g1); exact HNF.out g1 g2; omega)])
        rw [decide_eq_false htot]
        have hB0 := HE.out.bel.trans (HB14.out.mono HE.out.bel.size)
        have k1 := cell_blkD (cells_of_below HB14.out HE.out.cb) (i := 1) (u := .string ky) rfl
        have k2 := cell_blkD (cells_of_below HB14.out HE.out.cb) (i := 2) (u := .slice a n c) rfl
        have HPT := Lib.hid (dput_any (HE.out.st.below HB14.out) ky (hx.kept hB0) hver (Nat.le_trans hbs hB0.size) (by omega) HNW.out)
        have HFD := Lib.hid (show Frm (DF S σ) w w14 from Frm.ofBelow hB0)
        have HRD := Lib.hid (cells_of_below HB14.out HE.out.rb)
        have HSD := Lib.hid (HE.out.st.below HB14.out)
        clear hB0
        go_wp2_with fail
        refine HPT.out.mono ?_
        rintro e wp ⟨rfl, oa', oc', da', dc', hst, hfr, hfb⟩
        have hfr2 : Frm (DF S σ) w14 wp := hfr.imp (fun b hb => hb.elim .inl (fun g => .inr (.inl g)))
        have HST := Lib.hid hst
        have HFR := Lib.hid (HFD.out.trans hfr2 (fun b hb => .inl hb))
        have HRB := Lib.hid (rb_kept HSD.out HRD.out hfr2)
        obtain ⟨⟨q0, q1, q2, q3, q4, q5, q6⟩, r0, r1, r2, r3, r4, r5, r6⟩ := rb_cells HRB.out
        clear hst hfr hfr2 k1 k2
        unfold rep
        go_wp2_with fail
        clear q0 q1 q2 q3 q4 q5 q6 r0 r1 r2 r3 r4 r5 r6
        obtain ⟨W5, hW5⟩ : ∃ W5, W5 = setR wp (w.heap.size + 1) (.int .i64 0) (.slice none 0 0) (.int .i64 (σ.ver + 1)) (.int .i64 σ.now) (.int .i64 0) (.slice none 0 0) (.bool false) := ⟨_, rfl⟩
        have hr5 := setR_at0 HRB.out (.int .i64 0) (.slice none 0 0) (.int .i64 (σ.ver + 1)) (.int .i64 σ.now) (.int .i64 0) (.slice none 0 0) (.bool false)
        have hF5 := (Frm.refl (fun b => b = w.heap.size + 1) wp).setR (R := w.heap.size + 1) (.inl rfl) (.int .i64 0) (.slice none 0 0) (.int .i64 (σ.ver + 1)) (.int .i64 σ.now) (.int .i64 0) (.slice none 0 0) (.bool false)
        rw [← hW5] at hr5 hF5
        unfold setR at hW5
        rw [← hW5]
        have hfin := put_done HST.out HRB.out (Nat.le_succ _) HFR.out hF5
        exact bodyPost_ret (ret_rep rfl _ _ (w.heap.size + 1) rfl hr5) rfl ⟨fun e0 => absurd HPE.out e0, fun _ => ⟨rfl, ⟨oa', oc', da', dc', hfin.1, fun b hb => Nat.le_trans HFD.out.size (hfb b hb)⟩, hfin.2⟩⟩
end Go.Proofs.YtjafagfhkpaciaaGreat
end PkSP6_1
section PkSP6_2
/- Chapter 14's lives: what is put is got. -/
namespace Go.Proofs.YtjafagfhkpaciaaGreat
open Go.RowKit
set_option linter.unusedVariables false

theorem bytes_mark (w : World) (x : Nat) (hx : x < 256) : BytesAt (w.alloc (.cells #[.int .u8 ((x : Nat) : Int)] 5 (1, 2))) (some ⟨w.heap.size, 0, none⟩) 1 1 [x] := by
  refine ⟨rfl, Nat.le_refl _, (fun y hy => by rw [List.mem_singleton.1 hy]; exact hx), by decide, by decide, (fun e => by cases e), fun _ => ⟨w.heap.size, 0, rfl, by simp, fun i hi => ?_⟩⟩
  obtain rfl : i = 0 := by omega
  exact (cell_of_row _ _ 0 _ _ _ (heap_new w _)).trans rfl
theorem StAt.not {w : World} {s Mo Mu : Nat} {σ : Sto} (h : StAt w s Mo Mu σ) {b : Nat} {cs : Array Value} {t : TypeId} {fr : Nat × Nat} (hb : w.heap[b]? = some (.cells cs t fr)) (ht : t ≠ 51) : ¬ StF s Mo Mu σ b := by
  have hgm : ∀ {κ α : Type} {T : MTy} {lit : κ → Lit} {f : α → Value} {l : List (κ × α)}, GM T lit f w b l → False := fun g => by
    obtain ⟨es, c, he⟩ := gm_obj g
    rw [hb] at he; cases he
  rintro (rfl | rfl | rfl | ⟨p, hp, rfl⟩)
  · have := h.blk
    rw [hb] at this
    cases this
    exact ht rfl
  · exact hgm h.obj
  · exact hgm h.upl
  · exact hgm (h.prt p hp)
set_option maxRecDepth 100000 in
set_option maxHeartbeats 4000000 in
theorem lives_any (w : World) :
    Calls Tryz.prog 5 #[] w fun e w' => e = .returned (.bool true) ∧ Below w.heap.size w w' := by
  have HN := Lib.hid (new_any w)
  have hb1 : Below w.heap.size w (w.alloc (.cells #[.map none, .map none, .int .i64 0, .int .i64 0, .int .i64 0, .int .i64 0] 51)) := (Below.refl _ _).alloc (Nat.le_refl _) _
  have hf1 : FreshAt (w.alloc (.cells #[.map none, .map none, .int .i64 0, .int .i64 0, .int .i64 0, .int .i64 0] 51)) w.heap.size 0 := .new (heap_new w _)
  obtain ⟨w1, hw1⟩ : ∃ w1, w1 = w.alloc (.cells #[.map none, .map none, .int .i64 0, .int .i64 0, .int .i64 0, .int .i64 0] 51) := ⟨_, rfl⟩
  have hz1 : w1.heap.size = w.heap.size + 1 := by rw [hw1]; simp
  rw [← hw1] at hb1 hf1
  have hcv := Lib.run_convert_bytes_const (P := Tryz.prog) w1 32 5 #[.int .u8 120] 1 1 Tryz.underlying32 Tryz.underlying5
  have HW1 := Lib.hid hw1
  have HF1 := Lib.hid hf1
  have HB1 := Lib.hid hb1
  have HZ1 := Lib.hid hz1
  clear hw1 hf1 hb1 hz1
  obtain ⟨w2, hw2⟩ : ∃ w2, w2 = w1.alloc (.cells #[.int .u8 120] 5 (1, 2)) := ⟨_, rfl⟩
  have HW2 := Lib.hid hw2
  rw [show ((#[.int .u8 120] : Array Value).size, (#[.int .u8 120] : Array Value).size + 1) = (1, 2) from rfl, ← hw2] at hcv
  have hb2 : Below w1.heap.size w1 w2 := by rw [hw2]; exact (Below.refl _ _).alloc (Nat.le_refl _) _
  have hf2 : FreshAt w2 w.heap.size 0 := HF1.out.below hb2
  have hz2 : w2.heap.size = w1.heap.size + 1 := by rw [hw2]; simp
  have hx2 : BytesAt w2 (some ⟨w1.heap.size, 0, none⟩) 1 1 [120] := by rw [hw2]; exact bytes_mark w1 120 (by decide)
  have HS2 : SAt w2 w.heap.size (w2.heap.size + 2) (w2.heap.size + 3) (sto0 0) := .inr ⟨hf2, rfl, rfl, rfl⟩
  have HP := Lib.hid (doPutIf (vr := 0) (at_ := 0) (nn := 0) (id := 0) (ky := ⟨#[97]⟩) HS2 hx2 (by decide) (inv0.ok (by decide) (by decide)))
  have HB2 := Lib.hid hb2
  have HF2 := Lib.hid hf2
  have HZ2 := Lib.hid hz2
  clear hw2 hf2 hx2 HS2 hb2 hz2
  go_enter Tryz.func5, Tryz.ntmps5
  go_wp2_with fail
  refine HN.out.mono ?_
  rintro e w1' ⟨rfl, hw1'⟩
  rw [hw1', ← HW1.out]
  clear hw1' w1' HN
  go_wp2_with fail
  refine HP.out.mono ?_
  rintro e w3 ⟨hfr, _, hq⟩
  obtain ⟨rfl, hst⟩ := hq (by kernel_rfl)
  have HST := Lib.hid hst
  have HFR := Lib.hid hfr
  clear hst hfr hq HP hcv
  rw [show rep 0 (.slice none 0 0) ((sto0 0).ver + 1) (sto0 0).now 0 (.slice none 0 0) false = .agg #[.int .i64 0, .slice none 0 0, .int .i64 1, .int .i64 0, .int .i64 0, .slice none 0 0, .bool false] from rfl]
  obtain ⟨w4, hw4⟩ : ∃ w4, w4 = w3.alloc (.cells #[.int .i64 0, .slice none 0 0, .int .i64 1, .int .i64 0, .int .i64 0, .slice none 0 0, .bool false] 43) := ⟨_, rfl⟩
  have hb4 : Below w3.heap.size w3 w4 := by rw [hw4]; exact (Below.refl _ _).alloc (Nat.le_refl _) _
  have hk4 : w4.heap[w3.heap.size]? = some (.cells #[.int .i64 0, .slice none 0 0, .int .i64 1, .int .i64 0, .int .i64 0, .slice none 0 0, .bool false] 43 (0, 0)) := by rw [hw4]; exact heap_new w3 _
  have hst4 := HST.out.below hb4
  have hi4 : Inv (makeS (sto0 0) ⟨#[97]⟩ (bs [120])) := inv0.make (Apt.of (.inr ⟨HF2.out, rfl, rfl, rfl⟩ : SAt w2 w.heap.size (w2.heap.size + 2) (w2.heap.size + 3) (sto0 0))) (by kernel_rfl) (by decide) (fun _ => by decide) (by decide)
  have HG := Lib.hid (doGet (a := none) (n := 0) (c := 0) (vr := 0) (at_ := 0) (nn := 0) (id := 0) (ky := ⟨#[97]⟩) (.inl hst4) (by decide) (hi4.ok (by decide) (by decide)))
  have HW4 := Lib.hid hw4
  have HB4 := Lib.hid hb4
  have HK4 := Lib.hid hk4
  have HST4 := Lib.hid hst4
  clear hw4 hb4 hk4 hst4 hi4
  go_wp2_with fail
  rw [← HW4.out]
  refine HG.out.mono ?_
  rintro e w5 ⟨hfr, hst, hq⟩
  have hob : objOf (makeS (sto0 0) ⟨#[97]⟩ (bs [120])) ⟨#[97]⟩ = some ⟨bs [120], 1, 0⟩ := by kernel_rfl
  rw [hob] at hq
  obtain ⟨g, c, rfl, hg, hby⟩ := hq
  rw [show rep 0 (.slice (some ⟨g, 0, none⟩) (⟨bs [120], 1, 0⟩ : ObjS).data.size c) (⟨bs [120], 1, 0⟩ : ObjS).ver (⟨bs [120], 1, 0⟩ : ObjS).born 0 (.slice none 0 0) false = .agg #[.int .i64 0, .slice (some ⟨g, 0, none⟩) 1 c, .int .i64 1, .int .i64 0, .int .i64 0, .slice none 0 0, .bool false] from rfl]
  obtain ⟨w6, hw6⟩ : ∃ w6, w6 = w5.alloc (.cells #[.int .i64 0, .slice (some ⟨g, 0, none⟩) 1 c, .int .i64 1, .int .i64 0, .int .i64 0, .slice none 0 0, .bool false] 43) := ⟨_, rfl⟩
  have hb6 : Below w5.heap.size w5 w6 := by rw [hw6]; exact (Below.refl _ _).alloc (Nat.le_refl _) _
  have hk6 : w6.heap[w5.heap.size]? = some (.cells #[.int .i64 0, .slice (some ⟨g, 0, none⟩) 1 c, .int .i64 1, .int .i64 0, .int .i64 0, .slice none 0 0, .bool false] 43 (0, 0)) := by rw [hw6]; exact heap_new w5 _
  have hby6 := hby.kept hb6
  have hcv : (convert 32 9 (.slice (some ⟨g, 0, none⟩) 1 c)).run Tryz.prog w6 = .ok (.string { data := #[120] }) w6 := hby6.conv
  have hk5 := hfr.at HK4.out (HST4.out.not HK4.out (by decide))
  have hk45 := (hb6.block w3.heap.size (Array.getElem?_eq_some_iff.1 hk5).1).trans hk5
  have c0 := cell_blk2 hk45 (i := 0) (u := .int .i64 0) rfl
  have c2 := cell_blk2 hk45 (i := 2) (u := .int .i64 1) rfl
  have c1 := cell_blk2 hk6 (i := 1) (u := .slice (some ⟨g, 0, none⟩) 1 c) rfl
  have HW6 := Lib.hid hw6
  have z1 := HZ1.out
  have z2 := HZ2.out
  have hF3 : ∀ i, StF w.heap.size (w2.heap.size + 2) (w2.heap.size + 3) (sto0 0) i → w.heap.size ≤ i := by
    rintro i (rfl | rfl | rfl | ⟨p, hp, rfl⟩)
    · exact Nat.le_refl _
    · omega
    · omega
    · cases hp
  have hF5 : ∀ i, StF w.heap.size (w2.heap.size + 2) (w2.heap.size + 3) (makeS (sto0 0) ⟨#[97]⟩ (bs [120])) i → w.heap.size ≤ i := fun i hi => hF3 i hi
  have b2 := HB1.out.trans (HB2.out.mono (by omega))
  have b3 := b2.trans (HFR.out.toBelow (by omega) hF3)
  have b4 := b3.trans (HB4.out.mono b3.size)
  have b5 := b4.trans (hfr.toBelow b4.size hF5)
  have HBE := Lib.hid (b5.trans (hb6.mono b5.size))
  clear hb6 hk6 hby6 hk5 hk45 hw6 z1 z2 hF3 hF5 b2 b3 b4 b5 hob hby hst hfr HG HB4 HK4 HST4 HW4 hg
  go_upto_region 4 with fail
  rw [← HW6.out]
  go_wp2_with fail
  first | go_ret2 | go_ret
  exact ⟨rfl, HBE.out⟩
end Go.Proofs.YtjafagfhkpaciaaGreat
end PkSP6_2
section PkSP6_3
/- A law's steps over the store, its maps made or not. -/
namespace Go.Proofs.YtjafagfhkpaciaaGreat
open Go.RowKit
set_option linter.unusedVariables false

/-- a store of the law's own -/
def StIn (base : Nat) (W : World) (s : Nat) (σ : Sto) : Prop := base ≤ s ∧ ((∃ Mo Mu, StAt W s Mo Mu σ ∧ ∀ b, StF s Mo Mu σ b → base ≤ b) ∨ (FreshAt W s σ.now ∧ σ = sto0 σ.now))
theorem StIn.below {base : Nat} {W W' : World} {s : Nat} {σ : Sto} (h : StIn base W s σ) (hb : Below W.heap.size W W') : StIn base W' s σ := by
  obtain ⟨h0, h | ⟨h1, h2⟩⟩ := h
  · obtain ⟨Mo, Mu, h1, h2⟩ := h
    exact ⟨h0, .inl ⟨Mo, Mu, h1.below hb, h2⟩⟩
  · exact ⟨h0, .inr ⟨h1.below hb, h2⟩⟩
theorem StIn.sat {base : Nat} {W : World} {s : Nat} {σ : Sto} (h : StIn base W s σ) (hb : base ≤ W.heap.size) : ∃ Mo Mu, SAt W s Mo Mu σ ∧ ∀ b, StF s Mo Mu σ b → base ≤ b := by
  obtain ⟨h0, h | ⟨h1, h2⟩⟩ := h
  · obtain ⟨Mo, Mu, h1, h2⟩ := h
    exact ⟨Mo, Mu, .inl h1, h2⟩
  · refine ⟨W.heap.size + 2, W.heap.size + 3, .inr ⟨h1, h2, rfl, rfl⟩, ?_⟩
    rintro b (g | g | g | ⟨p, hp, g⟩)
    · omega
    · omega
    · omega
    · rw [h2] at hp; cases hp
theorem SAt.not {W : World} {s Mo Mu : Nat} {σ : Sto} (h : SAt W s Mo Mu σ) {b : Nat} {cs : Array Value} {t : TypeId} {fr : Nat × Nat} (hb : W.heap[b]? = some (.cells cs t fr)) (ht : t ≠ 51) : ¬ StF s Mo Mu σ b := by
  rcases h with h | ⟨h, he, hMo, hMu⟩
  · exact h.not hb ht
  · have hl := (Array.getElem?_eq_some_iff.1 hb).1
    rintro (g | g | g | ⟨p, hp, g⟩)
    · rw [g] at hb
      exact ht (h.notStore hb)
    · omega
    · omega
    · rw [he] at hp; cases hp
/-- other cells stay -/
def KeepC (W W' : World) : Prop := ∀ (b : Nat) (cs : Array Value) (t : TypeId) (fr : Nat × Nat), W.heap[b]? = some (.cells cs t fr) → t ≠ 51 → W'.heap[b]? = some (.cells cs t fr)
theorem keepC_of {W W' : World} {s Mo Mu : Nat} {σ : Sto} (h : SAt W s Mo Mu σ) (hF : Frm (StF s Mo Mu σ) W W') : KeepC W W' := fun b cs t fr hb ht => hF.at hb (h.not hb ht)
theorem KeepC.below {W W1 W' : World} (h : KeepC W W1) (hb : Below W1.heap.size W1 W') : KeepC W W' := fun b cs t fr g ht => (hb.block _ (Array.getElem?_eq_some_iff.1 (h b cs t fr g ht)).1).trans (h b cs t fr g ht)
def repV (x v b i : Int) (d l : Value) (m : Bool) : Value := .agg #[.int .i64 x, d, .int .i64 v, .int .i64 b, .int .i64 i, l, .bool m]
section
variable {base : Nat} {W : World} {s : Nat} {σ : Sto} {ki vr at_ nn id : Int} {ky : ByteArray} {a : Option Addr} {n c : Nat} {xs : List Nat}
theorem step_any (h : StIn base W s σ) (hb : base ≤ W.heap.size) (hi : Inv σ) (hv : σ.ver ≤ 1000000000) (hidb : σ.id ≤ 1000000000) (hx : BytesAt W a n c xs) (hk : ky.size ≤ 1000000000000000) (hid : (Lit.int .i64 id).wf = true) :
    Calls Tryz.prog 11 #[.pointer (some ⟨s, 0, none⟩), .agg #[.int .i64 ki, .string ky, .slice a n c, .int .i64 vr, .int .i64 at_, .int .i64 nn, .int .i64 id]] W fun e W' => ∃ x v b i ra rn rc la ln lc m σ', e = .returned (repV x v b i (.slice ra rn rc) (.slice la ln lc) m) ∧ DoRes σ σ' ki x v ∧ StIn base W' s σ' ∧ Below base W W' ∧ KeepC W W' := by
  obtain ⟨Mo, Mu, hs, hF⟩ := h.sat hb
  refine (doAny hs hi hv hidb hx hk hid).mono ?_
  rintro e W' ⟨x, ra, rn, rc, v, b, i, la, ln, lc, m, σ', rfl, hr, hst, hf, hsub⟩
  exact ⟨x, v, b, i, ra, rn, rc, la, ln, lc, m, σ', rfl, hr, ⟨h.1, .inl ⟨Mo, Mu, hst, fun b hb' => (hsub b hb').elim (hF b) (fun g => Nat.le_trans hb g)⟩⟩, hf.toBelow hb hF, keepC_of hs hf⟩
theorem step_put (h : StIn base W s σ) (hb : base ≤ W.heap.size) (hi : Inv σ) (hv : σ.ver ≤ 1000000000) (hidb : σ.id ≤ 1000000000) (hx : BytesAt W a n c xs) (hk : ky.size ≤ 1000000000000000) :
    Calls Tryz.prog 11 #[.pointer (some ⟨s, 0, none⟩), .agg #[.int .i64 2, .string ky, .slice a n c, .int .i64 vr, .int .i64 at_, .int .i64 nn, .int .i64 id]] W fun e W' => ∃ v b, e = .returned (repV (putE σ 2 ky vr n) v b 0 (.slice none 0 0) (.slice none 0 0) false) ∧ Below base W W' ∧ KeepC W W' ∧
      StIn base W' s (if putE σ 2 ky vr n = 0 then makeS σ ky (bs xs) else σ) := by
  obtain ⟨Mo, Mu, hs, hF⟩ := h.sat hb
  refine (doPutIf hs hx hk (hi.ok hv hidb)).mono ?_
  rintro e W' ⟨hf, h1, h2⟩
  rcases Classical.em (putE σ 2 ky vr n = 0) with g | g
  · obtain ⟨rfl, hst⟩ := h2 g
    rw [g, if_pos rfl]
    exact ⟨_, _, rfl, hf.toBelow hb hF, keepC_of hs hf, h.1, .inl ⟨Mo, Mu, hst, fun b hb' => hF b (make_blk hb')⟩⟩
  · obtain ⟨rfl, hst⟩ := h1 g
    rw [if_neg g]
    exact ⟨0, 0, rfl, hf.toBelow hb hF, keepC_of hs hf, h.1, .inl ⟨Mo, Mu, hst, hF⟩⟩
theorem step_get (h : StIn base W s σ) (hb : base ≤ W.heap.size) (hi : Inv σ) (hv : σ.ver ≤ 1000000000) (hidb : σ.id ≤ 1000000000) (hk : ky.size ≤ 1000000000000000) :
    Calls Tryz.prog 11 #[.pointer (some ⟨s, 0, none⟩), .agg #[.int .i64 3, .string ky, .slice a n c, .int .i64 vr, .int .i64 at_, .int .i64 nn, .int .i64 id]] W fun e W' => Below base W W' ∧ KeepC W W' ∧ StIn base W' s σ ∧ ∃ x b ga gn gc, e = .returned (repV x (oldVer σ ky) b 0 (.slice ga gn gc) (.slice none 0 0) false) ∧
      (x = if (objOf σ ky).isSome = true then 0 else 7) ∧ (∀ o, objOf σ ky = some o → b = o.born ∧ BytesAt W' ga gn gc (numsOf o.data)) := by
  obtain ⟨Mo, Mu, hs, hF⟩ := h.sat hb
  refine (doGet hs hk (hi.ok hv hidb)).mono ?_
  rintro e W' ⟨hf, hst, hq⟩
  refine ⟨hf.toBelow hb hF, keepC_of hs hf, ⟨h.1, .inl ⟨Mo, Mu, hst, hF⟩⟩, ?_⟩
  have hov : oldVer σ ky = match objOf σ ky with | some o => o.ver | none => 0 := by unfold oldVer; rfl
  rw [hov]
  cases hg : objOf σ ky with
  | none => rw [hg] at hq; exact ⟨7, 0, none, 0, 0, hq, rfl, fun o e => by cases e⟩
  | some o =>
    rw [hg] at hq
    obtain ⟨g, c, he, _, hby⟩ := hq
    exact ⟨0, o.born, _, _, _, he, rfl, fun o' e => by cases e; exact ⟨rfl, hby⟩⟩
end
end Go.Proofs.YtjafagfhkpaciaaGreat
end PkSP6_3
section PkSP6_4
/- A call of both stores: the same answer, and the same in both behind it. -/
namespace Go.Proofs.YtjafagfhkpaciaaGreat
open Go.RowKit
set_option linter.unusedVariables false

/-- the blocks of bytes -/
def DB (δ : DSto) (b : Nat) : Prop := (∃ o ∈ δ.objs, blkOf o.da = some b) ∨ ∃ u ∈ δ.ups, ∃ p ∈ u.parts, blkOf p.da = some b
/-- an answer: its values, where they lie -/
def Ans (W : World) (B : Nat) (er v b i : Int) (mo : Bool) (n : Nat) (xs : List Nat) (its : List ItemV) (a : Option Addr) (e : Ending) : Prop :=
  ∃ c la lc, e = .returned (rep er (.slice a n c) v b i (.slice la its.length lc) mo) ∧ BytesAt W a n c xs ∧ VecAt ItemS W la its.length lc its ∧ (∀ k off s, la = some ⟨k, off, s⟩ → B ≤ k) ∧ its.length ≤ 16
structure PRes (base : Nat) (W : World) (s : Nat) (er v b i : Int) (mo : Bool) (n : Nat) (xs : List Nat) (its : List ItemV) (σ' : Sto) (e : Ending) (W' : World) : Prop where
  ans : ∃ a, Ans W' W.heap.size er v b i mo n xs its a e ∧ (0 < n → ∃ g, a = some ⟨g, 0, none⟩ ∧ W.heap.size ≤ g ∧ Unf W' g n)
  st : StIn base W' s σ'
  bel : Below base W W'
  keep : KeepC W W'
structure RRes (W : World) (S base : Nat) (δ : DSto) (er v b i : Int) (mo : Bool) (n : Nat) (xs : List Nat) (its : List ItemV) (δ' : DSto) (e : Ending) (W' : World) : Prop where
  ans : ∃ a, Ans W' 0 er v b i mo n xs its a e
  st : DStAt W' S base δ'
  frm : Frm (DF S δ) W W'
  fresh : ∀ k, DB δ' k → DB δ k ∨ W.heap.size ≤ k
theorem ans_none {B : Nat} (W : World) (er v b i : Int) (mo : Bool) : Ans W B er v b i mo 0 [] [] none (.returned (rep er (.slice none 0 0) v b i (.slice none 0 0) mo)) :=
  ⟨0, none, 0, rfl, BytesAt.empty _ _ _ (by omega) (fun _ => rfl), VecAt.empty _ _ _ (by omega) (fun _ => rfl), (fun k off s e => by cases e), Nat.zero_le _⟩
def RefOk (S base : Nat) (δ : DSto) (cs : Array Value) (a : Option Addr) (n c : Nat) (xs : List Nat) (er v b i : Int) (mo : Bool) (n' : Nat) (xs' : List Nat) (its : List ItemV) (σ' : Sto) : Prop :=
  ∀ W1, DStAt W1 S base δ → BytesAt W1 a n c xs → base ≤ W1.heap.size → Calls Tryz.prog 13 #[.pointer (some ⟨S, 0, none⟩), .agg cs] W1 fun e2 W2 => ∃ δ', RRes W1 S base δ er v b i mo n' xs' its δ' e2 W2 ∧ Tie σ' δ'
def SimD (base : Nat) (W : World) (s S base' : Nat) (σ : Sto) (δ : DSto) (cs : Array Value) (a : Option Addr) (n c : Nat) (xs : List Nat) (e : Ending) (W' : World) : Prop :=
  ∃ er v b i mo n' xs' its σ', PRes base W s er v b i mo n' xs' its σ' e W' ∧ Inv σ' ∧ σ'.now = σ.now ∧ σ'.ver ≤ σ.ver + 1 ∧ σ'.id ≤ σ.id + 1 ∧ RefOk S base' δ cs a n c xs er v b i mo n' xs' its σ'
section
variable {base base' : Nat} {W : World} {s S : Nat} {σ : Sto} {δ : DSto}
theorem pres_mk {Mo Mu : Nat} {σ' : Sto} {er v b i : Int} {mo : Bool} {n : Nat} {xs : List Nat} {its : List ItemV} {e : Ending} {W' : World} (h : StIn base W s σ) (hb : base ≤ W.heap.size) (hs : SAt W s Mo Mu σ) (hF : ∀ b, StF s Mo Mu σ b → base ≤ b) (hst : StAt W' s Mo Mu σ') (hf : Frm (StF s Mo Mu σ) W W') (hsub : ∀ b, StF s Mo Mu σ' b → StF s Mo Mu σ b ∨ W.heap.size ≤ b) (hans : ∃ a, Ans W' W.heap.size er v b i mo n xs its a e ∧ (0 < n → ∃ g, a = some ⟨g, 0, none⟩ ∧ W.heap.size ≤ g ∧ Unf W' g n)) : PRes base W s er v b i mo n xs its σ' e W' :=
  ⟨hans, ⟨h.1, .inl ⟨Mo, Mu, hst, fun b hb' => (hsub b hb').elim (hF b) (fun g => Nat.le_trans hb g)⟩⟩, hf.toBelow hb hF, keepC_of hs hf⟩
theorem SAt.rise {Mo Mu : Nat} (hs : SAt W s Mo Mu σ) : σ.objs.Pairwise fun p q => (slit p.1).before (slit q.1) = true := by
  rcases hs with h | ⟨_, h, _⟩
  · exact h.obj.rise
  · rw [h]; exact .nil
/-- nothing turned: an errno in both -/
theorem sim_err {Mo Mu : Nat} {cs : Array Value} {a : Option Addr} {n c : Nat} {xs : List Nat} {x : Int} {W' : World} {e : Ending} (h : StIn base W s σ) (hb : base ≤ W.heap.size) (hs : SAt W s Mo Mu σ) (hF : ∀ b, StF s Mo Mu σ b → base ≤ b) (hi : Inv σ) (ht : Tie σ δ) (he : e = .returned (rep0 x)) (hst : StAt W' s Mo Mu σ) (hf : Frm (StF s Mo Mu σ) W W')
    (href : ∀ W1, DStAt W1 S base' δ → BytesAt W1 a n c xs → base' ≤ W1.heap.size → Calls Tryz.prog 13 #[.pointer (some ⟨S, 0, none⟩), .agg cs] W1 (NoD W1 S base' δ x)) : SimD base W s S base' σ δ cs a n c xs e W' :=
  ⟨x, 0, 0, 0, false, 0, [], [], σ, pres_mk h hb hs hF hst hf (fun b hb' => .inl hb') ⟨none, by rw [he]; exact ans_none _ _ _ _ _ _, fun g => by omega⟩, hi, rfl, by omega, by omega,
   fun W1 h1 h2 h3 => (href W1 h1 h2 h3).mono fun e2 W2 ⟨he2, hst2, hf2⟩ => ⟨δ, ⟨⟨none, by rw [he2]; exact ans_none _ _ _ _ _ _⟩, hst2, hf2, fun k hk => .inl hk⟩, ht⟩⟩
variable {ki vr at_ nn id : Int} {ky : ByteArray} {a : Option Addr} {n c : Nat} {xs : List Nat}
theorem put_err (ht : Tie σ δ) (hd : DOk δ) (hi : Inv σ) : putE σ ki ky vr n = putDE δ ki ky vr n := by
  unfold putE putDE
  rw [ht.oldVer, ht.oldLen hd, ht.olen, ht.size hd hi, ht.obj]
  have e : ((objD δ ky).map fun o => (oP o).2).isNone = (objD δ ky).isNone := by cases objD δ ky <;> rfl
  rw [e]
  split
  · rfl
  · split
    · rfl
    · split
      · rfl
      · congr 1
        apply propext
        constructor
        · rintro (g | g)
          · exact .inl g
          · exact .inr (by omega)
        · rintro (g | g)
          · exact .inl g
          · exact .inr (by omega)
theorem Tie.ver1 (ht : Tie σ δ) (hi : Inv σ) : ∀ o ∈ δ.objs, 1 ≤ o.ver := fun o ho => (hi.obj (oP o) (by rw [ht.objs]; exact List.mem_map_of_mem ho)).2.2.1
theorem Tie.keys (ht : Tie σ δ) (hi : Inv σ) : ∀ o ∈ δ.objs, o.key.size ≤ 1000000000000000 := fun o ho => key_small hi (oP o) (by rw [ht.objs]; exact List.mem_map_of_mem ho)
theorem Tie.put (ht : Tie σ δ) (hr : σ.objs.Pairwise fun p q => (slit p.1).before (slit q.1) = true) {oa da : Option Addr} {oc dn dc : Nat} : Tie (makeS σ ky (bs xs)) { δ with oa := oa, oc := oc, objs := putL δ.objs ⟨ky, da, dn, dc, xs, δ.ver + 1, δ.now⟩, ver := δ.ver + 1 } := by
  refine ⟨?_, ht.ulen, ht.upl, by show σ.ver + 1 = δ.ver + 1; rw [ht.ver], ht.id, ht.now⟩
  show putK slit ky ⟨bs xs, σ.ver + 1, σ.now⟩ σ.objs = (putL δ.objs _).map oP
  rw [ht.objs, ht.ver, ht.now]
  exact tie_putL (ht.rise hr) ⟨ky, da, dn, dc, xs, δ.ver + 1, δ.now⟩
theorem db_put {δ : DSto} {o : DObj} {oa : Option Addr} {oc : Nat} {v : Int} {B : Nat} (hf : ∀ b, blkOf o.da = some b → B ≤ b) : ∀ k, DB { δ with oa := oa, oc := oc, objs := putL δ.objs o, ver := v } k → DB δ k ∨ B ≤ k := by
  rintro k (⟨x, hx, e⟩ | g)
  · rcases putL_mem hx with g | g
    · exact .inl (.inl ⟨x, g, e⟩)
    · rw [g] at e; exact .inr (hf k e)
  · exact .inl (.inr g)
/-- what both calls are told -/
structure Both (base base' : Nat) (W : World) (s : Nat) (σ : Sto) (δ : DSto) : Prop where
  st : StIn base W s σ
  hb : base ≤ W.heap.size
  inv : Inv σ
  tie : Tie σ δ
  ok : DOk δ
  v : σ.ver ≤ 1000000000
  i : σ.id ≤ 1000000000
theorem sim_put {K : Int} (hK : K = 1 ∨ K = 2) (h : Both base base' W s σ δ) {a1 : Option Addr} {c1 : Nat} (hx : BytesAt W a1 n c1 xs) (hk : ky.size ≤ 1000000000000000) :
    Calls Tryz.prog 11 #[.pointer (some ⟨s, 0, none⟩), .agg #[.int .i64 K, .string ky, .slice a1 n c1, .int .i64 vr, .int .i64 at_, .int .i64 nn, .int .i64 id]] W (SimD base W s S base' σ δ #[.int .i64 K, .string ky, .slice a n c, .int .i64 vr, .int .i64 at_, .int .i64 nn, .int .i64 id] a n c xs) := by
  obtain ⟨Mo, Mu, hs, hF⟩ := h.st.sat h.hb
  have hpe : putE σ K ky vr n = putDE δ K ky vr n := put_err h.tie h.ok h.inv
  have hn : (bs xs).size = n := by rw [bs_sizeS]; exact hx.len
  have hv0 : 0 ≤ δ.ver ∧ δ.ver ≤ 1000000000 := by rw [← h.tie.ver]; exact ⟨h.inv.ver, h.v⟩
  have hcall : Calls Tryz.prog 11 #[.pointer (some ⟨s, 0, none⟩), .agg #[.int .i64 K, .string ky, .slice a1 n c1, .int .i64 vr, .int .i64 at_, .int .i64 nn, .int .i64 id]] W (PutD W s Mo Mu σ (putE σ K ky vr n) ky (bs xs)) := by
    rcases hK with rfl | rfl
    · exact doPut hs hx hk (h.inv.ok h.v h.i)
    · exact doPutIf hs hx hk (h.inv.ok h.v h.i)
  have href : ∀ W1, DStAt W1 S base' δ → BytesAt W1 a n c xs → base' ≤ W1.heap.size → Calls Tryz.prog 13 #[.pointer (some ⟨S, 0, none⟩), .agg #[.int .i64 K, .string ky, .slice a n c, .int .i64 vr, .int .i64 at_, .int .i64 nn, .int .i64 id]] W1 (Do1 W1 S base' δ K ky vr n xs) := fun W1 h1 h2 h3 => by
    rcases hK with rfl | rfl
    · exact ddo_1 h1 h2 h3 hv0 (h.tie.ver1 h.inv)
    · exact ddo_2 h1 h2 h3 hv0 (h.tie.ver1 h.inv)
  refine hcall.mono fun e W' ⟨hf, h1, h2⟩ => ?_
  rcases Classical.em (putE σ K ky vr n = 0) with g | g
  · obtain ⟨rfl, hst⟩ := h2 g
    obtain ⟨q1, q2, q3, q4⟩ := put_ok g
    refine ⟨0, _, _, 0, false, 0, [], [], _, pres_mk h.st h.hb hs hF hst hf (fun b hb => .inl hb) ⟨none, ans_none _ _ _ _ _ _, fun g => by omega⟩, h.inv.make (Apt.of hs) q1 (by rw [hn]; exact q2) q3 (by rw [hn]; exact q4), rfl, Int.le_refl _, by show σ.id ≤ σ.id + 1; omega, fun W1 g1 g2 g3 => (href W1 g1 g2 g3).mono fun e2 W2 hq => ?_⟩
    obtain ⟨he, ⟨oa, oc, da, dc, hst2, hfr⟩, hf2⟩ := hq.2 (by rw [← hpe]; exact g)
    exact ⟨_, ⟨⟨none, by rw [he, h.tie.ver, h.tie.now]; exact ans_none _ _ _ _ _ _⟩, hst2, hf2, db_put (o := ⟨ky, da, n, dc, xs, δ.ver + 1, δ.now⟩) hfr⟩, h.tie.put hs.rise⟩
  · obtain ⟨he, hst⟩ := h1 g
    exact sim_err h.st h.hb hs hF h.inv h.tie he hst hf (fun W1 g1 g2 g3 => (href W1 g1 g2 g3).mono fun e2 W2 hq => by rw [hpe]; exact hq.1 (by rw [← hpe]; exact g))
end
end Go.Proofs.YtjafagfhkpaciaaGreat
end PkSP6_4
section PkSP6_5
/- The document's Do: get, range. Written by gensddo.py. -/
namespace Go.Proofs.YtjafagfhkpaciaaGreat
open Go.RowKit
set_option linter.unusedVariables false
set_option linter.unusedSimpArgs false

set_option maxRecDepth 100000 in
set_option maxHeartbeats 16000000 in
theorem ddo_3 {w : World} {S base : Nat} {σ : DSto} (h : DStAt w S base σ) {vr at_ nn id : Int} {ky : ByteArray} {a : Option Addr} {n c : Nat}  :
    Calls Tryz.prog 13 #[.pointer (some ⟨S, 0, none⟩), .agg #[.int .i64 3, .string ky, .slice a n c, .int .i64 vr, .int .i64 at_, .int .i64 nn, .int .i64 id]] w (Do3 w S base σ ky) := by
  have HE := Lib.hid (dent_mk h #[.int .i64 3, .string ky, .slice a n c, .int .i64 vr, .int .i64 at_, .int .i64 nn, .int .i64 id])
  have hSl : S < w.heap.size := (Array.getElem?_eq_some_iff.1 h.blk).1
  clear h
  go_enter Tryz.func13, Tryz.ntmps13
  go_upto_region 1 with fail
  obtain ⟨W0, hW0⟩ : ∃ W0, W0 = (w.alloc (.cells #[.int .i64 3, .string ky, .slice a n c, .int .i64 vr, .int .i64 at_, .int .i64 nn, .int .i64 id] 34)).alloc (.cells zrep 43) := ⟨_, rfl⟩
  rw [← hW0] at HE
  unfold zrep at hW0
  rw [← hW0]
  clear hW0
  obtain ⟨ai, hai⟩ : ∃ ai, ai = atK σ.objs ky := ⟨_, rfl⟩
  obtain ⟨oi, hoi⟩ : ∃ oi, oi = openK σ.ups id := ⟨_, rfl⟩
  have HAT := Lib.hid (fun k => dat_any (HE.out.st.drewN k) ky)
  have HOP := Lib.hid (fun k => dopen_any (HE.out.st.drewN k) id)
  rw [← hai] at HAT
  rw [← hoi] at HOP
  have k1 := cell_blkD HE.out.cb (i := 1) (u := .string ky) rfl
  have k6 := cell_blkD HE.out.cb (i := 6) (u := .int .i64 id) rfl
  go_quiet ((first | (go_at_call 26; exact Calls.quiet_of_same (HAT.out _)) | (go_at_call 27; exact Calls.quiet_of_same (HOP.out _))))
  rename Nat => nq
  clear k1 k6 HAT HOP
  have HE1 := Lib.hid (HE.out.drewN nq)
  obtain ⟨W1, hW1⟩ : ∃ W1, W1 = W0.drewN nq := ⟨_, rfl⟩
  rw [← hW1] at HE1
  rw [← hW1]
  clear HE hW1
  have HE := HE1
  clear HE1
  have hz0 := HE.out.sz
  have hk0 : w.heap.size < W1.heap.size := by omega
  have hr0 : w.heap.size + 1 < W1.heap.size := by omega
  have hS0 : S < W1.heap.size := by omega
  have HZ0 := Lib.hid hz0
  clear hz0
  have HR0 := Lib.hid (Below.refl W1.heap.size W1)
  have k0 := cell_blkD HE.out.cb (i := 0) (u := .int .i64 3) rfl
  have HAI := Lib.hid hai
  have HOI := Lib.hid hoi
  clear hai hoi
  rcases atK_neg (l := σ.objs) (k := ky) with ⟨ho1, ho2⟩ | ⟨jo, ho1, ho2⟩
  · have hai := HAI.out
    rw [ho1] at hai
    clear HAI
    subst hai
    have HNO := Lib.hid (show ∀ e w', NoD w S base σ 7 e w' → Do3 w S base σ ky e w' from fun e w' h => by unfold Do3; rw [ho2]; exact h)
    clear ho1 ho2
    go_wp2_with fail
    refine (dbad_any 7 W1).mono ?_
    rintro e wE ⟨rfl, hbE⟩
    unfold repA
    have hbe := HR0.out.trans (hbE.mono HR0.out.size)
    have HRB := Lib.hid ((hbe.block (w.heap.size + 1) hr0).trans HE.out.rb)
    have HST := Lib.hid (HE.out.st.below hbe)
    have HFR := Lib.hid (show Frm (DF S σ) w wE from Frm.ofBelow (HE.out.bel.trans (hbe.mono HE.out.bel.size)))
    obtain ⟨⟨q0, q1, q2, q3, q4, q5, q6⟩, r0, r1, r2, r3, r4, r5, r6⟩ := rb_cells HRB.out
    clear hbE hbe
    go_wp2_with fail
    clear q0 q1 q2 q3 q4 q5 q6 r0 r1 r2 r3 r4 r5 r6
    obtain ⟨W5, hW5⟩ : ∃ W5, W5 = setR wE (w.heap.size + 1) (.int .i64 7) (.slice none 0 0) (.int .i64 0) (.int .i64 0) (.int .i64 0) (.slice none 0 0) (.bool false) := ⟨_, rfl⟩
    have hr5 := setR_at0 HRB.out (.int .i64 7) (.slice none 0 0) (.int .i64 0) (.int .i64 0) (.int .i64 0) (.slice none 0 0) (.bool false)
    have hF5 := (Frm.refl (fun b => b = w.heap.size + 1) wE).setR (R := w.heap.size + 1) (.inl rfl) (.int .i64 7) (.slice none 0 0) (.int .i64 0) (.int .i64 0) (.int .i64 0) (.slice none 0 0) (.bool false)
    rw [← hW5] at hr5 hF5
    unfold setR at hW5
    rw [← hW5]
    have hfin := put_done HST.out HRB.out (Nat.le_succ _) HFR.out hF5
    exact bodyPost_ret (ret_rep rfl _ _ (w.heap.size + 1) rfl hr5) rfl (HNO.out _ _ ⟨rfl, hfin⟩)
  · have hai := HAI.out
    rw [ho1] at hai
    clear HAI
    subst hai
    obtain ⟨o, hu, _, hul⟩ := find_at ho2
    have HO2 := Lib.hid ho2
    have HU := Lib.hid hu
    have zjo : ¬ (jo : Int) < 0 := by omega
    clear ho1 ho2 hu
    have hoo := HE.out.st.obj o (List.mem_of_getElem? HU.out)
    have HOO := Lib.hid hoo
    have HV0 := Lib.hid HE.out.st.objs
    obtain ⟨gb, off, hga, hgl, _, hgc⟩ := HV0.out.get hul
    have hgd : σ.objs.getD jo DObjS.z = o := by rw [List.getD_eq_getElem?_getD, HU.out]; rfl
    rw [hgd] at hgc
    obtain ⟨yk, ya, yn, yc, yd, yv, yb⟩ := o
    have v0 : W1.cell? ⟨gb, off + jo * 4, none⟩ = some (.string yk) := hgc 0 _ rfl
    have v1 : W1.cell? ⟨gb, off + jo * 4 + 1, none⟩ = some (.slice ya yn yc) := hgc 1 _ rfl
    have v2 : W1.cell? ⟨gb, off + jo * 4 + 2, none⟩ = some (.int .i64 yv) := hgc 2 _ rfl
    have v3 : W1.cell? ⟨gb, off + jo * 4 + 3, none⟩ = some (.int .i64 yb) := hgc 3 _ rfl
    have c0 := cell_blkD HE.out.st.blk (i := 0) (u := .slice σ.oa σ.objs.length σ.oc) rfl
    rw [hga] at c0
    obtain ⟨m9, hm9⟩ : ∃ m9, m9 = σ.objs.length := ⟨_, rfl⟩
    obtain ⟨uc9, huc9⟩ : ∃ uc9, uc9 = σ.oc := ⟨_, rfl⟩
    rw [← hm9, ← huc9] at c0
    rw [← hm9] at hul
    have zi : (jo : Int) < (m9 : Int) := by omega
    have zi0 : (0 : Int) ≤ (jo : Int) := by omega
    obtain ⟨b8, hb8⟩ : ∃ b8, b8 = W1.heap.size := ⟨_, rfl⟩
    obtain ⟨W7, hW7⟩ : ∃ W7, W7 = W1.alloc (.cells #[.string yk, .slice ya yn yc, .int .i64 yv, .int .i64 yb] 59) := ⟨_, rfl⟩
    have HB7 := Lib.hid (show Below W1.heap.size W1 W7 from by rw [hW7]; exact (Below.refl _ _).alloc (Nat.le_refl _) _)
    have HK7 := Lib.hid (show W7.heap[b8]? = some (.cells #[.string yk, .slice ya yn yc, .int .i64 yv, .int .i64 yb] 59 (0, 0)) from by rw [hW7, hb8]; exact heap_alloc_newD W1 _)
    have HW7 := Lib.hid hW7
    have HBE8 := Lib.hid hb8
    clear hm9 huc9 hgc hgd hga hgl hW7 hoo hb8
    go_upto_region 22 with fail
    rw [← HW7.out, ← HBE8.out]
    clear v0 v1 v2 v3 c0 k0
    have HYB := Lib.hid (show BytesAt W7 ya yn yc yd from (ObjOk.bytes HOO.out).kept HB7.out)
    have k0 := cell_blkD (cells_of_below HB7.out HE.out.cb) (i := 0) (u := .int .i64 3) rfl
    have HRW := Lib.hid (cells_of_below HB7.out HE.out.rb)
    have HSTW := Lib.hid (HE.out.st.below HB7.out)
    have HFRW := Lib.hid (show Frm (DF S σ) w W7 from Frm.ofBelow (HE.out.bel.trans (HB7.out.mono HE.out.bel.size)))
    have HSB := HYB
    have HTW := Lib.hid (twin_any HSB.out.drew)
    have x1 := cell_blkD HK7.out (i := 1) (u := .slice ya yn yc) rfl
    have x2 := cell_blkD HK7.out (i := 2) (u := .int .i64 yv) rfl
    have x3 := cell_blkD HK7.out (i := 3) (u := .int .i64 yb) rfl
    go_upto_region 26 with fail
    go_region_law (go_simp; go_at_call 10; refine HTW.out.mono ?_; rintro e wB ⟨vB, rfl, hoB, _, hbB⟩; obtain ⟨ta, tc, rfl⟩ := own_sliceD hoB; have HBB := Lib.hid (show Below W7.heap.size W7 wB from ((Below.refl W7.heap.size W7).drew).trans hbB); have HOB := Lib.hid hoB; have z2 := cell_blkD (cells_of_below HBB.out HK7.out) (i := 2) (u := .int .i64 yv) rfl; have z3 := cell_blkD (cells_of_below HBB.out HK7.out) (i := 3) (u := .int .i64 yb) rfl; have HRB := Lib.hid (cells_of_below HBB.out HRW.out); obtain ⟨⟨q0, q1, q2, q3, q4, q5, q6⟩, r0, r1, r2, r3, r4, r5, r6⟩ := rb_cells HRB.out; clear hoB hbB)
    all_goals
      clear x1 x2 x3 z2 z3 q0 q1 q2 q3 q4 q5 q6 r0 r1 r2 r3 r4 r5 r6
      have HST := Lib.hid (HSTW.out.below HBB.out)
      have HFR := Lib.hid (HFRW.out.below HBB.out)
      go_wp2_with fail
      obtain ⟨W5, hW5⟩ : ∃ W5, W5 = setR wB (w.heap.size + 1) (.int .i64 0) (.slice ta yn tc) (.int .i64 yv) (.int .i64 yb) (.int .i64 0) (.slice none 0 0) (.bool false) := ⟨_, rfl⟩
      have hr5 := setR_at0 HRB.out (.int .i64 0) (.slice ta yn tc) (.int .i64 yv) (.int .i64 yb) (.int .i64 0) (.slice none 0 0) (.bool false)
      have hF5 := (Frm.refl (fun b => b = w.heap.size + 1) wB).setR (R := w.heap.size + 1) (.inl rfl) (.int .i64 0) (.slice ta yn tc) (.int .i64 yv) (.int .i64 yb) (.int .i64 0) (.slice none 0 0) (.bool false)
      rw [← hW5] at hr5 hF5
      unfold setR at hW5
      rw [← hW5]
      have hfin := put_done HST.out HRB.out (Nat.le_succ _) HFR.out hF5
      have hget := getOk_mk (n := yn) (xs := yd) (ver := yv) (born := yb) HOB.out HSB.out.byte HSB.out.reach HRB.out hF5 hfin
      exact bodyPost_ret (ret_rep rfl _ _ (w.heap.size + 1) rfl hr5) rfl (by
        unfold Do3
        rw [HO2.out]
        intro u' hu'
        rw [HU.out] at hu'
        cases hu'
        exact hget)
set_option maxRecDepth 100000 in
set_option maxHeartbeats 16000000 in
theorem ddo_4 {w : World} {S base : Nat} {σ : DSto} (h : DStAt w S base σ) {vr at_ nn id : Int} {ky : ByteArray} {a : Option Addr} {n c : Nat}  :
    Calls Tryz.prog 13 #[.pointer (some ⟨S, 0, none⟩), .agg #[.int .i64 4, .string ky, .slice a n c, .int .i64 vr, .int .i64 at_, .int .i64 nn, .int .i64 id]] w (Do4 w S base σ ky at_ nn) := by
  have HE := Lib.hid (dent_mk h #[.int .i64 4, .string ky, .slice a n c, .int .i64 vr, .int .i64 at_, .int .i64 nn, .int .i64 id])
  have hSl : S < w.heap.size := (Array.getElem?_eq_some_iff.1 h.blk).1
  clear h
  go_enter Tryz.func13, Tryz.ntmps13
  go_upto_region 1 with fail
  obtain ⟨W0, hW0⟩ : ∃ W0, W0 = (w.alloc (.cells #[.int .i64 4, .string ky, .slice a n c, .int .i64 vr, .int .i64 at_, .int .i64 nn, .int .i64 id] 34)).alloc (.cells zrep 43) := ⟨_, rfl⟩
  rw [← hW0] at HE
  unfold zrep at hW0
  rw [← hW0]
  clear hW0
  obtain ⟨ai, hai⟩ : ∃ ai, ai = atK σ.objs ky := ⟨_, rfl⟩
  obtain ⟨oi, hoi⟩ : ∃ oi, oi = openK σ.ups id := ⟨_, rfl⟩
  have HAT := Lib.hid (fun k => dat_any (HE.out.st.drewN k) ky)
  have HOP := Lib.hid (fun k => dopen_any (HE.out.st.drewN k) id)
  rw [← hai] at HAT
  rw [← hoi] at HOP
  have k1 := cell_blkD HE.out.cb (i := 1) (u := .string ky) rfl
  have k6 := cell_blkD HE.out.cb (i := 6) (u := .int .i64 id) rfl
  go_quiet ((first | (go_at_call 26; exact Calls.quiet_of_same (HAT.out _)) | (go_at_call 27; exact Calls.quiet_of_same (HOP.out _))))
  rename Nat => nq
  clear k1 k6 HAT HOP
  have HE1 := Lib.hid (HE.out.drewN nq)
  obtain ⟨W1, hW1⟩ : ∃ W1, W1 = W0.drewN nq := ⟨_, rfl⟩
  rw [← hW1] at HE1
  rw [← hW1]
  clear HE hW1
  have HE := HE1
  clear HE1
  have hz0 := HE.out.sz
  have hk0 : w.heap.size < W1.heap.size := by omega
  have hr0 : w.heap.size + 1 < W1.heap.size := by omega
  have hS0 : S < W1.heap.size := by omega
  have HZ0 := Lib.hid hz0
  clear hz0
  have HR0 := Lib.hid (Below.refl W1.heap.size W1)
  have k0 := cell_blkD HE.out.cb (i := 0) (u := .int .i64 4) rfl
  have HAI := Lib.hid hai
  have HOI := Lib.hid hoi
  clear hai hoi
  rcases atK_neg (l := σ.objs) (k := ky) with ⟨ho1, ho2⟩ | ⟨jo, ho1, ho2⟩
  · have hai := HAI.out
    rw [ho1] at hai
    clear HAI
    subst hai
    have HNO := Lib.hid (show ∀ e w', NoD w S base σ 7 e w' → Do4 w S base σ ky at_ nn e w' from fun e w' h => by unfold Do4; rw [ho2]; exact h)
    clear ho1 ho2
    go_wp2_with fail
    refine (dbad_any 7 W1).mono ?_
    rintro e wE ⟨rfl, hbE⟩
    unfold repA
    have hbe := HR0.out.trans (hbE.mono HR0.out.size)
    have HRB := Lib.hid ((hbe.block (w.heap.size + 1) hr0).trans HE.out.rb)
    have HST := Lib.hid (HE.out.st.below hbe)
    have HFR := Lib.hid (show Frm (DF S σ) w wE from Frm.ofBelow (HE.out.bel.trans (hbe.mono HE.out.bel.size)))
    obtain ⟨⟨q0, q1, q2, q3, q4, q5, q6⟩, r0, r1, r2, r3, r4, r5, r6⟩ := rb_cells HRB.out
    clear hbE hbe
    go_wp2_with fail
    clear q0 q1 q2 q3 q4 q5 q6 r0 r1 r2 r3 r4 r5 r6
    obtain ⟨W5, hW5⟩ : ∃ W5, W5 = setR wE (w.heap.size + 1) (.int .i64 7) (.slice none 0 0) (.int .i64 0) (.int .i64 0) (.int .i64 0) (.slice none 0 0) (.bool false) := ⟨_, rfl⟩
    have hr5 := setR_at0 HRB.out (.int .i64 7) (.slice none 0 0) (.int .i64 0) (.int .i64 0) (.int .i64 0) (.slice none 0 0) (.bool false)
    have hF5 := (Frm.refl (fun b => b = w.heap.size + 1) wE).setR (R := w.heap.size + 1) (.inl rfl) (.int .i64 7) (.slice none 0 0) (.int .i64 0) (.int .i64 0) (.int .i64 0) (.slice none 0 0) (.bool false)
    rw [← hW5] at hr5 hF5
    unfold setR at hW5
    rw [← hW5]
    have hfin := put_done HST.out HRB.out (Nat.le_succ _) HFR.out hF5
    exact bodyPost_ret (ret_rep rfl _ _ (w.heap.size + 1) rfl hr5) rfl (HNO.out _ _ ⟨rfl, hfin⟩)
  · have hai := HAI.out
    rw [ho1] at hai
    clear HAI
    subst hai
    obtain ⟨o, hu, _, hul⟩ := find_at ho2
    have HO2 := Lib.hid ho2
    have HU := Lib.hid hu
    have zjo : ¬ (jo : Int) < 0 := by omega
    clear ho1 ho2 hu
    have hoo := HE.out.st.obj o (List.mem_of_getElem? HU.out)
    have HOO := Lib.hid hoo
    have HV0 := Lib.hid HE.out.st.objs
    obtain ⟨gb, off, hga, hgl, _, hgc⟩ := HV0.out.get hul
    have hgd : σ.objs.getD jo DObjS.z = o := by rw [List.getD_eq_getElem?_getD, HU.out]; rfl
    rw [hgd] at hgc
    obtain ⟨yk, ya, yn, yc, yd, yv, yb⟩ := o
    have v0 : W1.cell? ⟨gb, off + jo * 4, none⟩ = some (.string yk) := hgc 0 _ rfl
    have v1 : W1.cell? ⟨gb, off + jo * 4 + 1, none⟩ = some (.slice ya yn yc) := hgc 1 _ rfl
    have v2 : W1.cell? ⟨gb, off + jo * 4 + 2, none⟩ = some (.int .i64 yv) := hgc 2 _ rfl
    have v3 : W1.cell? ⟨gb, off + jo * 4 + 3, none⟩ = some (.int .i64 yb) := hgc 3 _ rfl
    have c0 := cell_blkD HE.out.st.blk (i := 0) (u := .slice σ.oa σ.objs.length σ.oc) rfl
    rw [hga] at c0
    obtain ⟨m9, hm9⟩ : ∃ m9, m9 = σ.objs.length := ⟨_, rfl⟩
    obtain ⟨uc9, huc9⟩ : ∃ uc9, uc9 = σ.oc := ⟨_, rfl⟩
    rw [← hm9, ← huc9] at c0
    rw [← hm9] at hul
    have zi : (jo : Int) < (m9 : Int) := by omega
    have zi0 : (0 : Int) ≤ (jo : Int) := by omega
    obtain ⟨b8, hb8⟩ : ∃ b8, b8 = W1.heap.size := ⟨_, rfl⟩
    obtain ⟨W7, hW7⟩ : ∃ W7, W7 = W1.alloc (.cells #[.string yk, .slice ya yn yc, .int .i64 yv, .int .i64 yb] 59) := ⟨_, rfl⟩
    have HB7 := Lib.hid (show Below W1.heap.size W1 W7 from by rw [hW7]; exact (Below.refl _ _).alloc (Nat.le_refl _) _)
    have HK7 := Lib.hid (show W7.heap[b8]? = some (.cells #[.string yk, .slice ya yn yc, .int .i64 yv, .int .i64 yb] 59 (0, 0)) from by rw [hW7, hb8]; exact heap_alloc_newD W1 _)
    have HW7 := Lib.hid hW7
    have HBE8 := Lib.hid hb8
    clear hm9 huc9 hgc hgd hga hgl hW7 hoo hb8
    go_upto_region 22 with fail
    rw [← HW7.out, ← HBE8.out]
    clear v0 v1 v2 v3 c0 k0
    have HYB := Lib.hid (show BytesAt W7 ya yn yc yd from (ObjOk.bytes HOO.out).kept HB7.out)
    have k0 := cell_blkD (cells_of_below HB7.out HE.out.cb) (i := 0) (u := .int .i64 4) rfl
    have k4 := cell_blkD (cells_of_below HB7.out HE.out.cb) (i := 4) (u := .int .i64 at_) rfl
    have k5 := cell_blkD (cells_of_below HB7.out HE.out.cb) (i := 5) (u := .int .i64 nn) rfl
    have x1 := cell_blkD HK7.out (i := 1) (u := .slice ya yn yc) rfl
    have hyr := HYB.out.reach
    have hyc := HYB.out.cap
    have hycm := HYB.out.capm
    by_cases h1 : at_ < 0
    case pos =>
      have HPE := Lib.hid (show pieDE yn at_ nn = 2 from by unfold pieDE; rw [if_pos (.inl h1)])
      go_wp2_with fail
      refine (dbad_any 2 W7).mono ?_
      rintro e wE ⟨rfl, hbE⟩
      unfold repA
      have hbe := HB7.out.trans (hbE.mono HB7.out.size)
      have HRB := Lib.hid ((hbe.block (w.heap.size + 1) hr0).trans HE.out.rb)
      have HST := Lib.hid (HE.out.st.below hbe)
      have HFR := Lib.hid (show Frm (DF S σ) w wE from Frm.ofBelow (HE.out.bel.trans (hbe.mono HE.out.bel.size)))
      obtain ⟨⟨q0, q1, q2, q3, q4, q5, q6⟩, r0, r1, r2, r3, r4, r5, r6⟩ := rb_cells HRB.out
      clear hbE hbe
      go_wp2_with fail
      clear q0 q1 q2 q3 q4 q5 q6 r0 r1 r2 r3 r4 r5 r6
      obtain ⟨W5, hW5⟩ : ∃ W5, W5 = setR wE (w.heap.size + 1) (.int .i64 2) (.slice none 0 0) (.int .i64 0) (.int .i64 0) (.int .i64 0) (.slice none 0 0) (.bool false) := ⟨_, rfl⟩
      have hr5 := setR_at0 HRB.out (.int .i64 2) (.slice none 0 0) (.int .i64 0) (.int .i64 0) (.int .i64 0) (.slice none 0 0) (.bool false)
      have hF5 := (Frm.refl (fun b => b = w.heap.size + 1) wE).setR (R := w.heap.size + 1) (.inl rfl) (.int .i64 2) (.slice none 0 0) (.int .i64 0) (.int .i64 0) (.int .i64 0) (.slice none 0 0) (.bool false)
      rw [← hW5] at hr5 hF5
      unfold setR at hW5
      rw [← hW5]
      have hfin := put_done HST.out HRB.out (Nat.le_succ _) HFR.out hF5
      exact bodyPost_ret (ret_rep rfl _ _ (w.heap.size + 1) rfl hr5) rfl (by
        unfold Do4
        rw [HO2.out]
        intro u' hu'
        rw [HU.out] at hu'
        cases hu'
        exact ⟨fun _ => ⟨rfl, hfin⟩, fun e0 => by have h2 : pieDE yn at_ nn = 2 := HPE.out; rw [e0] at h2; cases h2⟩)
    by_cases h2 : nn < 0
    case pos =>
      have HPE := Lib.hid (show pieDE yn at_ nn = 2 from by unfold pieDE; rw [if_pos (.inr (.inl h2))])
      go_wp2_with fail
      refine (dbad_any 2 W7).mono ?_
      rintro e wE ⟨rfl, hbE⟩
      unfold repA
      have hbe := HB7.out.trans (hbE.mono HB7.out.size)
      have HRB := Lib.hid ((hbe.block (w.heap.size + 1) hr0).trans HE.out.rb)
      have HST := Lib.hid (HE.out.st.below hbe)
      have HFR := Lib.hid (show Frm (DF S σ) w wE from Frm.ofBelow (HE.out.bel.trans (hbe.mono HE.out.bel.size)))
      obtain ⟨⟨q0, q1, q2, q3, q4, q5, q6⟩, r0, r1, r2, r3, r4, r5, r6⟩ := rb_cells HRB.out
      clear hbE hbe
      go_wp2_with fail
      clear q0 q1 q2 q3 q4 q5 q6 r0 r1 r2 r3 r4 r5 r6
      obtain ⟨W5, hW5⟩ : ∃ W5, W5 = setR wE (w.heap.size + 1) (.int .i64 2) (.slice none 0 0) (.int .i64 0) (.int .i64 0) (.int .i64 0) (.slice none 0 0) (.bool false) := ⟨_, rfl⟩
      have hr5 := setR_at0 HRB.out (.int .i64 2) (.slice none 0 0) (.int .i64 0) (.int .i64 0) (.int .i64 0) (.slice none 0 0) (.bool false)
      have hF5 := (Frm.refl (fun b => b = w.heap.size + 1) wE).setR (R := w.heap.size + 1) (.inl rfl) (.int .i64 2) (.slice none 0 0) (.int .i64 0) (.int .i64 0) (.int .i64 0) (.slice none 0 0) (.bool false)
      rw [← hW5] at hr5 hF5
      unfold setR at hW5
      rw [← hW5]
      have hfin := put_done HST.out HRB.out (Nat.le_succ _) HFR.out hF5
      exact bodyPost_ret (ret_rep rfl _ _ (w.heap.size + 1) rfl hr5) rfl (by
        unfold Do4
        rw [HO2.out]
        intro u' hu'
        rw [HU.out] at hu'
        cases hu'
        exact ⟨fun _ => ⟨rfl, hfin⟩, fun e0 => by have h2 : pieDE yn at_ nn = 2 := HPE.out; rw [e0] at h2; cases h2⟩)
    by_cases h3 : (yn : Int) < at_
    case pos =>
      have HPE := Lib.hid (show pieDE yn at_ nn = 2 from by unfold pieDE; rw [if_pos (.inr (.inr (.inl h3)))])
      go_wp2_with fail
      refine (dbad_any 2 W7).mono ?_
      rintro e wE ⟨rfl, hbE⟩
      unfold repA
      have hbe := HB7.out.trans (hbE.mono HB7.out.size)
      have HRB := Lib.hid ((hbe.block (w.heap.size + 1) hr0).trans HE.out.rb)
      have HST := Lib.hid (HE.out.st.below hbe)
      have HFR := Lib.hid (show Frm (DF S σ) w wE from Frm.ofBelow (HE.out.bel.trans (hbe.mono HE.out.bel.size)))
      obtain ⟨⟨q0, q1, q2, q3, q4, q5, q6⟩, r0, r1, r2, r3, r4, r5, r6⟩ := rb_cells HRB.out
      clear hbE hbe
      go_wp2_with fail
      clear q0 q1 q2 q3 q4 q5 q6 r0 r1 r2 r3 r4 r5 r6
      obtain ⟨W5, hW5⟩ : ∃ W5, W5 = setR wE (w.heap.size + 1) (.int .i64 2) (.slice none 0 0) (.int .i64 0) (.int .i64 0) (.int .i64 0) (.slice none 0 0) (.bool false) := ⟨_, rfl⟩
      have hr5 := setR_at0 HRB.out (.int .i64 2) (.slice none 0 0) (.int .i64 0) (.int .i64 0) (.int .i64 0) (.slice none 0 0) (.bool false)
      have hF5 := (Frm.refl (fun b => b = w.heap.size + 1) wE).setR (R := w.heap.size + 1) (.inl rfl) (.int .i64 2) (.slice none 0 0) (.int .i64 0) (.int .i64 0) (.int .i64 0) (.slice none 0 0) (.bool false)
      rw [← hW5] at hr5 hF5
      unfold setR at hW5
      rw [← hW5]
      have hfin := put_done HST.out HRB.out (Nat.le_succ _) HFR.out hF5
      exact bodyPost_ret (ret_rep rfl _ _ (w.heap.size + 1) rfl hr5) rfl (by
        unfold Do4
        rw [HO2.out]
        intro u' hu'
        rw [HU.out] at hu'
        cases hu'
        exact ⟨fun _ => ⟨rfl, hfin⟩, fun e0 => by have h2 : pieDE yn at_ nn = 2 := HPE.out; rw [e0] at h2; cases h2⟩)
    have wsb : IntKind.i64.wrap ((yn : Int) - at_) = (yn : Int) - at_ := IntWalk.i64_in _ (by omega)
    by_cases h4 : (yn : Int) - at_ < nn
    case pos =>
      have HPE := Lib.hid (show pieDE yn at_ nn = 2 from by unfold pieDE; rw [if_pos (.inr (.inr (.inr h4)))])
      go_wp2_with fail
      refine (dbad_any 2 W7).mono ?_
      rintro e wE ⟨rfl, hbE⟩
      unfold repA
      have hbe := HB7.out.trans (hbE.mono HB7.out.size)
      have HRB := Lib.hid ((hbe.block (w.heap.size + 1) hr0).trans HE.out.rb)
      have HST := Lib.hid (HE.out.st.below hbe)
      have HFR := Lib.hid (show Frm (DF S σ) w wE from Frm.ofBelow (HE.out.bel.trans (hbe.mono HE.out.bel.size)))
      obtain ⟨⟨q0, q1, q2, q3, q4, q5, q6⟩, r0, r1, r2, r3, r4, r5, r6⟩ := rb_cells HRB.out
      clear hbE hbe
      go_wp2_with fail
      clear q0 q1 q2 q3 q4 q5 q6 r0 r1 r2 r3 r4 r5 r6
      obtain ⟨W5, hW5⟩ : ∃ W5, W5 = setR wE (w.heap.size + 1) (.int .i64 2) (.slice none 0 0) (.int .i64 0) (.int .i64 0) (.int .i64 0) (.slice none 0 0) (.bool false) := ⟨_, rfl⟩
      have hr5 := setR_at0 HRB.out (.int .i64 2) (.slice none 0 0) (.int .i64 0) (.int .i64 0) (.int .i64 0) (.slice none 0 0) (.bool false)
      have hF5 := (Frm.refl (fun b => b = w.heap.size + 1) wE).setR (R := w.heap.size + 1) (.inl rfl) (.int .i64 2) (.slice none 0 0) (.int .i64 0) (.int .i64 0) (.int .i64 0) (.slice none 0 0) (.bool false)
      rw [← hW5] at hr5 hF5
      unfold setR at hW5
      rw [← hW5]
      have hfin := put_done HST.out HRB.out (Nat.le_succ _) HFR.out hF5
      exact bodyPost_ret (ret_rep rfl _ _ (w.heap.size + 1) rfl hr5) rfl (by
        unfold Do4
        rw [HO2.out]
        intro u' hu'
        rw [HU.out] at hu'
        cases hu'
        exact ⟨fun _ => ⟨rfl, hfin⟩, fun e0 => by have h2 : pieDE yn at_ nn = 2 := HPE.out; rw [e0] at h2; cases h2⟩)
    have HPE := Lib.hid (show pieDE yn at_ nn = 0 from by unfold pieDE; rw [if_neg (by omega)])
    obtain ⟨p, rfl⟩ : ∃ p : Nat, at_ = (p : Int) := ⟨at_.toNat, by omega⟩
    obtain ⟨m, rfl⟩ : ∃ m : Nat, nn = (m : Int) := ⟨nn.toNat, by omega⟩
    have wad : IntKind.i64.wrap ((p : Int) + (m : Int)) = (p : Int) + (m : Int) := IntWalk.i64_in _ (by omega)
    have hsl := slice_runD ya yn yc p m (by omega)
    obtain ⟨a5, ha5⟩ : ∃ a5, a5 = (if yc = p then (ya : Option Addr) else ya.map (·.add p)) := ⟨_, rfl⟩
    rw [← ha5] at hsl
    have fx := frz_blkD HK7.out 1
    have HSB0 := Lib.hid (show BytesAt W7 a5 m (yc - p) ((yd.drop p).take m) from by rw [ha5]; exact HYB.out.subAnyD p m (by omega))
    obtain ⟨W8, hW8⟩ : ∃ W8, W8 = W7.setCell ⟨b8, 1, none⟩ (.slice a5 m (yc - p)) := ⟨_, rfl⟩
    have HK8 := Lib.hid (show W8.heap[b8]? = some (.cells #[.string yk, .slice a5 m (yc - p), .int .i64 yv, .int .i64 yb] 59 (0, 0)) from by rw [hW8, heap_setCell_same W7 b8 1 _ _ _ HK7.out]; rfl)
    have HB8 := Lib.hid (show Below W1.heap.size W1 W8 from by rw [hW8]; exact HB7.out.setCell (p := ⟨b8, 1, none⟩) (Nat.le_of_eq HBE8.out.symm) _)
    have HRW := Lib.hid (cells_of_below HB8.out HE.out.rb)
    have HSTW := Lib.hid (HE.out.st.below HB8.out)
    have HFRW := Lib.hid (show Frm (DF S σ) w W8 from Frm.ofBelow (HE.out.bel.trans (HB8.out.mono HE.out.bel.size)))
    have HSB := Lib.hid (show BytesAt W8 a5 m (yc - p) ((yd.drop p).take m) from by
      rw [ha5]
      exact (show BytesAt W8 ya yn yc yd from (ObjOk.bytes HOO.out).kept HB8.out).subAnyD p m (by omega))
    have HW8 := Lib.hid hW8
    clear ha5 hW8 h1 h2
    go_upto_region 26 with fail
    rw [← HW8.out]
    clear x1 k0 k4 k5 fx hsl wsb wad
    have HTW := Lib.hid (twin_any HSB.out.drew)
    have x1 := cell_blkD HK8.out (i := 1) (u := .slice a5 m (yc - p)) rfl
    have x2 := cell_blkD HK8.out (i := 2) (u := .int .i64 yv) rfl
    have x3 := cell_blkD HK8.out (i := 3) (u := .int .i64 yb) rfl
    go_region_law (go_simp; go_at_call 10; refine HTW.out.mono ?_; rintro e wB ⟨vB, rfl, hoB, _, hbB⟩; obtain ⟨ta, tc, rfl⟩ := own_sliceD hoB; have HBB := Lib.hid (show Below W8.heap.size W8 wB from ((Below.refl W8.heap.size W8).drew).trans hbB); have HOB := Lib.hid hoB; have z2 := cell_blkD (cells_of_below HBB.out HK8.out) (i := 2) (u := .int .i64 yv) rfl; have z3 := cell_blkD (cells_of_below HBB.out HK8.out) (i := 3) (u := .int .i64 yb) rfl; have HRB := Lib.hid (cells_of_below HBB.out HRW.out); obtain ⟨⟨q0, q1, q2, q3, q4, q5, q6⟩, r0, r1, r2, r3, r4, r5, r6⟩ := rb_cells HRB.out; clear hoB hbB)
    all_goals
      clear x1 x2 x3 z2 z3 q0 q1 q2 q3 q4 q5 q6 r0 r1 r2 r3 r4 r5 r6
      have HST := Lib.hid (HSTW.out.below HBB.out)
      have HFR := Lib.hid (HFRW.out.below HBB.out)
      go_wp2_with fail
      obtain ⟨W5, hW5⟩ : ∃ W5, W5 = setR wB (w.heap.size + 1) (.int .i64 0) (.slice ta m tc) (.int .i64 yv) (.int .i64 yb) (.int .i64 0) (.slice none 0 0) (.bool false) := ⟨_, rfl⟩
      have hr5 := setR_at0 HRB.out (.int .i64 0) (.slice ta m tc) (.int .i64 yv) (.int .i64 yb) (.int .i64 0) (.slice none 0 0) (.bool false)
      have hF5 := (Frm.refl (fun b => b = w.heap.size + 1) wB).setR (R := w.heap.size + 1) (.inl rfl) (.int .i64 0) (.slice ta m tc) (.int .i64 yv) (.int .i64 yb) (.int .i64 0) (.slice none 0 0) (.bool false)
      rw [← hW5] at hr5 hF5
      unfold setR at hW5
      rw [← hW5]
      have hfin := put_done HST.out HRB.out (Nat.le_succ _) HFR.out hF5
      have hget := getOk_mk (n := m) (xs := ((yd.drop p).take m)) (ver := yv) (born := yb) HOB.out HSB.out.byte HSB.out.reach HRB.out hF5 hfin
      exact bodyPost_ret (ret_rep rfl _ _ (w.heap.size + 1) rfl hr5) rfl (by
        unfold Do4
        rw [HO2.out]
        intro u' hu'
        rw [HU.out] at hu'
        cases hu'
        exact ⟨fun e0 => absurd HPE.out e0, fun _ => by rw [Int.toNat_natCast, Int.toNat_natCast]; exact hget⟩)
end Go.Proofs.YtjafagfhkpaciaaGreat
end PkSP6_5
section PkSP6_6
/- The document's Do: list. Written by gensddo.py. -/
namespace Go.Proofs.YtjafagfhkpaciaaGreat
open Go.RowKit
set_option linter.unusedVariables false
set_option linter.unusedSimpArgs false

set_option maxRecDepth 100000 in
set_option maxHeartbeats 16000000 in
theorem ddo_5 {w : World} {S base : Nat} {σ : DSto} (h : DStAt w S base σ) {vr at_ nn id : Int} {ky : ByteArray} {a : Option Addr} {n c : Nat} {xs : List Nat} (hx : BytesAt w a n c xs) (hky : ky.size ≤ 1000000000000000) (hkey : ∀ o ∈ σ.objs, o.key.size ≤ 1000000000000000) :
    Calls Tryz.prog 13 #[.pointer (some ⟨S, 0, none⟩), .agg #[.int .i64 5, .string ky, .slice a n c, .int .i64 vr, .int .i64 at_, .int .i64 nn, .int .i64 id]] w (LstDo w S base σ (pageL (wantK ky (bs xs)) itemD (objsK σ.objs))) := by
  have HE := Lib.hid (dent_mk h #[.int .i64 5, .string ky, .slice a n c, .int .i64 vr, .int .i64 at_, .int .i64 nn, .int .i64 id])
  have hSl : S < w.heap.size := (Array.getElem?_eq_some_iff.1 h.blk).1
  clear h
  go_enter Tryz.func13, Tryz.ntmps13
  go_upto_region 1 with fail
  obtain ⟨W0, hW0⟩ : ∃ W0, W0 = (w.alloc (.cells #[.int .i64 5, .string ky, .slice a n c, .int .i64 vr, .int .i64 at_, .int .i64 nn, .int .i64 id] 34)).alloc (.cells zrep 43) := ⟨_, rfl⟩
  rw [← hW0] at HE
  unfold zrep at hW0
  rw [← hW0]
  clear hW0
  obtain ⟨ai, hai⟩ : ∃ ai, ai = atK σ.objs ky := ⟨_, rfl⟩
  obtain ⟨oi, hoi⟩ : ∃ oi, oi = openK σ.ups id := ⟨_, rfl⟩
  have HAT := Lib.hid (fun k => dat_any (HE.out.st.drewN k) ky)
  have HOP := Lib.hid (fun k => dopen_any (HE.out.st.drewN k) id)
  rw [← hai] at HAT
  rw [← hoi] at HOP
  have k1 := cell_blkD HE.out.cb (i := 1) (u := .string ky) rfl
  have k6 := cell_blkD HE.out.cb (i := 6) (u := .int .i64 id) rfl
  go_quiet ((first | (go_at_call 26; exact Calls.quiet_of_same (HAT.out _)) | (go_at_call 27; exact Calls.quiet_of_same (HOP.out _))))
  rename Nat => nq
  clear k1 k6 HAT HOP
  have HE1 := Lib.hid (HE.out.drewN nq)
  obtain ⟨W1, hW1⟩ : ∃ W1, W1 = W0.drewN nq := ⟨_, rfl⟩
  rw [← hW1] at HE1
  rw [← hW1]
  clear HE hW1
  have HE := HE1
  clear HE1
  have hz0 := HE.out.sz
  have hk0 : w.heap.size < W1.heap.size := by omega
  have hr0 : w.heap.size + 1 < W1.heap.size := by omega
  have hS0 : S < W1.heap.size := by omega
  have HZ0 := Lib.hid hz0
  clear hz0
  have HR0 := Lib.hid (Below.refl W1.heap.size W1)
  have k0 := cell_blkD HE.out.cb (i := 0) (u := .int .i64 5) rfl
  have HAI := Lib.hid hai
  have HOI := Lib.hid hoi
  clear hai hoi
  have hlf := HE.out.st.of
  obtain ⟨R9, hR9⟩ : ∃ R9, R9 = W1.heap.size := ⟨_, rfl⟩
  obtain ⟨W2, hW2⟩ : ∃ W2, W2 = W1.alloc (.cells zrep 43) := ⟨_, rfl⟩
  have HB2 := Lib.hid (show Below W1.heap.size W1 W2 from by rw [hW2]; exact (Below.refl _ _).alloc (Nat.le_refl _) _)
  have hk9 : W2.heap[R9]? = some (.cells zrep 43 (0, 0)) := by rw [hW2, hR9]; exact heap_alloc_newD W1 _
  have HP0 : Hid (PgAt W2 W2 W2.heap.size R9 (.slice none 0 0) 0 [] false) := Lib.hid ⟨Frm.refl _ _, hk9, World.ownsRow_nil W2 _ _ _, rfl⟩
  have HR9 := Lib.hid (Nat.le_of_eq hR9.symm)
  have hR2 : R9 < W2.heap.size := (Array.getElem?_eq_some_iff.1 hk9).1
  have HW2 := Lib.hid hW2
  have HRE := Lib.hid hR9
  obtain ⟨l, hl⟩ : ∃ l, l = objsK σ.objs := ⟨_, rfl⟩
  have hll : l.length = σ.objs.length := by rw [hl]; unfold objsK; exact List.length_map _
  obtain ⟨m9, hm9⟩ : ∃ m9, m9 = σ.objs.length := ⟨_, rfl⟩
  have HL := Lib.hid hl
  have HM9 := Lib.hid hm9
  rw [← hm9] at hll hlf
  have HLL := Lib.hid hll
  obtain ⟨oa, hoa⟩ : ∃ oa, oa = σ.oa := ⟨_, rfl⟩
  obtain ⟨oc, hoc⟩ : ∃ oc, oc = σ.oc := ⟨_, rfl⟩
  have HV := Lib.hid (show VecAt DObjS W1 oa m9 oc σ.objs from by rw [hm9, hoa, hoc]; exact HE.out.st.objs)
  have c0 : W2.cell? ⟨S, 0, none⟩ = some (.slice oa m9 oc) := by rw [hm9, hoa, hoc]; exact cell_blkD (HE.out.st.below HB2.out).blk (i := 0) rfl
  have hcp := HV.out.cap
  have hcm := HV.out.capm
  clear hW2 hk9 hR9 hl hll hm9 hoa hoc
  go_upto_region 28 with fail
  go_upto_region 29 with fail
  have hw2 := HW2.out
  unfold zrep at hw2
  rw [← hw2, ← HRE.out]
  clear hw2
  clear k0
  go_wp2_with fail
  go_loopw [183] (fun s14 wr => ∃ (i m cc : Nat) (aa : Option Addr), i ≤ m9 ∧ m ≤ 16 ∧ s14 = .int .i64 (i : Int) ∧ Hid (PgAt W2 wr W2.heap.size R9 (.slice aa m cc) m (pageL (wantK ky (bs xs)) itemD (l.take i)) false)) (fun s14 _ => m9 - (intOf s14).toNat)
  case atStart => exact ⟨0, 0, 0, none, by omega, by omega, rfl, HP0⟩
  case round =>
    clear HP0 c0
    obtain ⟨i, m, cc, aa, hil, hm, rfl, HP⟩ := hrel
    rename World => wr
    by_cases hk : i < m9
    · have HBW := Lib.hid (HB2.out.trans (HP.out.frm.toBelow HB2.out.size (fun i e => by rw [e]; exact HR9.out)))
      obtain ⟨b, off, rfl, _, _, hc⟩ := (HV.out.kept HBW.out).get hk
      have hgl := getD_some (d := DObjS.z) (show i < σ.objs.length by rw [← HM9.out]; exact hk)
      obtain ⟨x, hxx⟩ : ∃ x, x = σ.objs.getD i DObjS.z := ⟨_, rfl⟩
      rw [← hxx] at hc hgl
      have hks := hkey x (List.mem_of_getElem? hgl)
      have HPI := Lib.hid (show l[i]? = some (x.key, x) from by rw [HL.out]; exact map_at hgl)
      obtain ⟨yk, ya, yn, yc, yd, yv, yb⟩ := x
      have v0 : wr.cell? ⟨b, off + i * 4, none⟩ = some (.string yk) := hc 0 _ rfl
      have v1 : wr.cell? ⟨b, off + i * 4 + 1, none⟩ = some (.slice ya yn yc) := hc 1 _ rfl
      have v2 : wr.cell? ⟨b, off + i * 4 + 2, none⟩ = some (.int .i64 yv) := hc 2 _ rfl
      have v3 : wr.cell? ⟨b, off + i * 4 + 3, none⟩ = some (.int .i64 yb) := hc 3 _ rfl
      have hks : yk.size ≤ 1000000000000000 := hks
      obtain ⟨bx, hbx⟩ : ∃ bx, bx = wr.heap.size := ⟨_, rfl⟩
      obtain ⟨W3, hW3⟩ : ∃ W3, W3 = wr.alloc (.cells #[.string yk, .slice ya yn yc, .int .i64 yv, .int .i64 yb] 59) := ⟨_, rfl⟩
      have hb3 : Below wr.heap.size wr W3 := by rw [hW3]; exact (Below.refl _ _).alloc (Nat.le_refl _) _
      have hk3 : W3.heap[bx]? = some (.cells #[.string yk, .slice ya yn yc, .int .i64 yv, .int .i64 yb] 59 (0, 0)) := by rw [hW3, hbx]; exact heap_alloc_newD wr _
      have HP3 := Lib.hid (HP.out.below hb3)
      have HBW3 := Lib.hid (HBW.out.trans (hb3.mono HBW.out.size))
      have HK3 := Lib.hid hk3
      have HW3 := Lib.hid hW3
      have HBX := Lib.hid hbx
      have zj : (i : Int) < (m9 : Int) := by omega
      have zj0 : (0 : Int) ≤ (i : Int) := by omega
      have wj : IntKind.i64.wrap ((i : Int) + 1) = (i : Int) + 1 := IntWalk.i64_in _ (by omega)
      have HSU := Lib.hid (show pageL (wantK ky (bs xs)) itemD (l.take (i + 1)) = pageL (wantK ky (bs xs)) itemD (l.take i) ++ (if (wantK ky (bs xs)) yk = true then [(⟨yk, yv, (yn : Int), yb⟩ : ItemV)] else []) from pageL_succ HPI.out)
      have hyn : 0 ≤ yn := Nat.zero_le _
      clear hc hxx hgl hbx hW3 hb3 hk3
      go_upto_region 32 with fail
      rw [← HW3.out, ← HBX.out]
      clear v0 v1 v2 v3
      have HQ := Lib.hid HP3.out
      clear HP
      have HP := HQ
      clear HQ HP3
      have d0 := cell_blkD HK3.out (i := 0) (u := .string yk) rfl
      have d1 := cell_blkD HK3.out (i := 1) (u := .slice ya yn yc) rfl
      have d2 := cell_blkD HK3.out (i := 2) (u := .int .i64 yv) rfl
      have d3 := cell_blkD HK3.out (i := 3) (u := .int .i64 yb) rfl
      have e1 := cell_blkD (cells_of_below HBW3.out HE.out.cb) (i := 1) (u := .string ky) rfl
      have e2 := cell_blkD (cells_of_below HBW3.out HE.out.cb) (i := 2) (u := .slice a n c) rfl
      have cv := ((hx.kept HE.out.bel).kept HBW3.out).conv
      have x5 := cell_blkD HP.out.rb (i := 5) (u := .slice aa m cc) rfl
      have x6 := cell_blkD HP.out.rb (i := 6) (u := .bool false) rfl
      have f5 := frz_blkD HP.out.rb 5
      have f6 := frz_blkD HP.out.rb 6
      have HBG := Lib.hid (dbegins_any yk ky hks hky W3)
      have HWT := Lib.hid (show wantK ky (bs xs) yk = (begD ky yk && gtB yk (bs xs)) from by unfold wantK; rw [begD_is])
      cases hbg : begD ky yk with
      | false =>
        have HSU2 := Lib.hid (show pageL (wantK ky (bs xs)) itemD (l.take (i + 1)) = pageL (wantK ky (bs xs)) itemD (l.take i) from by rw [HSU.out, HWT.out, hbg, Bool.false_and, if_neg (by decide), List.append_nil])
        rw [hbg] at HBG
        go_wp2_with fail
        refine HBG.out.mono ?_
        rintro e w4 ⟨rfl, hw4⟩
        rw [hw4]
        clear hw4 w4
        go_wp2_with fail
        go_roundw
        case rel => exact ⟨i + 1, m, cc, aa, by omega, hm, by push_cast; rfl, Lib.hid (by rw [HSU2.out]; exact HP.out)⟩
        case measure => simp only [intOf]; omega
      | true =>
        rw [hbg] at HBG
        cases hgt : gtB yk (bs xs) with
        | false =>
          have HSU2 := Lib.hid (show pageL (wantK ky (bs xs)) itemD (l.take (i + 1)) = pageL (wantK ky (bs xs)) itemD (l.take i) from by rw [HSU.out, HWT.out, hgt, Bool.and_false, if_neg (by decide), List.append_nil])
          have hle : (Op.bytesLess yk.toList (bs xs).toList || yk.toList == (bs xs).toList) = true := by
            unfold gtB at hgt
            cases h1 : Op.bytesLess yk.toList (bs xs).toList <;> cases h2 : (yk.toList == (bs xs).toList) <;> simp_all
          go_wp2_with fail
          refine HBG.out.mono ?_
          rintro e w4 ⟨rfl, hw4⟩
          rw [hw4]
          clear hw4 w4
          go_wp2_with fail
          go_roundw
          case rel => exact ⟨i + 1, m, cc, aa, by omega, hm, by push_cast; rfl, Lib.hid (by rw [HSU2.out]; exact HP.out)⟩
          case measure => simp only [intOf]; omega
        | true =>
          have HWT1 := Lib.hid (show wantK ky (bs xs) yk = true from by rw [HWT.out, hbg, hgt]; rfl)
          have hle1 : Op.bytesLess yk.toList (bs xs).toList = false := by
            unfold gtB at hgt
            cases h1 : Op.bytesLess yk.toList (bs xs).toList <;> simp_all
          have hle2 : (yk.toList == (bs xs).toList) = false := by
            unfold gtB at hgt
            cases h2 : (yk.toList == (bs xs).toList) <;> simp_all
          clear hgt
          go_wp2_with fail
          refine HBG.out.mono ?_
          rintro e w4 ⟨rfl, hw4⟩
          rw [hw4]
          clear hw4 w4
          have HSU2 := Lib.hid (show pageL (wantK ky (bs xs)) itemD (l.take (i + 1)) = pageL (wantK ky (bs xs)) itemD (l.take i) ++ [(⟨yk, yv, (yn : Int), yb⟩ : ItemV)] from by rw [HSU.out, if_pos HWT1.out])
          by_cases hm16 : m = 16
          · subst hm16
            have HLN := Lib.hid (show 16 < (pageL (wantK ky (bs xs)) itemD l).length from by
              rw [pageL_split (P := (wantK ky (bs xs))) (f := itemD) (l := l) i, List.length_append, HP.out.len]
              have := pageL_drop (P := (wantK ky (bs xs))) (f := itemD) HPI.out HWT1.out
              omega)
            have HTK := Lib.hid (show (pageL (wantK ky (bs xs)) itemD l).take 16 = pageL (wantK ky (bs xs)) itemD (l.take i) from by
              rw [pageL_split (P := (wantK ky (bs xs))) (f := itemD) (l := l) i, List.take_append_of_le_length (by rw [HP.out.len]; omega), List.take_of_length_le (by rw [HP.out.len]; omega)])
            go_upto_region 37 with fail
            have HPM2 := Lib.hid HP.out.more
            clear x5 x6 f5 f6 d0 d1 d2 d3 e1 e2 cv
            obtain ⟨wm, hwm⟩ : ∃ wm, wm = W3.setCell ⟨R9, 6, none⟩ (.bool true) := ⟨_, rfl⟩
            rw [← hwm] at HPM2
            rw [← hwm]
            clear hwm HP
            have HP := HPM2
            clear HPM2
            have HB1 := Lib.hid (HB2.out.trans (HP.out.frm.toBelow HB2.out.size (fun i e => by rw [e]; exact HR9.out)))
            have HRB := Lib.hid (cells_of_below HB1.out HE.out.rb)
            have x0 := cell_blkD HP.out.rb (i := 0) (u := .int .i64 0) rfl
            have x1 := cell_blkD HP.out.rb (i := 1) (u := .slice none 0 0) rfl
            have x2 := cell_blkD HP.out.rb (i := 2) (u := .int .i64 0) rfl
            have x3 := cell_blkD HP.out.rb (i := 3) (u := .int .i64 0) rfl
            have x4 := cell_blkD HP.out.rb (i := 4) (u := .int .i64 0) rfl
            have x5 := cell_blkD HP.out.rb (i := 5) (u := .slice aa 16 cc) rfl
            have x6 := cell_blkD HP.out.rb (i := 6) (u := .bool true) rfl
            obtain ⟨⟨q0, q1, q2, q3, q4, q5, q6⟩, r0, r1, r2, r3, r4, r5, r6⟩ := rb_cells HRB.out
            go_wp2_with fail
            clear x0 x1 x2 x3 x4 x5 x6 q0 q1 q2 q3 q4 q5 q6 r0 r1 r2 r3 r4 r5 r6
            obtain ⟨W5, hW5⟩ : ∃ W5, W5 = setR wm (w.heap.size + 1) (.int .i64 0) (.slice none 0 0) (.int .i64 0) (.int .i64 0) (.int .i64 0) (.slice aa 16 cc) (.bool true) := ⟨_, rfl⟩
            have hr5 := setR_at0 HRB.out (.int .i64 0) (.slice none 0 0) (.int .i64 0) (.int .i64 0) (.int .i64 0) (.slice aa 16 cc) (.bool true)
            have hF5 := (Frm.refl (fun b => b = w.heap.size + 1) wm).setR (R := w.heap.size + 1) (.inl rfl) (.int .i64 0) (.slice none 0 0) (.int .i64 0) (.int .i64 0) (.int .i64 0) (.slice aa 16 cc) (.bool true)
            rw [← hW5] at hr5 hF5
            unfold setR at hW5
            rw [← hW5]
            exact bodyPost_ret (ret_rep rfl _ _ (w.heap.size + 1) rfl hr5) rfl (pgD_fin HE.out HB2.out HP.out HR9.out hm (by rw [← HL.out]; exact HTK.out) (decide_eq_true (by rw [← HL.out]; exact HLN.out)) hF5)
          · have hm15 : m < 16 := by omega
            have hne16 : ¬ (m : Int) = 16 := by omega
            have hb7 : Below W3.heap.size W3 (W3.alloc (.cells #[.string yk, .int .i64 yv, .int .i64 (yn : Int), .int .i64 yb] 54)) := (Below.refl _ _).alloc (Nat.le_refl _) _
            have HP7 := Lib.hid (HP.out.below hb7)
            have HV7 := Lib.hid (vec_oneS ItemS W3 (⟨yk, yv, (yn : Int), yb⟩ : ItemV) (fun _ => trivial) 54 (cs := #[.string yk, .int .i64 yv, .int .i64 (yn : Int), .int .i64 yb]) rfl)
            have hsz7 := hb7.size
            have hw23 : W2.heap.size ≤ W3.heap.size := HP.out.frm.size
            clear hb7
            go_wp2_with (at_builtin; refine wpList_append_itm rfl (.tmp 207) (.tmp 218) rfl W2.heap.size _ _ (pageL (wantK ky (bs xs)) itemD (l.take i)) rfl HP7.out.own _ _ _ [(⟨yk, yv, (yn : Int), yb⟩ : ItemV)] rfl HV7.out (by omega) (Nat.le_trans hw23 hsz7) ?_)
            intro v8 w8 ho8 hg8
            obtain ⟨a8, c8, rfl⟩ := own_sliceD ho8
            obtain ⟨hf8, hr8⟩ := PgAt.grow (v' := .slice a8 (m + 1) c8) (m' := m + 1) (xs' := []) HP7.out (Nat.le_refl _) hg8
            have s5 := cell_blkD hr8 (i := 5) (u := .slice aa m cc) rfl
            have s5f := frz_blkD hr8 5
            have HPN := Lib.hid (PgAt.set (xs := pageL (wantK ky (bs xs)) itemD (l.take (i + 1))) hf8 hr8 (by rw [HSU2.out]; exact ho8) (by rw [HSU2.out, List.length_append, HP.out.len]; rfl) (own_ne ho8 hr8 (by decide)))
            clear ho8 hg8 hf8 hr8 x5 x6 f5 f6 d0 d1 d2 d3 e1 e2 cv HP7 HV7
            go_wp2_with fail
            go_roundw
            case rel => exact ⟨i + 1, m + 1, c8, a8, by omega, by omega, by push_cast; rfl, HPN⟩
            case measure => simp only [intOf]; omega
    · have e : i = m9 := by omega
      have hx9 : pageL (wantK ky (bs xs)) itemD (l.take i) = pageL (wantK ky (bs xs)) itemD l := by rw [e, ← HLL.out, List.take_length]
      rw [hx9] at HP
      have HLN := Lib.hid (show ¬ 16 < (pageL (wantK ky (bs xs)) itemD l).length from by rw [HP.out.len]; omega)
      have HTK := Lib.hid (show (pageL (wantK ky (bs xs)) itemD l).take 16 = pageL (wantK ky (bs xs)) itemD l from List.take_of_length_le (by rw [HP.out.len]; omega))
      clear hx9
      go_upto_region 37 with fail
      have HB1 := Lib.hid (HB2.out.trans (HP.out.frm.toBelow HB2.out.size (fun i e => by rw [e]; exact HR9.out)))
      have HRB := Lib.hid (cells_of_below HB1.out HE.out.rb)
      have x0 := cell_blkD HP.out.rb (i := 0) (u := .int .i64 0) rfl
      have x1 := cell_blkD HP.out.rb (i := 1) (u := .slice none 0 0) rfl
      have x2 := cell_blkD HP.out.rb (i := 2) (u := .int .i64 0) rfl
      have x3 := cell_blkD HP.out.rb (i := 3) (u := .int .i64 0) rfl
      have x4 := cell_blkD HP.out.rb (i := 4) (u := .int .i64 0) rfl
      have x5 := cell_blkD HP.out.rb (i := 5) (u := .slice aa m cc) rfl
      have x6 := cell_blkD HP.out.rb (i := 6) (u := .bool false) rfl
      obtain ⟨⟨q0, q1, q2, q3, q4, q5, q6⟩, r0, r1, r2, r3, r4, r5, r6⟩ := rb_cells HRB.out
      go_wp2_with fail
      clear x0 x1 x2 x3 x4 x5 x6 q0 q1 q2 q3 q4 q5 q6 r0 r1 r2 r3 r4 r5 r6
      obtain ⟨W5, hW5⟩ : ∃ W5, W5 = setR wr (w.heap.size + 1) (.int .i64 0) (.slice none 0 0) (.int .i64 0) (.int .i64 0) (.int .i64 0) (.slice aa m cc) (.bool false) := ⟨_, rfl⟩
      have hr5 := setR_at0 HRB.out (.int .i64 0) (.slice none 0 0) (.int .i64 0) (.int .i64 0) (.int .i64 0) (.slice aa m cc) (.bool false)
      have hF5 := (Frm.refl (fun b => b = w.heap.size + 1) wr).setR (R := w.heap.size + 1) (.inl rfl) (.int .i64 0) (.slice none 0 0) (.int .i64 0) (.int .i64 0) (.int .i64 0) (.slice aa m cc) (.bool false)
      rw [← hW5] at hr5 hF5
      unfold setR at hW5
      rw [← hW5]
      exact bodyPost_ret (ret_rep rfl _ _ (w.heap.size + 1) rfl hr5) rfl (pgD_fin HE.out HB2.out HP.out HR9.out hm (by rw [← HL.out]; exact HTK.out) (decide_eq_false (by rw [← HL.out]; exact HLN.out)) hF5)
end Go.Proofs.YtjafagfhkpaciaaGreat
end PkSP6_6
