/- Texts put together by packtpl2.py: SdDoG, Chain, SdDoC, Un, Uo, Ui, Uk, Ur, SlD. -/
import Derived.Test.YtodoklnohedolaaPkUC1
import Derived.Test.YtodoklnohedolaaPkUC2
import Derived.Test.YtodoklnohedolaaPkUC4
import Derived.Laws.Tables
import Derived.Lib.SlBytesConst
section PkUC5_0
/- The document's Do: get, range. Written by gensddo.py. -/
namespace Go.Proofs.Ytodoklnohedolaa
open Go.RowKit
set_option linter.unusedVariables false
set_option linter.unusedSimpArgs false

set_option maxRecDepth 100000 in
set_option maxHeartbeats 16000000 in
theorem ddo_3 {w : World} {S base : Nat} {σ : DSto} (h : DStAt w S base σ) {vr at_ nn id : Int} {ky : ByteArray} {a : Option Addr} {n c : Nat}  :
    Calls Try.prog 21 #[.pointer (some ⟨S, 0, none⟩), .agg #[.int .i64 3, .string ky, .slice a n c, .int .i64 vr, .int .i64 at_, .int .i64 nn, .int .i64 id]] w (Do3 w S base σ ky) := by
  have HE := Lib.hid (dent_mk h #[.int .i64 3, .string ky, .slice a n c, .int .i64 vr, .int .i64 at_, .int .i64 nn, .int .i64 id])
  have hSl : S < w.heap.size := (Array.getElem?_eq_some_iff.1 h.blk).1
  clear h
  go_enter Try.func21, Try.ntmps21
  go_upto_region 1 with fail
  obtain ⟨W0, hW0⟩ : ∃ W0, W0 = (w.alloc (.cells #[.int .i64 3, .string ky, .slice a n c, .int .i64 vr, .int .i64 at_, .int .i64 nn, .int .i64 id] 30)).alloc (.cells zrep 36) := ⟨_, rfl⟩
  rw [← hW0] at HE
  unfold zrep at hW0
  rw [← hW0]
  clear hW0
  obtain ⟨ai, hai⟩ : ∃ ai, ai = atK σ.objs ky := ⟨_, rfl⟩
  obtain ⟨oi, hoi⟩ : ∃ oi, oi = openK σ.ups id := ⟨_, rfl⟩
  have HAT := Lib.hid (fun k => dat_any (HE.out.st.drewN k) ky)
  have HOP := Lib.hid (fun k => dopen_any (HE.out.st.drewN k) id)
  rw [← hai] at HAT
  rw [← hoi] at HOP
  have k1 := cell_blkD HE.out.cb (i := 1) (u := .string ky) rfl
  have k6 := cell_blkD HE.out.cb (i := 6) (u := .int .i64 id) rfl
  go_quiet ((first | (go_at_call 17; exact Calls.quiet_of_same (HAT.out _)) | (go_at_call 40; exact Calls.quiet_of_same (HOP.out _))))
  rename Nat => nq
  clear k1 k6 HAT HOP
  have HE1 := Lib.hid (HE.out.drewN nq)
  obtain ⟨W1, hW1⟩ : ∃ W1, W1 = W0.drewN nq := ⟨_, rfl⟩
  rw [← hW1] at HE1
  rw [← hW1]
  clear HE hW1
  have HE := HE1
  clear HE1
  have hz0 := HE.out.sz
  have hk0 : w.heap.size < W1.heap.size := by omega
  have hr0 : w.heap.size + 1 < W1.heap.size := by omega
  have hS0 : S < W1.heap.size := by omega
  have HZ0 := Lib.hid hz0
  clear hz0
  have HR0 := Lib.hid (Below.refl W1.heap.size W1)
  have k0 := cell_blkD HE.out.cb (i := 0) (u := .int .i64 3) rfl
  have HAI := Lib.hid hai
  have HOI := Lib.hid hoi
  clear hai hoi
  rcases atK_neg (l := σ.objs) (k := ky) with ⟨ho1, ho2⟩ | ⟨jo, ho1, ho2⟩
  · have hai := HAI.out
    rw [ho1] at hai
    clear HAI
    subst hai
    have HNO := Lib.hid (show ∀ e w', NoD w S base σ 7 e w' → Do3 w S base σ ky e w' from fun e w' h => by unfold Do3; rw [ho2]; exact h)
    clear ho1 ho2
    go_wp2_with fail
    refine (dbad_any 7 W1).mono ?_
    rintro e wE ⟨rfl, hbE⟩
    unfold repA
    have hbe := HR0.out.trans (hbE.mono HR0.out.size)
    have HRB := Lib.hid ((hbe.block (w.heap.size + 1) hr0).trans HE.out.rb)
    have HST := Lib.hid (HE.out.st.below hbe)
    have HFR := Lib.hid (show Frm (DF S σ) w wE from Frm.ofBelow (HE.out.bel.trans (hbe.mono HE.out.bel.size)))
    obtain ⟨⟨q0, q1, q2, q3, q4, q5, q6⟩, r0, r1, r2, r3, r4, r5, r6⟩ := rb_cells HRB.out
    clear hbE hbe
    go_wp2_with fail
    clear q0 q1 q2 q3 q4 q5 q6 r0 r1 r2 r3 r4 r5 r6
    obtain ⟨W5, hW5⟩ : ∃ W5, W5 = setR wE (w.heap.size + 1) (.int .i64 7) (.slice none 0 0) (.int .i64 0) (.int .i64 0) (.int .i64 0) (.slice none 0 0) (.bool false) := ⟨_, rfl⟩
    have hr5 := setR_at0 HRB.out (.int .i64 7) (.slice none 0 0) (.int .i64 0) (.int .i64 0) (.int .i64 0) (.slice none 0 0) (.bool false)
    have hF5 := (Frm.refl (fun b => b = w.heap.size + 1) wE).setR (R := w.heap.size + 1) (.inl rfl) (.int .i64 7) (.slice none 0 0) (.int .i64 0) (.int .i64 0) (.int .i64 0) (.slice none 0 0) (.bool false)
    rw [← hW5] at hr5 hF5
    unfold setR at hW5
    rw [← hW5]
    have hfin := put_done HST.out HRB.out (Nat.le_succ _) HFR.out hF5
    exact bodyPost_ret (ret_rep rfl _ _ (w.heap.size + 1) rfl hr5) rfl (HNO.out _ _ ⟨rfl, hfin⟩)
  · have hai := HAI.out
    rw [ho1] at hai
    clear HAI
    subst hai
    obtain ⟨o, hu, _, hul⟩ := find_at ho2
    have HO2 := Lib.hid ho2
    have HU := Lib.hid hu
    have zjo : ¬ (jo : Int) < 0 := by omega
    clear ho1 ho2 hu
    have hoo := HE.out.st.obj o (List.mem_of_getElem? HU.out)
    have HOO := Lib.hid hoo
    have HV0 := Lib.hid HE.out.st.objs
    obtain ⟨gb, off, hga, hgl, _, hgc⟩ := HV0.out.get hul
    have hgd : σ.objs.getD jo DObjS.z = o := by rw [List.getD_eq_getElem?_getD, HU.out]; rfl
    rw [hgd] at hgc
    obtain ⟨yk, ya, yn, yc, yd, yv, yb⟩ := o
    have v0 : W1.cell? ⟨gb, off + jo * 4, none⟩ = some (.string yk) := hgc 0 _ rfl
    have v1 : W1.cell? ⟨gb, off + jo * 4 + 1, none⟩ = some (.slice ya yn yc) := hgc 1 _ rfl
    have v2 : W1.cell? ⟨gb, off + jo * 4 + 2, none⟩ = some (.int .i64 yv) := hgc 2 _ rfl
    have v3 : W1.cell? ⟨gb, off + jo * 4 + 3, none⟩ = some (.int .i64 yb) := hgc 3 _ rfl
    have c0 := cell_blkD HE.out.st.blk (i := 0) (u := .slice σ.oa σ.objs.length σ.oc) rfl
    rw [hga] at c0
    obtain ⟨m9, hm9⟩ : ∃ m9, m9 = σ.objs.length := ⟨_, rfl⟩
    obtain ⟨uc9, huc9⟩ : ∃ uc9, uc9 = σ.oc := ⟨_, rfl⟩
    rw [← hm9, ← huc9] at c0
    rw [← hm9] at hul
    have zi : (jo : Int) < (m9 : Int) := by omega
    have zi0 : (0 : Int) ≤ (jo : Int) := by omega
    obtain ⟨b8, hb8⟩ : ∃ b8, b8 = W1.heap.size := ⟨_, rfl⟩
    obtain ⟨W7, hW7⟩ : ∃ W7, W7 = W1.alloc (.cells #[.string yk, .slice ya yn yc, .int .i64 yv, .int .i64 yb] 56) := ⟨_, rfl⟩
    have HB7 := Lib.hid (show Below W1.heap.size W1 W7 from by rw [hW7]; exact (Below.refl _ _).alloc (Nat.le_refl _) _)
    have HK7 := Lib.hid (show W7.heap[b8]? = some (.cells #[.string yk, .slice ya yn yc, .int .i64 yv, .int .i64 yb] 56 (0, 0)) from by rw [hW7, hb8]; exact heap_alloc_newD W1 _)
    have HW7 := Lib.hid hW7
    have HBE8 := Lib.hid hb8
    clear hm9 huc9 hgc hgd hga hgl hW7 hoo hb8
    go_upto_region 22 with fail
    rw [← HW7.out, ← HBE8.out]
    clear v0 v1 v2 v3 c0 k0
    have HYB := Lib.hid (show BytesAt W7 ya yn yc yd from (ObjOk.bytes HOO.out).kept HB7.out)
    have k0 := cell_blkD (cells_of_below HB7.out HE.out.cb) (i := 0) (u := .int .i64 3) rfl
    have HRW := Lib.hid (cells_of_below HB7.out HE.out.rb)
    have HSTW := Lib.hid (HE.out.st.below HB7.out)
    have HFRW := Lib.hid (show Frm (DF S σ) w W7 from Frm.ofBelow (HE.out.bel.trans (HB7.out.mono HE.out.bel.size)))
    have HSB := HYB
    have HTW := Lib.hid (twin_any HSB.out.drew)
    have x1 := cell_blkD HK7.out (i := 1) (u := .slice ya yn yc) rfl
    have x2 := cell_blkD HK7.out (i := 2) (u := .int .i64 yv) rfl
    have x3 := cell_blkD HK7.out (i := 3) (u := .int .i64 yb) rfl
    go_upto_region 26 with fail
    go_region_law (go_simp; go_at_call 45; refine HTW.out.mono ?_; rintro e wB ⟨vB, rfl, hoB, _, hbB⟩; obtain ⟨ta, tc, rfl⟩ := own_sliceD hoB; have HBB := Lib.hid (show Below W7.heap.size W7 wB from ((Below.refl W7.heap.size W7).drew).trans hbB); have HOB := Lib.hid hoB; have z2 := cell_blkD (cells_of_below HBB.out HK7.out) (i := 2) (u := .int .i64 yv) rfl; have z3 := cell_blkD (cells_of_below HBB.out HK7.out) (i := 3) (u := .int .i64 yb) rfl; have HRB := Lib.hid (cells_of_below HBB.out HRW.out); obtain ⟨⟨q0, q1, q2, q3, q4, q5, q6⟩, r0, r1, r2, r3, r4, r5, r6⟩ := rb_cells HRB.out; clear hoB hbB)
    all_goals
      clear x1 x2 x3 z2 z3 q0 q1 q2 q3 q4 q5 q6 r0 r1 r2 r3 r4 r5 r6
      have HST := Lib.hid (HSTW.out.below HBB.out)
      have HFR := Lib.hid (HFRW.out.below HBB.out)
      go_wp2_with fail
      obtain ⟨W5, hW5⟩ : ∃ W5, W5 = setR wB (w.heap.size + 1) (.int .i64 0) (.slice ta yn tc) (.int .i64 yv) (.int .i64 yb) (.int .i64 0) (.slice none 0 0) (.bool false) := ⟨_, rfl⟩
      have hr5 := setR_at0 HRB.out (.int .i64 0) (.slice ta yn tc) (.int .i64 yv) (.int .i64 yb) (.int .i64 0) (.slice none 0 0) (.bool false)
      have hF5 := (Frm.refl (fun b => b = w.heap.size + 1) wB).setR (R := w.heap.size + 1) (.inl rfl) (.int .i64 0) (.slice ta yn tc) (.int .i64 yv) (.int .i64 yb) (.int .i64 0) (.slice none 0 0) (.bool false)
      rw [← hW5] at hr5 hF5
      unfold setR at hW5
      rw [← hW5]
      have hfin := put_done HST.out HRB.out (Nat.le_succ _) HFR.out hF5
      have hget := getOk_mk (n := yn) (xs := yd) (ver := yv) (born := yb) HOB.out HSB.out.byte HSB.out.reach HRB.out hF5 hfin
      exact bodyPost_ret (ret_rep rfl _ _ (w.heap.size + 1) rfl hr5) rfl (by
        unfold Do3
        rw [HO2.out]
        intro u' hu'
        rw [HU.out] at hu'
        cases hu'
        exact hget)
set_option maxRecDepth 100000 in
set_option maxHeartbeats 16000000 in
theorem ddo_4 {w : World} {S base : Nat} {σ : DSto} (h : DStAt w S base σ) {vr at_ nn id : Int} {ky : ByteArray} {a : Option Addr} {n c : Nat}  :
    Calls Try.prog 21 #[.pointer (some ⟨S, 0, none⟩), .agg #[.int .i64 4, .string ky, .slice a n c, .int .i64 vr, .int .i64 at_, .int .i64 nn, .int .i64 id]] w (Do4 w S base σ ky at_ nn) := by
  have HE := Lib.hid (dent_mk h #[.int .i64 4, .string ky, .slice a n c, .int .i64 vr, .int .i64 at_, .int .i64 nn, .int .i64 id])
  have hSl : S < w.heap.size := (Array.getElem?_eq_some_iff.1 h.blk).1
  clear h
  go_enter Try.func21, Try.ntmps21
  go_upto_region 1 with fail
  obtain ⟨W0, hW0⟩ : ∃ W0, W0 = (w.alloc (.cells #[.int .i64 4, .string ky, .slice a n c, .int .i64 vr, .int .i64 at_, .int .i64 nn, .int .i64 id] 30)).alloc (.cells zrep 36) := ⟨_, rfl⟩
  rw [← hW0] at HE
  unfold zrep at hW0
  rw [← hW0]
  clear hW0
  obtain ⟨ai, hai⟩ : ∃ ai, ai = atK σ.objs ky := ⟨_, rfl⟩
  obtain ⟨oi, hoi⟩ : ∃ oi, oi = openK σ.ups id := ⟨_, rfl⟩
  have HAT := Lib.hid (fun k => dat_any (HE.out.st.drewN k) ky)
  have HOP := Lib.hid (fun k => dopen_any (HE.out.st.drewN k) id)
  rw [← hai] at HAT
  rw [← hoi] at HOP
  have k1 := cell_blkD HE.out.cb (i := 1) (u := .string ky) rfl
  have k6 := cell_blkD HE.out.cb (i := 6) (u := .int .i64 id) rfl
  go_quiet ((first | (go_at_call 17; exact Calls.quiet_of_same (HAT.out _)) | (go_at_call 40; exact Calls.quiet_of_same (HOP.out _))))
  rename Nat => nq
  clear k1 k6 HAT HOP
  have HE1 := Lib.hid (HE.out.drewN nq)
  obtain ⟨W1, hW1⟩ : ∃ W1, W1 = W0.drewN nq := ⟨_, rfl⟩
  rw [← hW1] at HE1
  rw [← hW1]
  clear HE hW1
  have HE := HE1
  clear HE1
  have hz0 := HE.out.sz
  have hk0 : w.heap.size < W1.heap.size := by omega
  have hr0 : w.heap.size + 1 < W1.heap.size := by omega
  have hS0 : S < W1.heap.size := by omega
  have HZ0 := Lib.hid hz0
  clear hz0
  have HR0 := Lib.hid (Below.refl W1.heap.size W1)
  have k0 := cell_blkD HE.out.cb (i := 0) (u := .int .i64 4) rfl
  have HAI := Lib.hid hai
  have HOI := Lib.hid hoi
  clear hai hoi
  rcases atK_neg (l := σ.objs) (k := ky) with ⟨ho1, ho2⟩ | ⟨jo, ho1, ho2⟩
  · have hai := HAI.out
    rw [ho1] at hai
    clear HAI
    subst hai
    have HNO := Lib.hid (show ∀ e w', NoD w S base σ 7 e w' → Do4 w S base σ ky at_ nn e w' from fun e w' h => by unfold Do4; rw [ho2]; exact h)
    clear ho1 ho2
    go_wp2_with fail
    refine (dbad_any 7 W1).mono ?_
    rintro e wE ⟨rfl, hbE⟩
    unfold repA
    have hbe := HR0.out.trans (hbE.mono HR0.out.size)
    have HRB := Lib.hid ((hbe.block (w.heap.size + 1) hr0).trans HE.out.rb)
    have HST := Lib.hid (HE.out.st.below hbe)
    have HFR := Lib.hid (show Frm (DF S σ) w wE from Frm.ofBelow (HE.out.bel.trans (hbe.mono HE.out.bel.size)))
    obtain ⟨⟨q0, q1, q2, q3, q4, q5, q6⟩, r0, r1, r2, r3, r4, r5, r6⟩ := rb_cells HRB.out
    clear hbE hbe
    go_wp2_with fail
    clear q0 q1 q2 q3 q4 q5 q6 r0 r1 r2 r3 r4 r5 r6
    obtain ⟨W5, hW5⟩ : ∃ W5, W5 = setR wE (w.heap.size + 1) (.int .i64 7) (.slice none 0 0) (.int .i64 0) (.int .i64 0) (.int .i64 0) (.slice none 0 0) (.bool false) := ⟨_, rfl⟩
    have hr5 := setR_at0 HRB.out (.int .i64 7) (.slice none 0 0) (.int .i64 0) (.int .i64 0) (.int .i64 0) (.slice none 0 0) (.bool false)
    have hF5 := (Frm.refl (fun b => b = w.heap.size + 1) wE).setR (R := w.heap.size + 1) (.inl rfl) (.int .i64 7) (.slice none 0 0) (.int .i64 0) (.int .i64 0) (.int .i64 0) (.slice none 0 0) (.bool false)
    rw [← hW5] at hr5 hF5
    unfold setR at hW5
    rw [← hW5]
    have hfin := put_done HST.out HRB.out (Nat.le_succ _) HFR.out hF5
    exact bodyPost_ret (ret_rep rfl _ _ (w.heap.size + 1) rfl hr5) rfl (HNO.out _ _ ⟨rfl, hfin⟩)
  · have hai := HAI.out
    rw [ho1] at hai
    clear HAI
    subst hai
    obtain ⟨o, hu, _, hul⟩ := find_at ho2
    have HO2 := Lib.hid ho2
    have HU := Lib.hid hu
    have zjo : ¬ (jo : Int) < 0 := by omega
    clear ho1 ho2 hu
    have hoo := HE.out.st.obj o (List.mem_of_getElem? HU.out)
    have HOO := Lib.hid hoo
    have HV0 := Lib.hid HE.out.st.objs
    obtain ⟨gb, off, hga, hgl, _, hgc⟩ := HV0.out.get hul
    have hgd : σ.objs.getD jo DObjS.z = o := by rw [List.getD_eq_getElem?_getD, HU.out]; rfl
    rw [hgd] at hgc
    obtain ⟨yk, ya, yn, yc, yd, yv, yb⟩ := o
    have v0 : W1.cell? ⟨gb, off + jo * 4, none⟩ = some (.string yk) := hgc 0 _ rfl
    have v1 : W1.cell? ⟨gb, off + jo * 4 + 1, none⟩ = some (.slice ya yn yc) := hgc 1 _ rfl
    have v2 : W1.cell? ⟨gb, off + jo * 4 + 2, none⟩ = some (.int .i64 yv) := hgc 2 _ rfl
    have v3 : W1.cell? ⟨gb, off + jo * 4 + 3, none⟩ = some (.int .i64 yb) := hgc 3 _ rfl
    have c0 := cell_blkD HE.out.st.blk (i := 0) (u := .slice σ.oa σ.objs.length σ.oc) rfl
    rw [hga] at c0
    obtain ⟨m9, hm9⟩ : ∃ m9, m9 = σ.objs.length := ⟨_, rfl⟩
    obtain ⟨uc9, huc9⟩ : ∃ uc9, uc9 = σ.oc := ⟨_, rfl⟩
    rw [← hm9, ← huc9] at c0
    rw [← hm9] at hul
    have zi : (jo : Int) < (m9 : Int) := by omega
    have zi0 : (0 : Int) ≤ (jo : Int) := by omega
    obtain ⟨b8, hb8⟩ : ∃ b8, b8 = W1.heap.size := ⟨_, rfl⟩
    obtain ⟨W7, hW7⟩ : ∃ W7, W7 = W1.alloc (.cells #[.string yk, .slice ya yn yc, .int .i64 yv, .int .i64 yb] 56) := ⟨_, rfl⟩
    have HB7 := Lib.hid (show Below W1.heap.size W1 W7 from by rw [hW7]; exact (Below.refl _ _).alloc (Nat.le_refl _) _)
    have HK7 := Lib.hid (show W7.heap[b8]? = some (.cells #[.string yk, .slice ya yn yc, .int .i64 yv, .int .i64 yb] 56 (0, 0)) from by rw [hW7, hb8]; exact heap_alloc_newD W1 _)
    have HW7 := Lib.hid hW7
    have HBE8 := Lib.hid hb8
    clear hm9 huc9 hgc hgd hga hgl hW7 hoo hb8
    go_upto_region 22 with fail
    rw [← HW7.out, ← HBE8.out]
    clear v0 v1 v2 v3 c0 k0
    have HYB := Lib.hid (show BytesAt W7 ya yn yc yd from (ObjOk.bytes HOO.out).kept HB7.out)
    have k0 := cell_blkD (cells_of_below HB7.out HE.out.cb) (i := 0) (u := .int .i64 4) rfl
    have k4 := cell_blkD (cells_of_below HB7.out HE.out.cb) (i := 4) (u := .int .i64 at_) rfl
    have k5 := cell_blkD (cells_of_below HB7.out HE.out.cb) (i := 5) (u := .int .i64 nn) rfl
    have x1 := cell_blkD HK7.out (i := 1) (u := .slice ya yn yc) rfl
    have hyr := HYB.out.reach
    have hyc := HYB.out.cap
    have hycm := HYB.out.capm
    by_cases h1 : at_ < 0
    case pos =>
      have HPE := Lib.hid (show pieDE yn at_ nn = 2 from by unfold pieDE; rw [if_pos (.inl h1)])
      go_wp2_with fail
      refine (dbad_any 2 W7).mono ?_
      rintro e wE ⟨rfl, hbE⟩
      unfold repA
      have hbe := HB7.out.trans (hbE.mono HB7.out.size)
      have HRB := Lib.hid ((hbe.block (w.heap.size + 1) hr0).trans HE.out.rb)
      have HST := Lib.hid (HE.out.st.below hbe)
      have HFR := Lib.hid (show Frm (DF S σ) w wE from Frm.ofBelow (HE.out.bel.trans (hbe.mono HE.out.bel.size)))
      obtain ⟨⟨q0, q1, q2, q3, q4, q5, q6⟩, r0, r1, r2, r3, r4, r5, r6⟩ := rb_cells HRB.out
      clear hbE hbe
      go_wp2_with fail
      clear q0 q1 q2 q3 q4 q5 q6 r0 r1 r2 r3 r4 r5 r6
      obtain ⟨W5, hW5⟩ : ∃ W5, W5 = setR wE (w.heap.size + 1) (.int .i64 2) (.slice none 0 0) (.int .i64 0) (.int .i64 0) (.int .i64 0) (.slice none 0 0) (.bool false) := ⟨_, rfl⟩
      have hr5 := setR_at0 HRB.out (.int .i64 2) (.slice none 0 0) (.int .i64 0) (.int .i64 0) (.int .i64 0) (.slice none 0 0) (.bool false)
      have hF5 := (Frm.refl (fun b => b = w.heap.size + 1) wE).setR (R := w.heap.size + 1) (.inl rfl) (.int .i64 2) (.slice none 0 0) (.int .i64 0) (.int .i64 0) (.int .i64 0) (.slice none 0 0) (.bool false)
      rw [← hW5] at hr5 hF5
      unfold setR at hW5
      rw [← hW5]
      have hfin := put_done HST.out HRB.out (Nat.le_succ _) HFR.out hF5
      exact bodyPost_ret (ret_rep rfl _ _ (w.heap.size + 1) rfl hr5) rfl (by
        unfold Do4
        rw [HO2.out]
        intro u' hu'
        rw [HU.out] at hu'
        cases hu'
        exact ⟨fun _ => ⟨rfl, hfin⟩, fun e0 => by have h2 : pieDE yn at_ nn = 2 := HPE.out; rw [e0] at h2; cases h2⟩)
    by_cases h2 : nn < 0
    case pos =>
      have HPE := Lib.hid (show pieDE yn at_ nn = 2 from by unfold pieDE; rw [if_pos (.inr (.inl h2))])
      go_wp2_with fail
      refine (dbad_any 2 W7).mono ?_
      rintro e wE ⟨rfl, hbE⟩
      unfold repA
      have hbe := HB7.out.trans (hbE.mono HB7.out.size)
      have HRB := Lib.hid ((hbe.block (w.heap.size + 1) hr0).trans HE.out.rb)
      have HST := Lib.hid (HE.out.st.below hbe)
      have HFR := Lib.hid (show Frm (DF S σ) w wE from Frm.ofBelow (HE.out.bel.trans (hbe.mono HE.out.bel.size)))
      obtain ⟨⟨q0, q1, q2, q3, q4, q5, q6⟩, r0, r1, r2, r3, r4, r5, r6⟩ := rb_cells HRB.out
      clear hbE hbe
      go_wp2_with fail
      clear q0 q1 q2 q3 q4 q5 q6 r0 r1 r2 r3 r4 r5 r6
      obtain ⟨W5, hW5⟩ : ∃ W5, W5 = setR wE (w.heap.size + 1) (.int .i64 2) (.slice none 0 0) (.int .i64 0) (.int .i64 0) (.int .i64 0) (.slice none 0 0) (.bool false) := ⟨_, rfl⟩
      have hr5 := setR_at0 HRB.out (.int .i64 2) (.slice none 0 0) (.int .i64 0) (.int .i64 0) (.int .i64 0) (.slice none 0 0) (.bool false)
      have hF5 := (Frm.refl (fun b => b = w.heap.size + 1) wE).setR (R := w.heap.size + 1) (.inl rfl) (.int .i64 2) (.slice none 0 0) (.int .i64 0) (.int .i64 0) (.int .i64 0) (.slice none 0 0) (.bool false)
      rw [← hW5] at hr5 hF5
      unfold setR at hW5
      rw [← hW5]
      have hfin := put_done HST.out HRB.out (Nat.le_succ _) HFR.out hF5
      exact bodyPost_ret (ret_rep rfl _ _ (w.heap.size + 1) rfl hr5) rfl (by
        unfold Do4
        rw [HO2.out]
        intro u' hu'
        rw [HU.out] at hu'
        cases hu'
        exact ⟨fun _ => ⟨rfl, hfin⟩, fun e0 => by have h2 : pieDE yn at_ nn = 2 := HPE.out; rw [e0] at h2; cases h2⟩)
    by_cases h3 : (yn : Int) < at_
    case pos =>
      have HPE := Lib.hid (show pieDE yn at_ nn = 2 from by unfold pieDE; rw [if_pos (.inr (.inr (.inl h3)))])
      go_wp2_with fail
      refine (dbad_any 2 W7).mono ?_
      rintro e wE ⟨rfl, hbE⟩
      unfold repA
      have hbe := HB7.out.trans (hbE.mono HB7.out.size)
      have HRB := Lib.hid ((hbe.block (w.heap.size + 1) hr0).trans HE.out.rb)
      have HST := Lib.hid (HE.out.st.below hbe)
      have HFR := Lib.hid (show Frm (DF S σ) w wE from Frm.ofBelow (HE.out.bel.trans (hbe.mono HE.out.bel.size)))
      obtain ⟨⟨q0, q1, q2, q3, q4, q5, q6⟩, r0, r1, r2, r3, r4, r5, r6⟩ := rb_cells HRB.out
      clear hbE hbe
      go_wp2_with fail
      clear q0 q1 q2 q3 q4 q5 q6 r0 r1 r2 r3 r4 r5 r6
      obtain ⟨W5, hW5⟩ : ∃ W5, W5 = setR wE (w.heap.size + 1) (.int .i64 2) (.slice none 0 0) (.int .i64 0) (.int .i64 0) (.int .i64 0) (.slice none 0 0) (.bool false) := ⟨_, rfl⟩
      have hr5 := setR_at0 HRB.out (.int .i64 2) (.slice none 0 0) (.int .i64 0) (.int .i64 0) (.int .i64 0) (.slice none 0 0) (.bool false)
      have hF5 := (Frm.refl (fun b => b = w.heap.size + 1) wE).setR (R := w.heap.size + 1) (.inl rfl) (.int .i64 2) (.slice none 0 0) (.int .i64 0) (.int .i64 0) (.int .i64 0) (.slice none 0 0) (.bool false)
      rw [← hW5] at hr5 hF5
      unfold setR at hW5
      rw [← hW5]
      have hfin := put_done HST.out HRB.out (Nat.le_succ _) HFR.out hF5
      exact bodyPost_ret (ret_rep rfl _ _ (w.heap.size + 1) rfl hr5) rfl (by
        unfold Do4
        rw [HO2.out]
        intro u' hu'
        rw [HU.out] at hu'
        cases hu'
        exact ⟨fun _ => ⟨rfl, hfin⟩, fun e0 => by have h2 : pieDE yn at_ nn = 2 := HPE.out; rw [e0] at h2; cases h2⟩)
    have wsb : IntKind.i64.wrap ((yn : Int) - at_) = (yn : Int) - at_ := IntWalk.i64_in _ (by omega)
    by_cases h4 : (yn : Int) - at_ < nn
    case pos =>
      have HPE := Lib.hid (show pieDE yn at_ nn = 2 from by unfold pieDE; rw [if_pos (.inr (.inr (.inr h4)))])
      go_wp2_with fail
      refine (dbad_any 2 W7).mono ?_
      rintro e wE ⟨rfl, hbE⟩
      unfold repA
      have hbe := HB7.out.trans (hbE.mono HB7.out.size)
      have HRB := Lib.hid ((hbe.block (w.heap.size + 1) hr0).trans HE.out.rb)
      have HST := Lib.hid (HE.out.st.below hbe)
      have HFR := Lib.hid (show Frm (DF S σ) w wE from Frm.ofBelow (HE.out.bel.trans (hbe.mono HE.out.bel.size)))
      obtain ⟨⟨q0, q1, q2, q3, q4, q5, q6⟩, r0, r1, r2, r3, r4, r5, r6⟩ := rb_cells HRB.out
      clear hbE hbe
      go_wp2_with fail
      clear q0 q1 q2 q3 q4 q5 q6 r0 r1 r2 r3 r4 r5 r6
      obtain ⟨W5, hW5⟩ : ∃ W5, W5 = setR wE (w.heap.size + 1) (.int .i64 2) (.slice none 0 0) (.int .i64 0) (.int .i64 0) (.int .i64 0) (.slice none 0 0) (.bool false) := ⟨_, rfl⟩
      have hr5 := setR_at0 HRB.out (.int .i64 2) (.slice none 0 0) (.int .i64 0) (.int .i64 0) (.int .i64 0) (.slice none 0 0) (.bool false)
      have hF5 := (Frm.refl (fun b => b = w.heap.size + 1) wE).setR (R := w.heap.size + 1) (.inl rfl) (.int .i64 2) (.slice none 0 0) (.int .i64 0) (.int .i64 0) (.int .i64 0) (.slice none 0 0) (.bool false)
      rw [← hW5] at hr5 hF5
      unfold setR at hW5
      rw [← hW5]
      have hfin := put_done HST.out HRB.out (Nat.le_succ _) HFR.out hF5
      exact bodyPost_ret (ret_rep rfl _ _ (w.heap.size + 1) rfl hr5) rfl (by
        unfold Do4
        rw [HO2.out]
        intro u' hu'
        rw [HU.out] at hu'
        cases hu'
        exact ⟨fun _ => ⟨rfl, hfin⟩, fun e0 => by have h2 : pieDE yn at_ nn = 2 := HPE.out; rw [e0] at h2; cases h2⟩)
    have HPE := Lib.hid (show pieDE yn at_ nn = 0 from by unfold pieDE; rw [if_neg (by omega)])
    obtain ⟨p, rfl⟩ : ∃ p : Nat, at_ = (p : Int) := ⟨at_.toNat, by omega⟩
    obtain ⟨m, rfl⟩ : ∃ m : Nat, nn = (m : Int) := ⟨nn.toNat, by omega⟩
    have wad : IntKind.i64.wrap ((p : Int) + (m : Int)) = (p : Int) + (m : Int) := IntWalk.i64_in _ (by omega)
    have hsl := slice_runD ya yn yc p m (by omega)
    obtain ⟨a5, ha5⟩ : ∃ a5, a5 = (if yc = p then (ya : Option Addr) else ya.map (·.add p)) := ⟨_, rfl⟩
    rw [← ha5] at hsl
    have fx := frz_blkD HK7.out 1
    have HSB0 := Lib.hid (show BytesAt W7 a5 m (yc - p) ((yd.drop p).take m) from by rw [ha5]; exact HYB.out.subAnyD p m (by omega))
    obtain ⟨W8, hW8⟩ : ∃ W8, W8 = W7.setCell ⟨b8, 1, none⟩ (.slice a5 m (yc - p)) := ⟨_, rfl⟩
    have HK8 := Lib.hid (show W8.heap[b8]? = some (.cells #[.string yk, .slice a5 m (yc - p), .int .i64 yv, .int .i64 yb] 56 (0, 0)) from by rw [hW8, heap_setCell_same W7 b8 1 _ _ _ HK7.out]; rfl)
    have HB8 := Lib.hid (show Below W1.heap.size W1 W8 from by rw [hW8]; exact HB7.out.setCell (p := ⟨b8, 1, none⟩) (Nat.le_of_eq HBE8.out.symm) _)
    have HRW := Lib.hid (cells_of_below HB8.out HE.out.rb)
    have HSTW := Lib.hid (HE.out.st.below HB8.out)
    have HFRW := Lib.hid (show Frm (DF S σ) w W8 from Frm.ofBelow (HE.out.bel.trans (HB8.out.mono HE.out.bel.size)))
    have HSB := Lib.hid (show BytesAt W8 a5 m (yc - p) ((yd.drop p).take m) from by
      rw [ha5]
      exact (show BytesAt W8 ya yn yc yd from (ObjOk.bytes HOO.out).kept HB8.out).subAnyD p m (by omega))
    have HW8 := Lib.hid hW8
    clear ha5 hW8 h1 h2
    go_upto_region 26 with fail
    rw [← HW8.out]
    clear x1 k0 k4 k5 fx hsl wsb wad
    have HTW := Lib.hid (twin_any HSB.out.drew)
    have x1 := cell_blkD HK8.out (i := 1) (u := .slice a5 m (yc - p)) rfl
    have x2 := cell_blkD HK8.out (i := 2) (u := .int .i64 yv) rfl
    have x3 := cell_blkD HK8.out (i := 3) (u := .int .i64 yb) rfl
    go_region_law (go_simp; go_at_call 45; refine HTW.out.mono ?_; rintro e wB ⟨vB, rfl, hoB, _, hbB⟩; obtain ⟨ta, tc, rfl⟩ := own_sliceD hoB; have HBB := Lib.hid (show Below W8.heap.size W8 wB from ((Below.refl W8.heap.size W8).drew).trans hbB); have HOB := Lib.hid hoB; have z2 := cell_blkD (cells_of_below HBB.out HK8.out) (i := 2) (u := .int .i64 yv) rfl; have z3 := cell_blkD (cells_of_below HBB.out HK8.out) (i := 3) (u := .int .i64 yb) rfl; have HRB := Lib.hid (cells_of_below HBB.out HRW.out); obtain ⟨⟨q0, q1, q2, q3, q4, q5, q6⟩, r0, r1, r2, r3, r4, r5, r6⟩ := rb_cells HRB.out; clear hoB hbB)
    all_goals
      clear x1 x2 x3 z2 z3 q0 q1 q2 q3 q4 q5 q6 r0 r1 r2 r3 r4 r5 r6
      have HST := Lib.hid (HSTW.out.below HBB.out)
      have HFR := Lib.hid (HFRW.out.below HBB.out)
      go_wp2_with fail
      obtain ⟨W5, hW5⟩ : ∃ W5, W5 = setR wB (w.heap.size + 1) (.int .i64 0) (.slice ta m tc) (.int .i64 yv) (.int .i64 yb) (.int .i64 0) (.slice none 0 0) (.bool false) := ⟨_, rfl⟩
      have hr5 := setR_at0 HRB.out (.int .i64 0) (.slice ta m tc) (.int .i64 yv) (.int .i64 yb) (.int .i64 0) (.slice none 0 0) (.bool false)
      have hF5 := (Frm.refl (fun b => b = w.heap.size + 1) wB).setR (R := w.heap.size + 1) (.inl rfl) (.int .i64 0) (.slice ta m tc) (.int .i64 yv) (.int .i64 yb) (.int .i64 0) (.slice none 0 0) (.bool false)
      rw [← hW5] at hr5 hF5
      unfold setR at hW5
      rw [← hW5]
      have hfin := put_done HST.out HRB.out (Nat.le_succ _) HFR.out hF5
      have hget := getOk_mk (n := m) (xs := ((yd.drop p).take m)) (ver := yv) (born := yb) HOB.out HSB.out.byte HSB.out.reach HRB.out hF5 hfin
      exact bodyPost_ret (ret_rep rfl _ _ (w.heap.size + 1) rfl hr5) rfl (by
        unfold Do4
        rw [HO2.out]
        intro u' hu'
        rw [HU.out] at hu'
        cases hu'
        exact ⟨fun e0 => absurd HPE.out e0, fun _ => by rw [Int.toNat_natCast, Int.toNat_natCast]; exact hget⟩)
end Go.Proofs.Ytodoklnohedolaa
end PkUC5_0
section PkUC5_1
/- A region whose order is drawn, in which some operations wait for each other in a chain and turn the world, and all others only read and have known values. -/
namespace Go.Proofs.Ytodoklnohedolaa
open Go.RowKit
set_option linter.unusedVariables false

/-- does operation i wait for operation j -/
def needsB (ops : Array Oper) : Nat → Nat → Nat → Bool
  | 0, _, _ => false
  | f + 1, i, j => match ops[i]? with
    | none => false
    | some o => o.after.any fun (e : Edge) => Region.binds .any e && (e.on == j || needsB ops f e.on j)
/-- what has come up is closed: all that an operation waited for -/
def ClosedB (ops : Array Oper) (L : Nat → Bool) : Prop := ∀ (i : Nat) (o : Oper), ops[i]? = some o → L i = true → ∀ e : Edge, e ∈ o.after → Region.binds .any e = true → L e.on = true
theorem needs_up {ops : Array Oper} {L : Nat → Bool} (h : ClosedB ops L) : ∀ (f i j : Nat), needsB ops f i j = true → L i = true → L j = true
  | 0, _, _, hn, _ => by cases hn
  | f + 1, i, j, hn, hl => by
    unfold needsB at hn
    cases ho : ops[i]? with
    | none => rw [ho] at hn; cases hn
    | some o =>
      rw [ho] at hn
      simp only [Array.any_eq_true] at hn
      obtain ⟨k, hk, he⟩ := hn
      rw [Bool.and_eq_true, Bool.or_eq_true] at he
      have h1 := h i o ho hl _ (Array.getElem_mem hk) he.1
      rcases he.2 with g | g
      · rw [← beq_iff_eq.1 g]; exact h1
      · exact needs_up h f _ j g h1
def bigC : Nat := 1000000
/-- the chain: told apart, each link waits for the one ahead, the last one for all -/
def chainOk (ops : Array Oper) (E : List Nat) (fr : Bool) : Bool :=
  decide (ops.size < bigC) && decide (0 < E.length) && (E.all fun e => decide (e < ops.size)) && decide (E.Nodup) && ((List.range (E.length - 1)).all fun i => needsB ops ops.size (E.getD (i + 1) bigC) (E.getD i bigC)) &&
  (fr || (List.range ops.size).all fun j => E.contains j || needsB ops ops.size (E.getD (E.length - 1) bigC) j)
structure ChI (ops : Array Oper) (E : List Nat) (St : Nat → (Nat → Value) → World → Prop) (vals : Nat → Option Value) (L : Nat → Bool) (v : Nat → Value) (w : World) : Prop where
  cl : ClosedB ops L
  st : ∃ k, k ≤ E.length ∧ (∀ i, i < E.length → (L (E.getD i bigC) = true ↔ i < k)) ∧ St k (fun n => v (E.getD n bigC)) w
  vs : ∀ j x, L j = true → vals j = some x → v j = x
theorem closed_add {ops : Array Oper} {L : Nat → Bool} (h : ClosedB ops L) {i : Nat} {o : Oper} (ho : ops[i]? = some o) (hd : ∀ e : Edge, e ∈ o.after → Region.binds .any e = true → L e.on = true) : ClosedB ops (fun j => L j || decide (j = i)) := by
  intro j o' hj hl e he hb
  show (L e.on || decide (e.on = i)) = true
  have hl' : (L j || decide (j = i)) = true := hl
  rcases Bool.or_eq_true_iff.1 hl' with g | g
  · rw [h j o' hj g e he hb, Bool.true_or]
  · obtain rfl : j = i := by simpa using g
    rw [ho] at hj
    cases hj
    rw [hd e he hb, Bool.true_or]
theorem wp_region_chain {P : Program} {ops : Array Oper} {Q : Exit → Act → World → Prop} {id : Nat} {a : Act} {w : World} (hm : P.follows .mixedOrders = true)
    (hne : ((List.range ops.size).all fun i => (List.range ops.size).all fun j => decide (i = j) || (slotOf ops i == none) || !(slotOf ops i == slotOf ops j)) = true)
    (hac : ((List.range ops.size).all fun i => (ops[i]?).all fun (o : Oper) => o.after.all fun (e : Edge) => !Region.binds .any e || decide (e.on < i)) = true)
    (E : List Nat) (fr : Bool) (hE : chainOk ops E fr = true) (St : Nat → (Nat → Value) → World → Prop) (R : World → Prop) (vals : Nat → Option Value)
    (hv : ((List.range ops.size).all fun j => E.contains j || (vals j).isSome) = true)
    (h0 : ∀ u, St 0 u w.drew) (hR : ∀ k u w1, (fr = false → k < E.length) → k ≤ E.length → St k u w1 → R w1)
    (val : ∀ (j : Nat) (o : Oper), ops[j]? = some o → E.contains j = false → ∀ (v : Nat → Value) (w1 : World) (K : Act → World → Prop), R w1 → (∀ e : Edge, e ∈ o.after → Region.binds .any e = true → ∀ x, vals e.on = some x → v e.on = x) →
      (∀ x, vals j = some x → ∀ a2, a2 = (fill ops a v ops.size).put o.dst x → K a2 w1) →
      if Region.wanted o (yielded ops (fill ops a v ops.size).tmps) = true then Oper.wp P o (fill ops a v ops.size) w1 K Q else K ((fill ops a v ops.size).put o.dst undef) w1)
    (eff : ∀ (i e : Nat) (o : Oper), E[i]? = some e → ops[e]? = some o → ∀ (v : Nat → Value) (w1 : World) (K : Act → World → Prop), St i (fun n => v (E.getD n bigC)) w1 → (∀ e' : Edge, e' ∈ o.after → Region.binds .any e' = true → ∀ x, vals e'.on = some x → v e'.on = x) →
      (∀ x w2, St (i + 1) (fun n => if n = i then x else v (E.getD n bigC)) w2 → (∀ y, vals e = some y → x = y) → ∀ a2, a2 = (fill ops a v ops.size).put o.dst x → K a2 w2) →
      if Region.wanted o (yielded ops (fill ops a v ops.size).tmps) = true then Oper.wp P o (fill ops a v ops.size) w1 K Q else K ((fill ops a v ops.size).put o.dst undef) w1)
    (last : ∀ (v : Nat → Value) (w1 : World), St E.length (fun n => v (E.getD n bigC)) w1 → (∀ j x, j < ops.size → vals j = some x → v j = x) → Q .normal (fill ops a v ops.size) w1) : (Code.region id ops true).wp P Q a w := by
  unfold chainOk at hE
  simp only [Bool.and_eq_true, Bool.or_eq_true, decide_eq_true_eq, List.all_eq_true, List.mem_range] at hE
  obtain ⟨⟨⟨⟨⟨hbig, hpos⟩, hlt⟩, hnd⟩, hch⟩, hla⟩ := hE
  have hgd : ∀ i, i < E.length → E[i]? = some (E.getD i bigC) := fun i hi => by
    rw [List.getElem?_eq_getElem hi, List.getD_eq_getElem?_getD, List.getElem?_eq_getElem hi]; rfl
  have hmem : ∀ i, i < E.length → E.getD i bigC ∈ E := fun i hi => List.mem_of_getElem? (hgd i hi)
  have hinj : ∀ i j, i < E.length → j < E.length → E.getD i bigC = E.getD j bigC → i = j := fun i j hi hj e => by
    have h1 := hgd i hi
    rw [e, ← hgd j hj] at h1
    exact (List.getElem?_inj hi hnd).1 h1
  have hbd : ∀ i, E.length ≤ i → E.getD i bigC = bigC := fun i hi => by rw [List.getD_eq_getElem?_getD, List.getElem?_eq_none hi]; rfl
  refine wp_region_inv hm hne hac (ChI ops E St vals) (fun v => ⟨(fun i o ho h => by cases h), ⟨0, Nat.zero_le _, (fun i hi => ⟨(fun h => by cases h), (fun h => by omega)⟩), h0 _⟩, (fun j x h => by cases h)⟩) ?_ ?_
  · intro j o ho L v w1 K hI hL hdep hK
    have hjs : j < ops.size := (Array.getElem?_eq_some_iff.1 ho).1
    obtain ⟨k, hk, hLk, hSt⟩ := hI.st
    have hcl := closed_add hI.cl ho hdep
    have hdv : ∀ e : Edge, e ∈ o.after → Region.binds .any e = true → ∀ x, vals e.on = some x → v e.on = x := fun e he hb x hx => hI.vs e.on x (hdep e he hb) hx
    cases hc : E.contains j with
    | false =>
      have hnE : ∀ i, i < E.length → E.getD i bigC ≠ j := fun i hi e => by
        have := hmem i hi
        rw [e] at this
        rw [List.contains_iff_mem.2 this] at hc
        cases hc
      have hkl : fr = false → k < E.length := by
        intro hfr
        rcases Nat.lt_or_ge k E.length with g | g
        · exact g
        · exfalso
          have h1 := (hLk (E.length - 1) (by omega)).2 (by omega)
          have h2 := (hla.resolve_left (by rw [hfr]; decide)) j hjs
          have h2' : needsB ops ops.size (E.getD (E.length - 1) bigC) j = true := h2.resolve_left (by rw [hc]; decide)
          have h3 := needs_up hI.cl _ _ _ h2' h1
          rw [hL] at h3
          cases h3
      have hsm := List.all_eq_true.1 hv j (List.mem_range.2 hjs)
      rw [hc, Bool.false_or] at hsm
      refine val j o ho hc v w1 K (hR k _ w1 hkl hk hSt) hdv (fun x hx a2 ha2 => hK x w1 ⟨hcl, ⟨k, hk, fun i hi => ?_, ?_⟩, fun i y hi hy => ?_⟩ a2 ha2)
      · show (L (E.getD i bigC) || decide (E.getD i bigC = j)) = true ↔ i < k
        rw [decide_eq_false (hnE i hi), Bool.or_false]
        exact hLk i hi
      · have : (fun n => upd v j x (E.getD n bigC)) = fun n => v (E.getD n bigC) := by
          funext n
          unfold upd
          rw [if_neg]
          rcases Nat.lt_or_ge n E.length with g | g
          · exact hnE n g
          · rw [hbd n g]; omega
        rw [this]
        exact hSt
      · unfold upd
        by_cases e : i = j
        · rw [if_pos e]
          rw [e, hx] at hy
          exact Option.some.inj hy
        · rw [if_neg e]
          have hi' : (L i || decide (i = j)) = true := hi
          rw [decide_eq_false e, Bool.or_false] at hi'
          exact hI.vs i y hi' hy
    | true =>
      obtain ⟨i, hi, hEi⟩ := List.getElem_of_mem (List.contains_iff_mem.1 hc)
      have hEi' : E.getD i bigC = j := by rw [List.getD_eq_getElem?_getD, List.getElem?_eq_getElem hi, hEi]; rfl
      have hki : k ≤ i := by
        rcases Nat.lt_or_ge i k with g | g
        · have := (hLk i hi).2 g
          rw [hEi', hL] at this
          cases this
        · exact g
      have hkE : k = i := by
        rcases Nat.eq_or_lt_of_le hki with g | g
        · exact g
        · exfalso
          have h2 := hch (i - 1) (by omega)
          rw [show i - 1 + 1 = i by omega, hEi'] at h2
          -- what j waits for has come up
          have h3 : L (E.getD (i - 1) bigC) = true := by
            have hcl2 := needs_up (L := fun y => L y || decide (y = j)) hcl _ _ _ h2 (by simp)
            have hne' : E.getD (i - 1) bigC ≠ j := fun e => by
              rw [← hEi'] at e
              have := hinj _ _ (by omega) hi e
              omega
            have : (L (E.getD (i - 1) bigC) || decide (E.getD (i - 1) bigC = j)) = true := hcl2
            rwa [decide_eq_false hne', Bool.or_false] at this
          have := (hLk (i - 1) (by omega)).1 h3
          omega
      subst hkE
      refine eff k j o (by rw [hgd k hi, hEi']) ho v w1 K hSt hdv (fun x w2 hs hy9 a2 ha2 => hK x w2 ⟨hcl, ⟨k + 1, by omega, fun n hn => ?_, ?_⟩, fun i y hi2 hy => ?_⟩ a2 ha2)
      · show (L (E.getD n bigC) || decide (E.getD n bigC = j)) = true ↔ n < k + 1
        by_cases e : n = k
        · subst e
          rw [hEi', decide_eq_true rfl, Bool.or_true]
          exact ⟨fun _ => by omega, fun _ => rfl⟩
        · rw [decide_eq_false (fun h => e (hinj _ _ hn hi (h.trans hEi'.symm))), Bool.or_false, hLk n hn]
          omega
      · have : (fun n => upd v j x (E.getD n bigC)) = fun n => if n = k then x else v (E.getD n bigC) := by
          funext n
          unfold upd
          by_cases e : n = k
          · rw [if_pos e, e, if_pos hEi']
          · rw [if_neg e, if_neg]
            rcases Nat.lt_or_ge n E.length with g | g
            · exact fun h => e (hinj _ _ g hi (h.trans hEi'.symm))
            · rw [hbd n g]; omega
        rw [this]
        exact hs
      · unfold upd
        by_cases e : i = j
        · rw [if_pos e]
          rw [e] at hy
          exact hy9 y hy
        · rw [if_neg e]
          have hi' : (L i || decide (i = j)) = true := hi2
          rw [decide_eq_false e, Bool.or_false] at hi'
          exact hI.vs i y hi' hy
  · intro L v w1 hI hall
    obtain ⟨k, hk, hLk, hSt⟩ := hI.st
    have hkE : k = E.length := by
      have h1 := (hLk (E.length - 1) (by omega)).1 (hall _ (hlt _ (hmem _ (by omega))))
      omega
    subst hkE
    exact last v w1 hSt (fun j x hj hx => hI.vs j x (hall j hj) hx)
end Go.Proofs.Ytodoklnohedolaa
end PkUC5_1
section PkUC5_2
/- The document's Do: create. Written by gensddo.py. -/
namespace Go.Proofs.Ytodoklnohedolaa
open Go.RowKit
set_option linter.unusedVariables false
set_option linter.unusedSimpArgs false

set_option maxRecDepth 100000 in
set_option maxHeartbeats 16000000 in
theorem ddo_7 {w : World} {S base : Nat} {σ : DSto} (h : DStAt w S base σ) {vr at_ nn id : Int} {ky : ByteArray} {a : Option Addr} {n c : Nat} (hbs : base ≤ w.heap.size) (hidb : 0 ≤ σ.id ∧ σ.id ≤ 1000000000) :
    Calls Try.prog 21 #[.pointer (some ⟨S, 0, none⟩), .agg #[.int .i64 7, .string ky, .slice a n c, .int .i64 vr, .int .i64 at_, .int .i64 nn, .int .i64 id]] w (Do7 w S base σ ky) := by
  have HE := Lib.hid (dent_mk h #[.int .i64 7, .string ky, .slice a n c, .int .i64 vr, .int .i64 at_, .int .i64 nn, .int .i64 id])
  have hSl : S < w.heap.size := (Array.getElem?_eq_some_iff.1 h.blk).1
  clear h
  go_enter Try.func21, Try.ntmps21
  go_upto_region 1 with fail
  obtain ⟨W0, hW0⟩ : ∃ W0, W0 = (w.alloc (.cells #[.int .i64 7, .string ky, .slice a n c, .int .i64 vr, .int .i64 at_, .int .i64 nn, .int .i64 id] 30)).alloc (.cells zrep 36) := ⟨_, rfl⟩
  rw [← hW0] at HE
  unfold zrep at hW0
  rw [← hW0]
  clear hW0
  obtain ⟨ai, hai⟩ : ∃ ai, ai = atK σ.objs ky := ⟨_, rfl⟩
  obtain ⟨oi, hoi⟩ : ∃ oi, oi = openK σ.ups id := ⟨_, rfl⟩
  have HAT := Lib.hid (fun k => dat_any (HE.out.st.drewN k) ky)
  have HOP := Lib.hid (fun k => dopen_any (HE.out.st.drewN k) id)
  rw [← hai] at HAT
  rw [← hoi] at HOP
  have k1 := cell_blkD HE.out.cb (i := 1) (u := .string ky) rfl
  have k6 := cell_blkD HE.out.cb (i := 6) (u := .int .i64 id) rfl
  go_quiet ((first | (go_at_call 17; exact Calls.quiet_of_same (HAT.out _)) | (go_at_call 40; exact Calls.quiet_of_same (HOP.out _))))
  rename Nat => nq
  clear k1 k6 HAT HOP
  have HE1 := Lib.hid (HE.out.drewN nq)
  obtain ⟨W1, hW1⟩ : ∃ W1, W1 = W0.drewN nq := ⟨_, rfl⟩
  rw [← hW1] at HE1
  rw [← hW1]
  clear HE hW1
  have HE := HE1
  clear HE1
  have hz0 := HE.out.sz
  have hk0 : w.heap.size < W1.heap.size := by omega
  have hr0 : w.heap.size + 1 < W1.heap.size := by omega
  have hS0 : S < W1.heap.size := by omega
  have HZ0 := Lib.hid hz0
  clear hz0
  have HR0 := Lib.hid (Below.refl W1.heap.size W1)
  have k0 := cell_blkD HE.out.cb (i := 0) (u := .int .i64 7) rfl
  have HAI := Lib.hid hai
  have HOI := Lib.hid hoi
  clear hai hoi
  by_cases hkey : isKeyB ky = false
  case pos =>
    have k1 := cell_blkD HE.out.cb (i := 1) (u := .string ky) rfl
    go_wp2_with fail
    refine (dkey_any ky W1).mono ?_
    rintro e wk ⟨rfl, rfl⟩
    rw [hkey]
    go_wp2_with fail
    refine (dbad_any 1 wk).mono ?_
    rintro e wE ⟨rfl, hbE⟩
    unfold repA
    have hbe := HR0.out.trans (hbE.mono HR0.out.size)
    have HRB := Lib.hid ((hbe.block (w.heap.size + 1) hr0).trans HE.out.rb)
    have HST := Lib.hid (HE.out.st.below hbe)
    have HFR := Lib.hid (show Frm (DF S σ) w wE from Frm.ofBelow (HE.out.bel.trans (hbe.mono HE.out.bel.size)))
    obtain ⟨⟨q0, q1, q2, q3, q4, q5, q6⟩, r0, r1, r2, r3, r4, r5, r6⟩ := rb_cells HRB.out
    clear hbE hbe
    go_wp2_with fail
    clear q0 q1 q2 q3 q4 q5 q6 r0 r1 r2 r3 r4 r5 r6
    obtain ⟨W5, hW5⟩ : ∃ W5, W5 = setR wE (w.heap.size + 1) (.int .i64 1) (.slice none 0 0) (.int .i64 0) (.int .i64 0) (.int .i64 0) (.slice none 0 0) (.bool false) := ⟨_, rfl⟩
    have hr5 := setR_at0 HRB.out (.int .i64 1) (.slice none 0 0) (.int .i64 0) (.int .i64 0) (.int .i64 0) (.slice none 0 0) (.bool false)
    have hF5 := (Frm.refl (fun b => b = w.heap.size + 1) wE).setR (R := w.heap.size + 1) (.inl rfl) (.int .i64 1) (.slice none 0 0) (.int .i64 0) (.int .i64 0) (.int .i64 0) (.slice none 0 0) (.bool false)
    rw [← hW5] at hr5 hF5
    unfold setR at hW5
    rw [← hW5]
    have hfin := put_done HST.out HRB.out (Nat.le_succ _) HFR.out hF5
    exact bodyPost_ret (ret_rep rfl _ _ (w.heap.size + 1) rfl hr5) rfl ⟨fun _ => ⟨rfl, hfin⟩, fun e0 => absurd hkey (by rw [e0]; decide), fun e0 => absurd hkey (by rw [e0]; decide)⟩
  have hkey' : isKeyB ky = true := by simpa using hkey
  have k1 := cell_blkD HE.out.cb (i := 1) (u := .string ky) rfl
  have c1 := cell_blkD HE.out.st.blk (i := 1) (u := .slice σ.ua σ.ups.length σ.uc) rfl
  have huf := HE.out.st.uf
  by_cases hful : 512 ≤ σ.ups.length
  case pos =>
    have hful' : (512 : Int) ≤ (σ.ups.length : Int) := by omega
    go_wp2_with fail
    refine (dkey_any ky W1).mono ?_
    rintro e wk ⟨rfl, rfl⟩
    rw [hkey']
    go_wp2_with fail
    refine (dbad_any 9 wk).mono ?_
    rintro e wE ⟨rfl, hbE⟩
    unfold repA
    have hbe := HR0.out.trans (hbE.mono HR0.out.size)
    have HRB := Lib.hid ((hbe.block (w.heap.size + 1) hr0).trans HE.out.rb)
    have HST := Lib.hid (HE.out.st.below hbe)
    have HFR := Lib.hid (show Frm (DF S σ) w wE from Frm.ofBelow (HE.out.bel.trans (hbe.mono HE.out.bel.size)))
    obtain ⟨⟨q0, q1, q2, q3, q4, q5, q6⟩, r0, r1, r2, r3, r4, r5, r6⟩ := rb_cells HRB.out
    clear hbE hbe
    go_wp2_with fail
    clear q0 q1 q2 q3 q4 q5 q6 r0 r1 r2 r3 r4 r5 r6
    obtain ⟨W5, hW5⟩ : ∃ W5, W5 = setR wE (w.heap.size + 1) (.int .i64 9) (.slice none 0 0) (.int .i64 0) (.int .i64 0) (.int .i64 0) (.slice none 0 0) (.bool false) := ⟨_, rfl⟩
    have hr5 := setR_at0 HRB.out (.int .i64 9) (.slice none 0 0) (.int .i64 0) (.int .i64 0) (.int .i64 0) (.slice none 0 0) (.bool false)
    have hF5 := (Frm.refl (fun b => b = w.heap.size + 1) wE).setR (R := w.heap.size + 1) (.inl rfl) (.int .i64 9) (.slice none 0 0) (.int .i64 0) (.int .i64 0) (.int .i64 0) (.slice none 0 0) (.bool false)
    rw [← hW5] at hr5 hF5
    unfold setR at hW5
    rw [← hW5]
    have hfin := put_done HST.out HRB.out (Nat.le_succ _) HFR.out hF5
    exact bodyPost_ret (ret_rep rfl _ _ (w.heap.size + 1) rfl hr5) rfl ⟨fun e0 => absurd e0 hkey, fun _ _ => ⟨rfl, hfin⟩, fun _ e0 => by omega⟩
  have hful' : ¬ (512 : Int) ≤ (σ.ups.length : Int) := by omega
  obtain ⟨i1, hi1⟩ : ∃ i1, i1 = σ.id + 1 := ⟨_, rfl⟩
  obtain ⟨now, hnow⟩ : ∃ now, now = σ.now := ⟨_, rfl⟩
  have c3 : W1.cell? ⟨S, 3, none⟩ = some (.int .i64 σ.id) := cell_blkD HE.out.st.blk (i := 3) rfl
  have f3 := frz_blkD HE.out.st.blk 3
  have wid : IntKind.i64.wrap (σ.id + 1) = i1 := by rw [hi1]; exact IntWalk.i64_in _ (by omega)
  obtain ⟨W2, hW2⟩ : ∃ W2, W2 = W1.setCell ⟨S, 3, none⟩ (.int .i64 i1) := ⟨_, rfl⟩
  have HS2 := Lib.hid (show DStAt W2 S base { σ with id := i1 } from by rw [hW2]; exact HE.out.st.idLaid i1)
  have HF2 := Lib.hid (show Frm (fun b => b = S) W1 W2 from by rw [hW2]; exact (Frm.refl (fun b => b = S) W1).set (.inl rfl) _ _)
  have HB2 := Lib.hid (HF2.out.at HE.out.cb (fun e => by have h1 := HE.out.cb; rw [e, HE.out.st.blk] at h1; simp at h1))
  have HR2 := Lib.hid (HF2.out.at HE.out.rb (fun e => by have h1 := HE.out.rb; rw [e, HE.out.st.blk] at h1; simp at h1))
  have HW2 := Lib.hid hW2
  have HII := Lib.hid (And.intro hi1 hnow)
  have hz2 : base ≤ W2.heap.size := Nat.le_trans hbs (Nat.le_trans HE.out.bel.size HF2.out.size)
  clear hW2 hi1
  go_wp2_with fail
  refine (dkey_any ky W1).mono ?_
  rintro e wk ⟨rfl, hwk⟩
  rw [hwk, hkey']
  clear hwk wk
  go_upto_region 49 with fail
  rw [← HW2.out]
  clear c1 c3 f3 k1 k0
  have hS2 : S < W2.heap.size := (Array.getElem?_eq_some_iff.1 HS2.out.blk).1
  have hB2 : w.heap.size < W2.heap.size := (Array.getElem?_eq_some_iff.1 HB2.out).1
  have HI0 := Lib.hid (Below.refl W2.heap.size W2).drew
  have HNOW := Lib.hid hnow
  have hnSB : blkOf σ.ua ≠ some S ∧ blkOf σ.ua ≠ some w.heap.size := ⟨fun e => by
    obtain ⟨cu, g2⟩ := own_blk_ty HS2.out.urow e
    rw [HS2.out.blk] at g2; simp at g2, fun e => by
    obtain ⟨cu, g2⟩ := own_blk_ty HS2.out.urow e
    rw [HB2.out] at g2; simp at g2⟩
  clear hnow
  refine wp_region_chain (by kernel_rfl) (by kernel_rfl) (by kernel_rfl) [16, 17, 20] false (by kernel_rfl) (fun k u y => match k with
      | 0 => Below W2.heap.size W2 y
      | 1 => Below W2.heap.size W2 y ∧ ∃ g, u 0 = .slice (some ⟨g, 0, none⟩) 1 1 ∧ VecAt DUplS y (some ⟨g, 0, none⟩) 1 1 [(⟨i1, now, ky, none, 0, 0, []⟩ : DUpl)]
      | 2 => ∃ WA, Below W2.heap.size W2 WA ∧ WA.grownBy y (blkOf σ.ua) ∧ ∃ aD cD, u 1 = .slice aD (σ.ups.length + 1) cD ∧ y.ownsRow base 85 4 (.slice aD (σ.ups.length + 1) cD) (σ.ups.length + 1) (DUplS.flat (σ.ups ++ [(⟨i1, now, ky, none, 0, 0, []⟩ : DUpl)]))
      | _ => (∃ a c, DStAt y S base { σ with id := i1, ua := a, uc := c, ups := σ.ups ++ [(⟨i1, now, ky, none, 0, 0, []⟩ : DUpl)] }) ∧ Frm (DF S σ) W1 y) (fun y => y.heap[S]? = W2.heap[S]? ∧ y.heap[w.heap.size]? = W2.heap[w.heap.size]?) (fun j_9 => match j_9 with | 0 => some ((.pointer (some ⟨S, 0, none⟩))) | 1 => some ((.pointer (some ⟨S, 0, none⟩))) | 2 => some ((.pointer (some ⟨S, 0, none⟩))) | 3 => some ((.pointer (some ⟨S, 1, none⟩))) | 4 => some (.slice σ.ua σ.ups.length σ.uc) | 5 => some ((.pointer (some ⟨S, 0, none⟩))) | 6 => some ((.pointer (some ⟨S, 0, none⟩))) | 7 => some ((.pointer (some ⟨S, 3, none⟩))) | 8 => some (.int .i64 i1) | 9 => some ((.pointer (some ⟨S, 0, none⟩))) | 10 => some ((.pointer (some ⟨S, 0, none⟩))) | 11 => some ((.pointer (some ⟨S, 4, none⟩))) | 12 => some (.int .i64 now) | 13 => some ((.pointer (some ⟨w.heap.size, 1, none⟩))) | 14 => some (.string ky) | 15 => some (.agg #[.int .i64 i1, .int .i64 now, .string ky, .slice none 0 0]) | 16 => none | 17 => none | 18 => some ((.pointer (some ⟨S, 0, none⟩))) | 19 => some ((.pointer (some ⟨S, 1, none⟩))) | 20 => none | _ => none) (by rfl) (fun u => HI0.out) (fun k u y hk9 _ hs => by
      have hk : k < 3 := hk9 rfl
      clear hk9
      match k, hk, hs with
      | 0, _, hs => exact ⟨hs.block S hS2, hs.block _ hB2⟩
      | 1, _, hs => exact ⟨hs.1.block S hS2, hs.1.block _ hB2⟩
      | 2, _, hs =>
        obtain ⟨WA, hbA, hgA, _⟩ := hs
        exact ⟨(hgA.block S (Nat.lt_of_lt_of_le hS2 hbA.size) (fun e => hnSB.1 e.symm)).trans (hbA.block S hS2), (hgA.block _ (Nat.lt_of_lt_of_le hB2 hbA.size) (fun e => hnSB.2 e.symm)).trans (hbA.block _ hB2)⟩) ?_ ?_ ?_
  · intro i9 o ho hc9 V w9 K hR9 hdep hK
    have HR9 := Lib.hid hR9
    simp only [fill, slotOf, List.size_toArray, List.length_cons, List.length_nil, Nat.reduceAdd, List.getElem?_toArray, List.getElem?_cons_zero, List.getElem?_cons_succ, Option.bind_some, Act.put, List.setIfInBounds_toArray, List.set_cons_zero, List.set_cons_succ] at hK ⊢
    have hin9 : i9 < 21 := (Array.getElem?_eq_some_iff.1 ho).1
    have hcs : i9 = 0 ∨ i9 = 1 ∨ i9 = 2 ∨ i9 = 3 ∨ i9 = 4 ∨ i9 = 5 ∨ i9 = 6 ∨ i9 = 7 ∨ i9 = 8 ∨ i9 = 9 ∨ i9 = 10 ∨ i9 = 11 ∨ i9 = 12 ∨ i9 = 13 ∨ i9 = 14 ∨ i9 = 15 ∨ i9 = 16 ∨ i9 = 17 ∨ i9 = 18 ∨ i9 = 19 ∨ i9 = 20 := by omega
    clear hin9
    rcases hcs with rfl | rfl | rfl | rfl | rfl | rfl | rfl | rfl | rfl | rfl | rfl | rfl | rfl | rfl | rfl | rfl | rfl | rfl | rfl | rfl | rfl
    · obtain rfl := Option.some.inj ho.symm
      clear hdep ho hR9 hc9
      try simp only [fill, slotOf, List.size_toArray, List.length_cons, List.length_nil, Nat.reduceAdd, List.getElem?_toArray, List.getElem?_cons_zero, List.getElem?_cons_succ, Option.bind_some, Act.put, List.setIfInBounds_toArray, List.set_cons_zero, List.set_cons_succ] at hK ⊢
      go_simp
      exact hK ((.pointer (some ⟨S, 0, none⟩))) rfl _ rfl
    · obtain rfl := Option.some.inj ho.symm
      clear hdep ho hR9 hc9
      try simp only [fill, slotOf, List.size_toArray, List.length_cons, List.length_nil, Nat.reduceAdd, List.getElem?_toArray, List.getElem?_cons_zero, List.getElem?_cons_succ, Option.bind_some, Act.put, List.setIfInBounds_toArray, List.set_cons_zero, List.set_cons_succ] at hK ⊢
      go_simp
      exact hK ((.pointer (some ⟨S, 0, none⟩))) rfl _ rfl
    · obtain rfl := Option.some.inj ho.symm
      have d1 : V 1 = (.pointer (some ⟨S, 0, none⟩)) := hdep ⟨1, .data⟩ (by simp) rfl _ rfl
      clear hdep ho hR9 hc9
      try simp only [fill, slotOf, List.size_toArray, List.length_cons, List.length_nil, Nat.reduceAdd, List.getElem?_toArray, List.getElem?_cons_zero, List.getElem?_cons_succ, Option.bind_some, Act.put, List.setIfInBounds_toArray, List.set_cons_zero, List.set_cons_succ] at hK ⊢
      rw [d1] at hK ⊢
      go_simp
      exact hK ((.pointer (some ⟨S, 0, none⟩))) rfl _ rfl
    · obtain rfl := Option.some.inj ho.symm
      have d2 : V 2 = (.pointer (some ⟨S, 0, none⟩)) := hdep ⟨2, .data⟩ (by simp) rfl _ rfl
      clear hdep ho hR9 hc9
      try simp only [fill, slotOf, List.size_toArray, List.length_cons, List.length_nil, Nat.reduceAdd, List.getElem?_toArray, List.getElem?_cons_zero, List.getElem?_cons_succ, Option.bind_some, Act.put, List.setIfInBounds_toArray, List.set_cons_zero, List.set_cons_succ] at hK ⊢
      rw [d2] at hK ⊢
      go_simp
      exact hK ((.pointer (some ⟨S, 1, none⟩))) rfl _ rfl
    · obtain rfl := Option.some.inj ho.symm
      have d3 : V 3 = (.pointer (some ⟨S, 1, none⟩)) := hdep ⟨3, .data⟩ (by simp) rfl _ rfl
      have u0 := cell_blkD (HR9.out.1.trans HS2.out.blk) (i := 1) (u := .slice σ.ua σ.ups.length σ.uc) rfl
      clear hdep ho hR9 hc9
      try simp only [fill, slotOf, List.size_toArray, List.length_cons, List.length_nil, Nat.reduceAdd, List.getElem?_toArray, List.getElem?_cons_zero, List.getElem?_cons_succ, Option.bind_some, Act.put, List.setIfInBounds_toArray, List.set_cons_zero, List.set_cons_succ] at hK ⊢
      rw [d3] at hK ⊢
      go_simp
      exact hK (.slice σ.ua σ.ups.length σ.uc) rfl _ rfl
    · obtain rfl := Option.some.inj ho.symm
      clear hdep ho hR9 hc9
      try simp only [fill, slotOf, List.size_toArray, List.length_cons, List.length_nil, Nat.reduceAdd, List.getElem?_toArray, List.getElem?_cons_zero, List.getElem?_cons_succ, Option.bind_some, Act.put, List.setIfInBounds_toArray, List.set_cons_zero, List.set_cons_succ] at hK ⊢
      go_simp
      exact hK ((.pointer (some ⟨S, 0, none⟩))) rfl _ rfl
    · obtain rfl := Option.some.inj ho.symm
      have d5 : V 5 = (.pointer (some ⟨S, 0, none⟩)) := hdep ⟨5, .data⟩ (by simp) rfl _ rfl
      clear hdep ho hR9 hc9
      try simp only [fill, slotOf, List.size_toArray, List.length_cons, List.length_nil, Nat.reduceAdd, List.getElem?_toArray, List.getElem?_cons_zero, List.getElem?_cons_succ, Option.bind_some, Act.put, List.setIfInBounds_toArray, List.set_cons_zero, List.set_cons_succ] at hK ⊢
      rw [d5] at hK ⊢
      go_simp
      exact hK ((.pointer (some ⟨S, 0, none⟩))) rfl _ rfl
    · obtain rfl := Option.some.inj ho.symm
      have d6 : V 6 = (.pointer (some ⟨S, 0, none⟩)) := hdep ⟨6, .data⟩ (by simp) rfl _ rfl
      clear hdep ho hR9 hc9
      try simp only [fill, slotOf, List.size_toArray, List.length_cons, List.length_nil, Nat.reduceAdd, List.getElem?_toArray, List.getElem?_cons_zero, List.getElem?_cons_succ, Option.bind_some, Act.put, List.setIfInBounds_toArray, List.set_cons_zero, List.set_cons_succ] at hK ⊢
      rw [d6] at hK ⊢
      go_simp
      exact hK ((.pointer (some ⟨S, 3, none⟩))) rfl _ rfl
    · obtain rfl := Option.some.inj ho.symm
      have d7 : V 7 = (.pointer (some ⟨S, 3, none⟩)) := hdep ⟨7, .data⟩ (by simp) rfl _ rfl
      have u0 := cell_blkD (HR9.out.1.trans HS2.out.blk) (i := 3) (u := .int .i64 i1) rfl
      clear hdep ho hR9 hc9
      try simp only [fill, slotOf, List.size_toArray, List.length_cons, List.length_nil, Nat.reduceAdd, List.getElem?_toArray, List.getElem?_cons_zero, List.getElem?_cons_succ, Option.bind_some, Act.put, List.setIfInBounds_toArray, List.set_cons_zero, List.set_cons_succ] at hK ⊢
      rw [d7] at hK ⊢
      go_simp
      exact hK (.int .i64 i1) rfl _ rfl
    · obtain rfl := Option.some.inj ho.symm
      clear hdep ho hR9 hc9
      try simp only [fill, slotOf, List.size_toArray, List.length_cons, List.length_nil, Nat.reduceAdd, List.getElem?_toArray, List.getElem?_cons_zero, List.getElem?_cons_succ, Option.bind_some, Act.put, List.setIfInBounds_toArray, List.set_cons_zero, List.set_cons_succ] at hK ⊢
      go_simp
      exact hK ((.pointer (some ⟨S, 0, none⟩))) rfl _ rfl
    · obtain rfl := Option.some.inj ho.symm
      have d9 : V 9 = (.pointer (some ⟨S, 0, none⟩)) := hdep ⟨9, .data⟩ (by simp) rfl _ rfl
      clear hdep ho hR9 hc9
      try simp only [fill, slotOf, List.size_toArray, List.length_cons, List.length_nil, Nat.reduceAdd, List.getElem?_toArray, List.getElem?_cons_zero, List.getElem?_cons_succ, Option.bind_some, Act.put, List.setIfInBounds_toArray, List.set_cons_zero, List.set_cons_succ] at hK ⊢
      rw [d9] at hK ⊢
      go_simp
      exact hK ((.pointer (some ⟨S, 0, none⟩))) rfl _ rfl
    · obtain rfl := Option.some.inj ho.symm
      have d10 : V 10 = (.pointer (some ⟨S, 0, none⟩)) := hdep ⟨10, .data⟩ (by simp) rfl _ rfl
      clear hdep ho hR9 hc9
      try simp only [fill, slotOf, List.size_toArray, List.length_cons, List.length_nil, Nat.reduceAdd, List.getElem?_toArray, List.getElem?_cons_zero, List.getElem?_cons_succ, Option.bind_some, Act.put, List.setIfInBounds_toArray, List.set_cons_zero, List.set_cons_succ] at hK ⊢
      rw [d10] at hK ⊢
      go_simp
      exact hK ((.pointer (some ⟨S, 4, none⟩))) rfl _ rfl
    · obtain rfl := Option.some.inj ho.symm
      have d11 : V 11 = (.pointer (some ⟨S, 4, none⟩)) := hdep ⟨11, .data⟩ (by simp) rfl _ rfl
      have u0 : w9.cell? ⟨S, 4, none⟩ = some (.int .i64 now) := by rw [HNOW.out]; exact cell_blkD (HR9.out.1.trans HS2.out.blk) (i := 4) rfl
      clear hdep ho hR9 hc9
      try simp only [fill, slotOf, List.size_toArray, List.length_cons, List.length_nil, Nat.reduceAdd, List.getElem?_toArray, List.getElem?_cons_zero, List.getElem?_cons_succ, Option.bind_some, Act.put, List.setIfInBounds_toArray, List.set_cons_zero, List.set_cons_succ] at hK ⊢
      rw [d11] at hK ⊢
      go_simp
      exact hK (.int .i64 now) rfl _ rfl
    · obtain rfl := Option.some.inj ho.symm
      clear hdep ho hR9 hc9
      try simp only [fill, slotOf, List.size_toArray, List.length_cons, List.length_nil, Nat.reduceAdd, List.getElem?_toArray, List.getElem?_cons_zero, List.getElem?_cons_succ, Option.bind_some, Act.put, List.setIfInBounds_toArray, List.set_cons_zero, List.set_cons_succ] at hK ⊢
      go_simp
      exact hK ((.pointer (some ⟨w.heap.size, 1, none⟩))) rfl _ rfl
    · obtain rfl := Option.some.inj ho.symm
      have d13 : V 13 = (.pointer (some ⟨w.heap.size, 1, none⟩)) := hdep ⟨13, .data⟩ (by simp) rfl _ rfl
      have u0 := cell_blkD (HR9.out.2.trans HB2.out) (i := 1) (u := .string ky) rfl
      clear hdep ho hR9 hc9
      try simp only [fill, slotOf, List.size_toArray, List.length_cons, List.length_nil, Nat.reduceAdd, List.getElem?_toArray, List.getElem?_cons_zero, List.getElem?_cons_succ, Option.bind_some, Act.put, List.setIfInBounds_toArray, List.set_cons_zero, List.set_cons_succ] at hK ⊢
      rw [d13] at hK ⊢
      go_simp
      exact hK (.string ky) rfl _ rfl
    · obtain rfl := Option.some.inj ho.symm
      have d8 : V 8 = .int .i64 i1 := hdep ⟨8, .data⟩ (by simp) rfl _ rfl
      have d12 : V 12 = .int .i64 now := hdep ⟨12, .data⟩ (by simp) rfl _ rfl
      have d14 : V 14 = .string ky := hdep ⟨14, .data⟩ (by simp) rfl _ rfl
      clear hdep ho hR9 hc9
      try simp only [fill, slotOf, List.size_toArray, List.length_cons, List.length_nil, Nat.reduceAdd, List.getElem?_toArray, List.getElem?_cons_zero, List.getElem?_cons_succ, Option.bind_some, Act.put, List.setIfInBounds_toArray, List.set_cons_zero, List.set_cons_succ] at hK ⊢
      rw [d8, d12, d14] at hK ⊢
      go_simp
      exact hK (.agg #[.int .i64 i1, .int .i64 now, .string ky, .slice none 0 0]) rfl _ rfl
    · cases hc9
    · cases hc9
    · obtain rfl := Option.some.inj ho.symm
      have d0 : V 0 = (.pointer (some ⟨S, 0, none⟩)) := hdep ⟨0, .data⟩ (by simp) rfl _ rfl
      clear hdep ho hR9 hc9
      try simp only [fill, slotOf, List.size_toArray, List.length_cons, List.length_nil, Nat.reduceAdd, List.getElem?_toArray, List.getElem?_cons_zero, List.getElem?_cons_succ, Option.bind_some, Act.put, List.setIfInBounds_toArray, List.set_cons_zero, List.set_cons_succ] at hK ⊢
      rw [d0] at hK ⊢
      go_simp
      exact hK ((.pointer (some ⟨S, 0, none⟩))) rfl _ rfl
    · obtain rfl := Option.some.inj ho.symm
      have d18 : V 18 = (.pointer (some ⟨S, 0, none⟩)) := hdep ⟨18, .data⟩ (by simp) rfl _ rfl
      clear hdep ho hR9 hc9
      try simp only [fill, slotOf, List.size_toArray, List.length_cons, List.length_nil, Nat.reduceAdd, List.getElem?_toArray, List.getElem?_cons_zero, List.getElem?_cons_succ, Option.bind_some, Act.put, List.setIfInBounds_toArray, List.set_cons_zero, List.set_cons_succ] at hK ⊢
      rw [d18] at hK ⊢
      go_simp
      exact hK ((.pointer (some ⟨S, 1, none⟩))) rfl _ rfl
    · cases hc9
  · intro i9 j9 o he9 ho V w9 K hS9 hdep hK
    simp only [fill, slotOf, List.size_toArray, List.length_cons, List.length_nil, Nat.reduceAdd, List.getElem?_toArray, List.getElem?_cons_zero, List.getElem?_cons_succ, Option.bind_some, Act.put, List.setIfInBounds_toArray, List.set_cons_zero, List.set_cons_succ] at hK ⊢
    have hin9 : i9 < 3 := (List.getElem?_eq_some_iff.1 he9).1
    have hcs : i9 = 0 ∨ i9 = 1 ∨ i9 = 2 := by omega
    clear hin9
    rcases hcs with rfl | rfl | rfl
    · obtain rfl := Option.some.inj he9.symm
      obtain rfl := Option.some.inj ho.symm
      have d15 : V 15 = .agg #[.int .i64 i1, .int .i64 now, .string ky, .slice none 0 0] := hdep ⟨15, .data⟩ (by simp) rfl _ rfl
      have hs : Below W2.heap.size W2 w9 := hS9
      have HVA := Lib.hid (vec_oneS DUplS w9 (⟨i1, now, ky, none, 0, 0, []⟩ : DUpl) (fun _ => trivial) 85 (cs := #[.int .i64 i1, .int .i64 now, .string ky, .slice none 0 0]) rfl)
      have HS9 := Lib.hid hs
      clear hdep ho he9 hS9 hs
      try simp only [fill, slotOf, List.size_toArray, List.length_cons, List.length_nil, Nat.reduceAdd, List.getElem?_toArray, List.getElem?_cons_zero, List.getElem?_cons_succ, Option.bind_some, Act.put, List.setIfInBounds_toArray, List.set_cons_zero, List.set_cons_succ] at hK ⊢
      rw [d15] at hK ⊢
      go_simp
      exact hK (.slice (some ⟨w9.heap.size, 0, none⟩) 1 1) _ ⟨HS9.out.alloc HS9.out.size _, _, rfl, HVA.out⟩ (fun y h => by cases h) _ rfl
    · obtain rfl := Option.some.inj he9.symm
      obtain rfl := Option.some.inj ho.symm
      have d4 : V 4 = .slice σ.ua σ.ups.length σ.uc := hdep ⟨4, .data⟩ (by simp) rfl _ rfl
      have hs : Below W2.heap.size W2 w9 ∧ ∃ g, V 16 = .slice (some ⟨g, 0, none⟩) 1 1 ∧ VecAt DUplS w9 (some ⟨g, 0, none⟩) 1 1 [(⟨i1, now, ky, none, 0, 0, []⟩ : DUpl)] := hS9
      obtain ⟨hb9, g9, e9, hv9⟩ := hs
      have hu9 := (HS2.out.below hb9).urow
      clear hdep ho he9 hS9
      try simp only [fill, slotOf, List.size_toArray, List.length_cons, List.length_nil, Nat.reduceAdd, List.getElem?_toArray, List.getElem?_cons_zero, List.getElem?_cons_succ, Option.bind_some, Act.put, List.setIfInBounds_toArray, List.set_cons_zero, List.set_cons_succ] at hK ⊢
      refine step_append_dup (by first | rfl | kernel_rfl) (.tmp 274) (.tmp 286) rfl base (.slice σ.ua σ.ups.length σ.uc) σ.ups.length σ.ups (by exact d4) hu9 (some ⟨g9, 0, none⟩) 1 1 [(⟨i1, now, ky, none, 0, 0, []⟩ : DUpl)] (by exact e9) hv9 (by omega) (Nat.le_trans hz2 hb9.size) (fun v' w' h1 h2 => ?_)
      obtain ⟨aD, cD, rfl⟩ := own_sliceD h1
      rw [ownBlk] at h2
      exact hK _ w' ⟨w9, hb9, h2, aD, cD, rfl, h1⟩ (fun y h => by cases h) _ rfl
    · obtain rfl := Option.some.inj he9.symm
      obtain rfl := Option.some.inj ho.symm
      have d19 : V 19 = (.pointer (some ⟨S, 1, none⟩)) := hdep ⟨19, .data⟩ (by simp) rfl _ rfl
      have HR9 := Lib.hid (show w9.heap[S]? = W2.heap[S]? from by
        obtain ⟨WA, hbA, hgA, _⟩ := (show ∃ WA, Below W2.heap.size W2 WA ∧ WA.grownBy w9 (blkOf σ.ua) ∧ ∃ aD cD, V 17 = .slice aD (σ.ups.length + 1) cD ∧ w9.ownsRow base 85 4 (.slice aD (σ.ups.length + 1) cD) (σ.ups.length + 1) (DUplS.flat (σ.ups ++ [(⟨i1, now, ky, none, 0, 0, []⟩ : DUpl)])) from hS9)
        exact (hgA.block S (Nat.lt_of_lt_of_le hS2 hbA.size) (fun e => hnSB.1 e.symm)).trans (hbA.block S hS2))
      have hs : ∃ WA, Below W2.heap.size W2 WA ∧ WA.grownBy w9 (blkOf σ.ua) ∧ ∃ aD cD, V 17 = .slice aD (σ.ups.length + 1) cD ∧ w9.ownsRow base 85 4 (.slice aD (σ.ups.length + 1) cD) (σ.ups.length + 1) (DUplS.flat (σ.ups ++ [(⟨i1, now, ky, none, 0, 0, []⟩ : DUpl)])) := hS9
      obtain ⟨WA, hbA, hgA, aD, cD, e17, hoD⟩ := hs
      have hsA := HS2.out.below hbA
      have hDN := hsA.upsNew (us := σ.ups ++ [(⟨i1, now, ky, none, 0, 0, []⟩ : DUpl)]) hgA hoD (by rw [List.length_append]; rfl) (fun u hu => (List.mem_append.1 hu).imp (fun g => g) (fun g => by rw [List.mem_singleton.1 g]; exact ⟨rfl, rfl, rfl, rfl⟩)) (by rw [List.length_append, List.length_singleton]; omega)
      have HDN := Lib.hid hDN
      have HFN := Lib.hid (show Frm (DF S σ) W1 (w9.setCell ⟨S, 1, none⟩ (.slice aD (σ.ups.length + 1) cD)) from Frm.set (p := S) (F := DF S σ) (((HF2.out.imp (fun b e => .inl e)).below hbA).trans (F' := fun b => blkOf σ.ua = some b) ⟨hgA.os, hgA.tape, hgA.output, hgA.size, fun b hb hf => hgA.block b hb (fun e => hf e.symm)⟩ (fun b hb => .inl (.inr (.inr (.inl hb))))) (.inl (.inl rfl)) _ _)
      have u1 := cell_blkD (HR9.out.trans HS2.out.blk) (i := 1) (u := .slice σ.ua σ.ups.length σ.uc) rfl
      have f1 := frz_blkD (HR9.out.trans HS2.out.blk) 1
      clear hdep ho he9 hS9 hDN hsA hbA hgA hoD
      try simp only [fill, slotOf, List.size_toArray, List.length_cons, List.length_nil, Nat.reduceAdd, List.getElem?_toArray, List.getElem?_cons_zero, List.getElem?_cons_succ, Option.bind_some, Act.put, List.setIfInBounds_toArray, List.set_cons_zero, List.set_cons_succ] at hK ⊢
      rw [e17, d19] at hK ⊢
      go_simp
      exact hK undef _ ⟨⟨_, _, HDN.out⟩, HFN.out⟩ (fun y h => by cases h) _ rfl
  · intro V WN hS9 hv9
    have HS9 := Lib.hid (show (∃ a c, DStAt WN S base { σ with id := i1, ua := a, uc := c, ups := σ.ups ++ [(⟨i1, now, ky, none, 0, 0, []⟩ : DUpl)] }) ∧ Frm (DF S σ) W1 WN from hS9)
    clear hS9 hv9
    simp only [fill, slotOf, List.size_toArray, List.length_cons, List.length_nil, Nat.reduceAdd, List.getElem?_toArray, List.getElem?_cons_zero, List.getElem?_cons_succ, Option.bind_some, Act.put, List.setIfInBounds_toArray, List.set_cons_zero, List.set_cons_succ]
    obtain ⟨ua', uc', hdst⟩ := HS9.out.1
    have HFN := Lib.hid HS9.out.2
    have HSTN := Lib.hid hdst
    clear hdst HS9
    go_upto_region 50 with fail
    have c3 := cell_blkD HSTN.out.blk (i := 3) (u := .int .i64 i1) rfl
    have c4 : WN.cell? ⟨S, 4, none⟩ = some (.int .i64 now) := by rw [HII.out.2]; exact cell_blkD HSTN.out.blk (i := 4) rfl
    have HRB := Lib.hid (rb_kept HE.out.st HE.out.rb HFN.out)
    obtain ⟨⟨q0, q1, q2, q3, q4, q5, q6⟩, r0, r1, r2, r3, r4, r5, r6⟩ := rb_cells HRB.out
    go_region
    clear c3 c4 q0 q1 q2 q3 q4 q5 q6 r0 r1 r2 r3 r4 r5 r6
    go_wp2_with fail
    obtain ⟨W5, hW5⟩ : ∃ W5, W5 = setR WN (w.heap.size + 1) (.int .i64 0) (.slice none 0 0) (.int .i64 0) (.int .i64 now) (.int .i64 i1) (.slice none 0 0) (.bool false) := ⟨_, rfl⟩
    have hr5 := setR_at0 HRB.out (.int .i64 0) (.slice none 0 0) (.int .i64 0) (.int .i64 now) (.int .i64 i1) (.slice none 0 0) (.bool false)
    have hF5 := (Frm.refl (fun b => b = w.heap.size + 1) WN).setR (R := w.heap.size + 1) (.inl rfl) (.int .i64 0) (.slice none 0 0) (.int .i64 0) (.int .i64 now) (.int .i64 i1) (.slice none 0 0) (.bool false)
    rw [← hW5] at hr5 hF5
    unfold setR at hW5
    rw [← hW5]
    have hfin := done9 HE.out.bel HE.out.st HE.out.rb (Nat.le_succ _) HFN.out HSTN.out hF5.drew
    obtain ⟨hi1, hnow⟩ := HII.out
    subst hi1 hnow
    exact bodyPost_ret (ret_rep rfl _ _ (w.heap.size + 1) rfl (show W5.drew.heap[w.heap.size + 1]? = _ from hr5)) rfl ⟨fun e0 => absurd e0 hkey, fun _ e0 => absurd e0 hful, fun _ _ => ⟨rfl, ⟨_, _, hfin.1⟩, hfin.2⟩⟩
end Go.Proofs.Ytodoklnohedolaa
end PkUC5_2
section PkUC5_3
/- The calls of an upload's run, done by the document's store. -/
namespace Go.Proofs.Ytodoklnohedolaa
open Go.RowKit
set_option linter.unusedVariables false

theorem DStAt.lo2 {W : World} {S base : Nat} {δ : DSto} (h : DStAt W S base δ) (hS : base ≤ S) {b : Nat} (hb : DF S δ b) : base ≤ b := by
  rcases hb with rfl | e | e | ⟨o, ho, e⟩ | ⟨u, hu, e | ⟨p, hp, e⟩⟩
  · exact hS
  · exact (own_blk_lt h.orow e).1
  · exact (own_blk_lt h.urow e).1
  · exact (own_blk_lt (h.obj o ho).row e).1
  · exact (own_blk_lt (h.upl u hu).row e).1
  · exact (own_blk_lt ((h.upl u hu).prt p hp).row e).1
theorem pigeon : ∀ (P : Nat) (l : List Int), l.Nodup → (∀ x ∈ l, 1 ≤ x ∧ x ≤ (P : Int)) → l.length ≤ P
  | 0, l, _, h => by
    cases l with
    | nil => exact Nat.le_refl _
    | cons a r => have := h a List.mem_cons_self; omega
  | P + 1, l, hn, h => by
    by_cases hm : ((P + 1 : Nat) : Int) ∈ l
    · have e := List.length_erase_of_mem hm
      have := pigeon P (l.erase ((P + 1 : Nat) : Int)) (hn.erase _) (fun x hx => by
        have h1 := (List.Nodup.mem_erase_iff hn).1 hx
        have h2 := h x h1.2
        have h3 := h1.1
        omega)
      omega
    · have := pigeon P l hn (fun x hx => by
        have h2 := h x hx
        have h3 : x ≠ ((P + 1 : Nat) : Int) := fun e => hm (e ▸ hx)
        omega)
      omega
/-- what a call of a run leaves -/
structure Did (w w' : World) (S base : Nat) (K : ByteArray) (D : List Nat) (s P c : Nat) (σ σ' : DSto) : Prop where
  st : DStAt w' S base σ'
  run : RunS K D s P (c + 1) σ'
  bel : Below base w w'
  now : σ'.now = σ.now
  frm : Frm (DF S σ) w w'
variable {w w' : World} {S base s P c : Nat} {K : ByteArray} {D : List Nat} {σ : DSto}
theorem RunS.up (h : RunS K D s P c σ) : RunS K D s P (c + 1) σ := by
  obtain ⟨a, b, o, ⟨v0, v1⟩, ⟨i0, i1⟩⟩ := h
  exact ⟨a, b, o, ⟨v0, by omega⟩, ⟨i0, by omega⟩⟩
theorem did_bel (h : DStAt w S base σ) (hS : base ≤ S) (hb : base ≤ w.heap.size) (hf : Frm (DF S σ) w w') : Below base w w' := hf.toBelow hb (fun i hi => h.lo2 hS hi)
theorem did_no (h : DStAt w S base σ) (hS : base ≤ S) (hb : base ≤ w.heap.size) (hr : RunS K D s P c σ) {x : Int} {e : Ending} (hn : NoD w S base σ x e w') : e = .returned (rep0 x) ∧ Did w w' S base K D s P c σ σ :=
  ⟨hn.1, hn.2.1, hr.up, did_bel h hS hb hn.2.2, rfl, hn.2.2⟩
theorem did_7 (h : DStAt w S base σ) (hS : base ≤ S) (hb : base ≤ w.heap.size) (hr : RunS K D s P c σ) (hc : c ≤ 100000) :
    Calls Try.prog 21 #[.pointer (some ⟨S, 0, none⟩), .agg #[.int .i64 7, .string K, .slice none 0 0, .int .i64 0, .int .i64 0, .int .i64 0, .int .i64 0]] w fun e w' => ∃ er io bo σ', e = .returned (rep er (.slice none 0 0) 0 bo io (.slice none 0 0) false) ∧ Did w w' S base K D s P c σ σ' ∧ (er = 0 → isKeyB K = true) := by
  obtain ⟨v0, v1⟩ := hr.ver
  obtain ⟨i0, i1⟩ := hr.ids
  refine (ddo_7 h hb ⟨i0, by omega⟩).mono fun e w' hd => ?_
  obtain ⟨d1, d2, d3⟩ := hd
  by_cases hk : isKeyB K = true
  · by_cases hf : σ.ups.length < 512
    · obtain ⟨e1, ⟨ua, uc, hst⟩, hfr⟩ := d3 hk hf
      refine ⟨0, _, _, _, e1, ⟨hst, ⟨hr.obj, fun u hu => ?_, hr.one, ⟨v0, by show σ.ver ≤ ((c + 1 : Nat) : Int); omega⟩, ?_⟩, did_bel h hS hb hfr, rfl, hfr⟩, fun _ => hk⟩
      · rcases List.mem_append.1 hu with g | g
        · exact hr.upl u g
        · rw [List.mem_singleton.1 g]
          exact ⟨rfl, (fun p hp => by cases hp), List.Pairwise.nil⟩
      · show 0 ≤ σ.id + 1 ∧ σ.id + 1 ≤ ((c + 1 : Nat) : Int); omega
    · obtain ⟨e1, hd⟩ := did_no h hS hb hr (d2 hk (by omega))
      exact ⟨9, 0, 0, σ, e1, hd, fun e => by cases e⟩
  · obtain ⟨e1, hd⟩ := did_no h hS hb hr (d1 (Bool.eq_false_iff.2 hk))
    exact ⟨1, 0, 0, σ, e1, hd, fun e => by cases e⟩
theorem did_10 (h : DStAt w S base σ) (hS : base ≤ S) (hb : base ≤ w.heap.size) (hr : RunS K D s P c σ) (id : Int) :
    Calls Try.prog 21 #[.pointer (some ⟨S, 0, none⟩), .agg #[.int .i64 10, .string ByteArray.empty, .slice none 0 0, .int .i64 0, .int .i64 0, .int .i64 0, .int .i64 id]] w fun e w' => ∃ er σ', e = .returned (rep0 er) ∧ Did w w' S base K D s P c σ σ' := by
  refine (ddo_10 h hb).mono fun e w' hd => ?_
  unfold Do10 at hd
  cases hf : σ.ups.findIdx? (fun u => decide (u.id = id)) with
  | none =>
    rw [hf] at hd
    obtain ⟨e1, hd⟩ := did_no h hS hb hr hd
    exact ⟨7, σ, e1, hd⟩
  | some j =>
    rw [hf] at hd
    obtain ⟨e1, ⟨ua, uc, hst⟩, hfr⟩ := hd
    have hu := hr.up
    exact ⟨0, _, e1, hst, ⟨hu.obj, fun u h1 => hu.upl u (outK_mem h1), hu.one, hu.ver, hu.ids⟩, did_bel h hS hb hfr, rfl, hfr⟩
theorem did_3 (h : DStAt w S base σ) (hS : base ≤ S) (hb : base ≤ w.heap.size) (hr : RunS K D s P c σ) :
    Calls Try.prog 21 #[.pointer (some ⟨S, 0, none⟩), .agg #[.int .i64 3, .string K, .slice none 0 0, .int .i64 0, .int .i64 0, .int .i64 0, .int .i64 0]] w fun e w' => Did w w' S base K D s P c σ σ ∧ (e = .returned (rep0 7) ∨ ∃ j o da n dc, σ.objs.findIdx? (fun o => decide (o.key = K)) = some j ∧ σ.objs[j]? = some o ∧ e = .returned (rep 0 (.slice da n dc) o.ver o.born 0 (.slice none 0 0) false) ∧ BytesAt w' da n dc D) := by
  refine (ddo_3 h).mono fun e w' hd => ?_
  unfold Do3 at hd
  cases hf : σ.objs.findIdx? (fun o => decide (o.key = K)) with
  | none =>
    rw [hf] at hd
    obtain ⟨e1, hd⟩ := did_no h hS hb hr hd
    exact ⟨hd, .inl e1⟩
  | some j =>
    rw [hf] at hd
    have hj := (List.findIdx?_eq_some_iff_getElem.1 hf).1
    obtain ⟨da, dc, e1, hby, hst, hfr⟩ := hd _ (List.getElem?_eq_getElem hj)
    rw [(hr.obj _ (List.getElem_mem hj)).2.1] at hby
    exact ⟨⟨hst, hr.up, did_bel h hS hb hfr, rfl, hfr⟩, .inr ⟨j, _, da, _, dc, rfl, List.getElem?_eq_getElem hj, e1, hby⟩⟩
end Go.Proofs.Ytodoklnohedolaa
end PkUC5_3
section PkUC5_4
/- The calls of an upload's run, done by the document's store: parts, completing. -/
namespace Go.Proofs.Ytodoklnohedolaa
open Go.RowKit
set_option linter.unusedVariables false

variable {w w' : World} {S base s P c : Nat} {K : ByteArray} {D : List Nat} {σ : DSto}
theorem prt_few {u : DUpl} (h : UplIn K D s P u) (hP : P ≤ 32) {nn : Int} (hn : 1 ≤ nn ∧ nn ≤ (P : Int)) : (prtF u.parts nn).length < 32 := by
  have hnd : (nn :: (prtF u.parts nn).map (·.n)).Nodup := by
    refine List.nodup_cons.2 ⟨fun hm => ?_, ?_⟩
    · obtain ⟨p, hp, e⟩ := List.mem_map.1 hm
      have h2 := (List.mem_filter.1 hp).2
      simp [e] at h2
    · exact List.pairwise_map.2 (h.dif.filter _)
  have hl := pigeon P _ hnd (fun x hx => by
    rcases List.mem_cons.1 hx with rfl | g
    · exact hn
    · obtain ⟨p, hp, rfl⟩ := List.mem_map.1 g
      exact (h.pcs p (List.mem_filter.1 hp).1).2)
  rw [List.length_cons, List.length_map] at hl
  omega
theorem prt_in {u : DUpl} (h : UplIn K D s P u) {nn : Int} (hn : 1 ≤ nn ∧ nn ≤ (P : Int)) {pa : Option Addr} {pn pc : Nat} {da : Option Addr} {n dc : Nat} : UplIn K D s P { u with pa := pa, pn := pn, pc := pc, parts := prtF u.parts nn ++ [⟨nn, da, n, dc, pieceD D s nn⟩] } := by
  refine ⟨h.key, fun p hp => ?_, ?_⟩
  · rcases List.mem_append.1 hp with g | g
    · exact h.pcs p (List.mem_filter.1 g).1
    · rw [List.mem_singleton.1 g]
      exact ⟨rfl, hn⟩
  · refine List.pairwise_append.2 ⟨h.dif.filter _, List.pairwise_singleton _ _, fun a ha b hb e => ?_⟩
    rw [List.mem_singleton.1 hb] at e
    have h2 := (List.mem_filter.1 ha).2
    simp [e] at h2
theorem did_8 (h : DStAt w S base σ) (hS : base ≤ S) (hb : base ≤ w.heap.size) (hr : RunS K D s P c σ) (hP : P ≤ 32) {nn id : Int} (hn : 1 ≤ nn ∧ nn ≤ (P : Int)) {a : Option Addr} {n cc : Nat} (hx : BytesAt w a n cc (pieceD D s nn)) :
    Calls Try.prog 21 #[.pointer (some ⟨S, 0, none⟩), .agg #[.int .i64 8, .string ByteArray.empty, .slice a n cc, .int .i64 0, .int .i64 0, .int .i64 nn, .int .i64 id]] w fun e w' => ∃ er σ', e = .returned (rep0 er) ∧ Did w w' S base K D s P c σ σ' := by
  refine (ddo_8 h hx hb (fun j u _ hj _ _ => prt_few (hr.upl u (List.mem_of_getElem? hj)) hP hn)).mono fun e w' hd => ?_
  unfold Do8 at hd
  cases hf : σ.ups.findIdx? (fun u => decide (u.id = id)) with
  | none =>
    rw [hf] at hd
    obtain ⟨e1, hd⟩ := did_no h hS hb hr hd
    exact ⟨7, σ, e1, hd⟩
  | some j =>
    rw [hf] at hd
    have hj := (List.findIdx?_eq_some_iff_getElem.1 hf).1
    obtain ⟨hfr, h1, h2⟩ := hd _ (List.getElem?_eq_getElem hj)
    by_cases hz : prtDE σ σ.ups[j] nn n = 0
    · obtain ⟨e1, ua, uc, pa, pn, pc, da, dc, hst, _⟩ := h2 hz
      have hu := hr.up
      refine ⟨0, _, e1, hst, ⟨hu.obj, fun u hm => ?_, hu.one, hu.ver, hu.ids⟩, did_bel h hS hb hfr, rfl, hfr⟩
      rcases List.mem_or_eq_of_mem_set hm with g | g
      · exact hr.upl u g
      · rw [g]
        exact prt_in (hr.upl _ (List.getElem_mem hj)) hn
    · obtain ⟨e1, hst⟩ := h1 hz
      exact ⟨_, σ, e1, hst, hr.up, did_bel h hS hb hfr, rfl, hfr⟩
theorem did_9 (h : DStAt w S base σ) (hS : base ≤ S) (hb : base ≤ w.heap.size) (hr : RunS K D s P c σ) (hc : c ≤ 100000) (hD : D.length ≤ P * s) {id : Int} :
    Calls Try.prog 21 #[.pointer (some ⟨S, 0, none⟩), .agg #[.int .i64 9, .string ByteArray.empty, .slice none 0 0, .int .i64 0, .int .i64 0, .int .i64 (P : Int), .int .i64 id]] w fun e w' => ∃ er v bo σ', e = .returned (rep er (.slice none 0 0) v bo 0 (.slice none 0 0) false) ∧ Did w w' S base K D s P c σ σ' ∧ (er = 0 → ∃ o, σ'.objs = [o] ∧ o.key = K ∧ o.data = D ∧ o.born = bo) := by
  obtain ⟨v0, v1⟩ := hr.ver
  refine (ddo_9 h hb ⟨v0, by omega⟩).mono fun e w' hd => ?_
  unfold Do9 at hd
  cases hf : σ.ups.findIdx? (fun u => decide (u.id = id)) with
  | none =>
    rw [hf] at hd
    obtain ⟨e1, hd⟩ := did_no h hS hb hr hd
    exact ⟨7, 0, 0, σ, e1, hd, fun e => by cases e⟩
  | some j =>
    rw [hf] at hd
    have hj := (List.findIdx?_eq_some_iff_getElem.1 hf).1
    obtain ⟨hfr, h1, h2⟩ := hd _ (List.getElem?_eq_getElem hj)
    by_cases hz : comDE σ σ.ups[j] (P : Int) = 0
    · obtain ⟨d, hcd, e1, ua, uc, oa, oc, da, dc, hst, _⟩ := h2 hz
      have hin := hr.upl _ (List.getElem_mem hj)
      rw [Int.toNat_natCast] at hcd
      obtain rfl := com_data hin hD hcd
      rw [hin.key] at hst
      have hp := putL_one (o := ⟨K, da, d.length, dc, d, σ.ver + 1, σ.now⟩) hr.one (fun x hx => (hr.obj x hx).1) rfl
      exact ⟨0, _, _, _, e1, ⟨hst, RunS.put hr (fun u hm => outK_mem hm), did_bel h hS hb hfr, rfl, hfr⟩, fun _ => ⟨_, hp, rfl, rfl, rfl⟩⟩
    · obtain ⟨e1, hst⟩ := h1 hz
      exact ⟨_, 0, 0, σ, e1, ⟨hst, hr.up, did_bel h hS hb hfr, rfl, hfr⟩, fun e => absurd e hz⟩
end Go.Proofs.Ytodoklnohedolaa
end PkUC5_4
section PkUC5_5
/- An upload's Next, walked in general. Written by genui.py. -/
namespace Go.Proofs.Ytodoklnohedolaa
open Go.RowKit
set_option linter.unusedVariables false

theorem Turns.setRow_newG {B : Nat} {a w : World} (h : Turns B a w) {g : Nat} (hg : a.heap.size ≤ g) (cs : Array Value) : Turns B a (w.setRow g cs) :=
  ⟨h.os, h.tape, h.output, by rw [setRow_size]; exact h.size, fun k hk hne => (setRow_other w g k cs (by omega)).trans (h.block k hk hne)⟩
def UG.callC (u : UG) : Array Value :=
  if u.st = 0 then #[.int .i64 7, .string u.key, .slice none 0 0, .int .i64 0, .int .i64 0, .int .i64 0, .int .i64 0]
  else if u.st = 2 then #[.int .i64 9, .string { data := #[] }, .slice none 0 0, .int .i64 0, .int .i64 0, .int .i64 u.pt, .int .i64 u.id]
  else if u.st = 3 then #[.int .i64 3, .string u.key, .slice none 0 0, .int .i64 0, .int .i64 0, .int .i64 0, .int .i64 0]
  else #[.int .i64 10, .string { data := #[] }, .slice none 0 0, .int .i64 0, .int .i64 0, .int .i64 0, .int .i64 u.id]
theorem Turns.setNew {B : Nat} {a w : World} (h : Turns B a w) {g : Nat} (hg : a.heap.size ≤ g) (i : Nat) (u : Value) : Turns B a (w.setCell ⟨g, i, none⟩ u) :=
  ⟨h.os, h.tape, h.output, by simpa [World.setCell] using h.size, fun k hk hne => (Below.heap_setCell _ _ _ _ (show k ≠ g from by omega)).trans (h.block k hk hne)⟩
theorem UAt.setNew {w : World} {B : Nat} {u : UG} (h : UAt w B u) {g : Nat} (hne : B ≠ g) (i : Nat) (v : Value) : UAt (w.setCell ⟨g, i, none⟩ v) B u := (Below.heap_setCell _ _ _ _ (show B ≠ g from hne)).trans h
def set7 (w : World) (R : Nat) (x0 x1 x2 x3 x4 x5 x6 : Value) : World :=
  (((((((w.setCell ⟨R, 0, none⟩ x0).setCell ⟨R, 1, none⟩ x1).setCell ⟨R, 2, none⟩ x2).setCell ⟨R, 3, none⟩ x3).setCell ⟨R, 4, none⟩ x4).setCell ⟨R, 5, none⟩ x5).setCell ⟨R, 6, none⟩ x6)
theorem set7_at {w : World} {R : Nat} {y0 y1 y2 y3 y4 y5 y6 : Value} {t : TypeId} (g : w.heap[R]? = some (.cells #[y0, y1, y2, y3, y4, y5, y6] t (0, 0))) (x0 x1 x2 x3 x4 x5 x6 : Value) :
    (set7 w R x0 x1 x2 x3 x4 x5 x6).heap[R]? = some (.cells #[x0, x1, x2, x3, x4, x5, x6] t (0, 0)) := by
  unfold set7
  rw [heap_set (heap_set (heap_set (heap_set (heap_set (heap_set (heap_set g 0 x0) 1 x1) 2 x2) 3 x3) 4 x4) 5 x5) 6 x6]
  rfl
theorem Turns.set7 {B : Nat} {a w : World} (h : Turns B a w) {R : Nat} (hg : a.heap.size ≤ R) (x0 x1 x2 x3 x4 x5 x6 : Value) : Turns B a (set7 w R x0 x1 x2 x3 x4 x5 x6) :=
  ((((((h.setNew hg 0 x0).setNew hg 1 x1).setNew hg 2 x2).setNew hg 3 x3).setNew hg 4 x4).setNew hg 5 x5).setNew hg 6 x6
theorem UAt.set7 {w : World} {B : Nat} {u : UG} (h : UAt w B u) {R : Nat} (hne : B ≠ R) (x0 x1 x2 x3 x4 x5 x6 : Value) : UAt (set7 w R x0 x1 x2 x3 x4 x5 x6) B u :=
  ((((((h.setNew hne 0 x0).setNew hne 1 x1).setNew hne 2 x2).setNew hne 3 x3).setNew hne 4 x4).setNew hne 5 x5).setNew hne 6 x6
theorem uAt_told {u : UG} (h : u.told = false) : u.A[9]? = some (.bool false) := by rw [← h]; rfl

set_option maxRecDepth 100000 in
set_option maxHeartbeats 1000000 in
theorem unext_no {w : World} {B : Nat} {u : UG} (g : UAt w B u) {now : Int} (htl : u.told = false) (h : u.st = 5 ∨ now < u.rd) :
    Calls Try.prog 22 #[.pointer (some ⟨B, 0, none⟩), .int .i64 now] w fun e w' => e = .returned (.tuple #[.agg #[.int .i64 0, .string { data := #[] }, .slice none 0 0, .int .i64 0, .int .i64 0, .int .i64 0, .int .i64 0], .bool false]) ∧ UAt w' B u ∧ Turns B w w' := by
  obtain ⟨w1, hw1⟩ : ∃ w1, w1 = w.alloc (.cells #[.int .i64 0, .string { data := #[] }, .slice none 0 0, .int .i64 0, .int .i64 0, .int .i64 0, .int .i64 0] 30) := ⟨_, rfl⟩
  have hb1 : Below w.heap.size w w1 := by rw [hw1]; exact (Below.refl _ _).alloc (Nat.le_refl _) _
  obtain ⟨R, hR⟩ : ∃ R, R = w.heap.size := ⟨_, rfl⟩
  have gr : w1.heap[R]? = some (.cells #[.int .i64 0, .string { data := #[] }, .slice none 0 0, .int .i64 0, .int .i64 0, .int .i64 0, .int .i64 0] 30 (0, 0)) := by rw [hw1, hR]; exact heap_alloc_newG w _
  have g1 := g.below hb1
  have hBR : B ≠ R := by have := g.lt; omega
  have HBR := Lib.hid hBR
  have hRw : w.heap.size ≤ R := by omega
  have HRW := Lib.hid hRw
  have HT := Lib.hid ((Turns.refl B w).below hb1)
  have HW1 := Lib.hid hw1
  have HRE := Lib.hid hR
  have hRl : R < w1.heap.size := (Array.getElem?_eq_some_iff.1 gr).1
  have c10 := cell_blk g1 (i := 10) (u := .int .i64 u.st) rfl
  by_cases h5 : u.st = 5
  · have z5 : (u.st == 5) = true := by simp [h5]
    have hg3 := g1
    clear g g1 hb1 hw1 hR hRl hBR h h5 hRw
    go_enter Try.func22, Try.ntmps22
    go_upto_region 1 with fail
    rw [← HW1.out, ← HRE.out]
    have HG2 := Lib.hid gr
    have HGB := Lib.hid (show UAt (w1.setRow R #[.int .i64 0, .string { data := #[] }, .slice none 0 0, .int .i64 0, .int .i64 0, .int .i64 0, .int .i64 0]) B u from (setRow_other w1 R B #[.int .i64 0, .string { data := #[] }, .slice none 0 0, .int .i64 0, .int .i64 0, .int .i64 0, .int .i64 0] HBR.out).trans hg3)
    have HTB := Lib.hid (HT.out.setRow_newG HRW.out #[.int .i64 0, .string { data := #[] }, .slice none 0 0, .int .i64 0, .int .i64 0, .int .i64 0, .int .i64 0])
    have e0 := fun j => cell_setRow_same w1 R j _ #[.int .i64 0, .string { data := #[] }, .slice none 0 0, .int .i64 0, .int .i64 0, .int .i64 0, .int .i64 0] _ _ gr
    have q0 := e0 0
    have q1 := e0 1
    have q2 := e0 2
    have q3 := e0 3
    have q4 := e0 4
    have q5 := e0 5
    have q6 := e0 6
    clear e0 hg3 gr
    go_wp2_with (refine wpList_store_row rfl 30 (.tmp 4) (.tmp 25) rfl R #[.int .i64 0, .string { data := #[] }, .slice none 0 0, .int .i64 0, .int .i64 0, .int .i64 0, .int .i64 0] rfl rfl 30 _ HG2.out (by kernel_rfl) (by rfl) (by simp [Value.oneCell']) ?_)
    exact bodyPost_ret (v := .tuple #[.agg #[.int .i64 0, .string { data := #[] }, .slice none 0 0, .int .i64 0, .int .i64 0, .int .i64 0, .int .i64 0], .bool false]) (by simp [results, Try.results22, go_sem, q0, q1, q2, q3, q4, q5, q6]) rfl ⟨rfl, HGB.out, HTB.out⟩
  · have z5 : (u.st == 5) = false := by simp [h5]
    have hlt : now < u.rd := by omega
    have HTL := Lib.hid (tell_no (o := 5) (now := now) g1 (uAt_told htl) rfl hlt)
    have hg3 := g1
    clear g g1 hb1 hw1 hR hRl hBR h h5 hlt hRw
    go_enter Try.func22, Try.ntmps22
    go_upto_region 1 with fail
    rw [← HW1.out, ← HRE.out]
    go_wp2_with fail
    refine HTL.out.mono ?_
    rintro e w2 ⟨rfl, hw2⟩
    subst hw2
    have HG2 := Lib.hid gr
    have HGB := Lib.hid (show UAt (w1.setRow R #[.int .i64 0, .string { data := #[] }, .slice none 0 0, .int .i64 0, .int .i64 0, .int .i64 0, .int .i64 0]) B u from (setRow_other w1 R B #[.int .i64 0, .string { data := #[] }, .slice none 0 0, .int .i64 0, .int .i64 0, .int .i64 0, .int .i64 0] HBR.out).trans hg3)
    have HTB := Lib.hid (HT.out.setRow_newG HRW.out #[.int .i64 0, .string { data := #[] }, .slice none 0 0, .int .i64 0, .int .i64 0, .int .i64 0, .int .i64 0])
    have e0 := fun j => cell_setRow_same w1 R j _ #[.int .i64 0, .string { data := #[] }, .slice none 0 0, .int .i64 0, .int .i64 0, .int .i64 0, .int .i64 0] _ _ gr
    have q0 := e0 0
    have q1 := e0 1
    have q2 := e0 2
    have q3 := e0 3
    have q4 := e0 4
    have q5 := e0 5
    have q6 := e0 6
    clear e0 hg3 gr
    go_wp2_with (refine wpList_store_row rfl 30 (.tmp 4) (.tmp 25) rfl R #[.int .i64 0, .string { data := #[] }, .slice none 0 0, .int .i64 0, .int .i64 0, .int .i64 0, .int .i64 0] rfl rfl 30 _ HG2.out (by kernel_rfl) (by rfl) (by simp [Value.oneCell']) ?_)
    exact bodyPost_ret (v := .tuple #[.agg #[.int .i64 0, .string { data := #[] }, .slice none 0 0, .int .i64 0, .int .i64 0, .int .i64 0, .int .i64 0], .bool false]) (by simp [results, Try.results22, go_sem, q0, q1, q2, q3, q4, q5, q6]) rfl ⟨rfl, HGB.out, HTB.out⟩

set_option maxRecDepth 100000 in
set_option maxHeartbeats 2000000 in
theorem unext_yes {w : World} {B : Nat} {u : UG} (g : UAt w B u) {now : Int} (htl : u.told = false) (h : u.rd ≤ now) (hs : u.st = 0 ∨ u.st = 2 ∨ u.st = 3 ∨ u.st = 4) :
    Calls Try.prog 22 #[.pointer (some ⟨B, 0, none⟩), .int .i64 now] w fun e w' => e = .returned (.tuple #[.agg u.callC, .bool true]) ∧ UAt w' B { u with told := true } ∧ Turns B w w' := by
  obtain ⟨w1, hw1⟩ : ∃ w1, w1 = w.alloc (.cells #[.int .i64 0, .string { data := #[] }, .slice none 0 0, .int .i64 0, .int .i64 0, .int .i64 0, .int .i64 0] 30) := ⟨_, rfl⟩
  have hb1 : Below w.heap.size w w1 := by rw [hw1]; exact (Below.refl _ _).alloc (Nat.le_refl _) _
  obtain ⟨R, hR⟩ : ∃ R, R = w.heap.size := ⟨_, rfl⟩
  have gr : w1.heap[R]? = some (.cells #[.int .i64 0, .string { data := #[] }, .slice none 0 0, .int .i64 0, .int .i64 0, .int .i64 0, .int .i64 0] 30 (0, 0)) := by rw [hw1, hR]; exact heap_alloc_newG w _
  have g1 := g.below hb1
  have hBR : B ≠ R := by have := g.lt; omega
  have HBR := Lib.hid hBR
  have hRw : w.heap.size ≤ R := by omega
  have HRW := Lib.hid hRw
  have HT := Lib.hid ((Turns.refl B w).below hb1)
  have HW1 := Lib.hid hw1
  have HRE := Lib.hid hR
  have hRl : R < w1.heap.size := (Array.getElem?_eq_some_iff.1 gr).1
  have c10 := cell_blk g1 (i := 10) (u := .int .i64 u.st) rfl
  have z5 : (u.st == 5) = false := by rw [beq_eq_false_iff_ne]; omega
  have HTL := Lib.hid (tell_yes (o := 5) (now := now) g1 (uAt_told htl) rfl h)
  have HRK := Lib.hid (show ∀ w2, Turns B w1 w2 → w2.heap[R]? = _ from fun w2 h => (h.block R hRl (Ne.symm hBR)).trans gr)
  clear g g1 hb1 hw1 hR hRl hBR h hRw gr
  go_enter Try.func22, Try.ntmps22
  go_upto_region 1 with fail
  rw [← HW1.out, ← HRE.out]
  go_wp2_with fail
  refine HTL.out.mono ?_
  rintro e w2 ⟨rfl, hg2, ht2⟩
  have hg3 : UAt w2 B { u with told := true } := hg2
  have gr := HRK.out w2 ht2
  have HT2 := Lib.hid (HT.out.trans ht2)
  have c10 := cell_blk hg3 (i := 10) (u := .int .i64 u.st) rfl
  clear hg2 ht2
  rcases hs with hst | hst | hst | hst
  · have z0 : (u.st == 0) = true := by simp [hst]
    have HC := Lib.hid (show u.callC = #[.int .i64 7, .string u.key, .slice none 0 0, .int .i64 0, .int .i64 0, .int .i64 0, .int .i64 0] from by unfold UG.callC; rw [if_pos hst])
    have z5 : (u.st == 5) = false := by simp [hst]
    have k0 := cell_blk hg3 (i := 0) (u := .string u.key) rfl
    have k3 := cell_blk hg3 (i := 3) (u := .int .i64 u.pt) rfl
    have k11 := cell_blk hg3 (i := 11) (u := .int .i64 u.id) rfl
    clear hst
    have HG2 := Lib.hid gr
    have HGB := Lib.hid (show UAt (w2.setRow R #[.int .i64 7, .string u.key, .slice none 0 0, .int .i64 0, .int .i64 0, .int .i64 0, .int .i64 0]) B { u with told := true } from (setRow_other w2 R B #[.int .i64 7, .string u.key, .slice none 0 0, .int .i64 0, .int .i64 0, .int .i64 0, .int .i64 0] HBR.out).trans hg3)
    have HTB := Lib.hid (HT2.out.setRow_newG HRW.out #[.int .i64 7, .string u.key, .slice none 0 0, .int .i64 0, .int .i64 0, .int .i64 0, .int .i64 0])
    have e0 := fun j => cell_setRow_same w2 R j _ #[.int .i64 7, .string u.key, .slice none 0 0, .int .i64 0, .int .i64 0, .int .i64 0, .int .i64 0] _ _ gr
    have q0 := e0 0
    have q1 := e0 1
    have q2 := e0 2
    have q3 := e0 3
    have q4 := e0 4
    have q5 := e0 5
    have q6 := e0 6
    clear e0 hg3 gr
    go_wp2_with (refine wpList_store_row rfl 30 (.tmp 4) (.tmp 36) rfl R #[.int .i64 7, .string u.key, .slice none 0 0, .int .i64 0, .int .i64 0, .int .i64 0, .int .i64 0] rfl rfl 30 _ HG2.out (by kernel_rfl) (by rfl) (by simp [Value.oneCell']) ?_)
    exact bodyPost_ret (v := .tuple #[.agg #[.int .i64 7, .string u.key, .slice none 0 0, .int .i64 0, .int .i64 0, .int .i64 0, .int .i64 0], .bool true]) (by simp [results, Try.results22, go_sem, q0, q1, q2, q3, q4, q5, q6]) rfl ⟨by rw [HC.out], HGB.out, HTB.out⟩
  · have z0 : (u.st == 0) = false := by simp [hst]
    have z1 : (u.st == 1) = false := by simp [hst]
    have z2 : (u.st == 2) = true := by simp [hst]
    have HC := Lib.hid (show u.callC = #[.int .i64 9, .string { data := #[] }, .slice none 0 0, .int .i64 0, .int .i64 0, .int .i64 u.pt, .int .i64 u.id] from by unfold UG.callC; rw [if_neg (by omega), if_pos hst])
    have z5 : (u.st == 5) = false := by simp [hst]
    have k0 := cell_blk hg3 (i := 0) (u := .string u.key) rfl
    have k3 := cell_blk hg3 (i := 3) (u := .int .i64 u.pt) rfl
    have k11 := cell_blk hg3 (i := 11) (u := .int .i64 u.id) rfl
    clear hst
    have HGR := Lib.hid gr
    have q0 := cell_blk gr (i := 0) (u := .int .i64 0) rfl
    have p0 := fro_blk gr 0
    have q1 := cell_blk gr (i := 1) (u := .string { data := #[] }) rfl
    have p1 := fro_blk gr 1
    have q2 := cell_blk gr (i := 2) (u := .slice none 0 0) rfl
    have p2 := fro_blk gr 2
    have q3 := cell_blk gr (i := 3) (u := .int .i64 0) rfl
    have p3 := fro_blk gr 3
    have q4 := cell_blk gr (i := 4) (u := .int .i64 0) rfl
    have p4 := fro_blk gr 4
    have q5 := cell_blk gr (i := 5) (u := .int .i64 0) rfl
    have p5 := fro_blk gr 5
    have q6 := cell_blk gr (i := 6) (u := .int .i64 0) rfl
    have p6 := fro_blk gr 6
    obtain ⟨W9, hW9⟩ : ∃ W9, W9 = set7 w2 R (.int .i64 9) (.string { data := #[] }) (.slice none 0 0) (.int .i64 0) (.int .i64 0) (.int .i64 u.pt) (.int .i64 u.id) := ⟨_, rfl⟩
    have g9 : W9.heap[R]? = some (.cells #[.int .i64 9, .string { data := #[] }, .slice none 0 0, .int .i64 0, .int .i64 0, .int .i64 u.pt, .int .i64 u.id] 30 (0, 0)) := by rw [hW9]; exact set7_at gr (.int .i64 9) (.string { data := #[] }) (.slice none 0 0) (.int .i64 0) (.int .i64 0) (.int .i64 u.pt) (.int .i64 u.id)
    have v0 := cell_blk g9 (i := 0) (u := .int .i64 9) rfl
    have v1 := cell_blk g9 (i := 1) (u := .string { data := #[] }) rfl
    have v2 := cell_blk g9 (i := 2) (u := .slice none 0 0) rfl
    have v3 := cell_blk g9 (i := 3) (u := .int .i64 0) rfl
    have v4 := cell_blk g9 (i := 4) (u := .int .i64 0) rfl
    have v5 := cell_blk g9 (i := 5) (u := .int .i64 u.pt) rfl
    have v6 := cell_blk g9 (i := 6) (u := .int .i64 u.id) rfl
    have HGB := Lib.hid (show UAt W9 B { u with told := true } from by rw [hW9]; exact hg3.set7 HBR.out (.int .i64 9) (.string { data := #[] }) (.slice none 0 0) (.int .i64 0) (.int .i64 0) (.int .i64 u.pt) (.int .i64 u.id))
    have HTB := Lib.hid (show Turns B w W9 from by rw [hW9]; exact HT2.out.set7 HRW.out (.int .i64 9) (.string { data := #[] }) (.slice none 0 0) (.int .i64 0) (.int .i64 0) (.int .i64 u.pt) (.int .i64 u.id))
    unfold set7 at hW9
    have HW9 := Lib.hid hW9
    clear hW9 g9 gr
    go_upto_region 11 with fail
    go_region
    rw [← HW9.out]
    clear q0 p0 q1 p1 q2 p2 q3 p3 q4 p4 q5 p5 q6 p6
    go_wp2_with fail
    exact bodyPost_ret (v := .tuple #[.agg #[.int .i64 9, .string { data := #[] }, .slice none 0 0, .int .i64 0, .int .i64 0, .int .i64 u.pt, .int .i64 u.id], .bool true]) (by simp [results, Try.results22, go_sem, v0, v1, v2, v3, v4, v5, v6]) rfl ⟨by rw [HC.out], HGB.out, HTB.out.drew⟩
  · have z0 : (u.st == 0) = false := by simp [hst]
    have z1 : (u.st == 1) = false := by simp [hst]
    have z2 : (u.st == 2) = false := by simp [hst]
    have z3 : (u.st == 3) = true := by simp [hst]
    have HC := Lib.hid (show u.callC = #[.int .i64 3, .string u.key, .slice none 0 0, .int .i64 0, .int .i64 0, .int .i64 0, .int .i64 0] from by unfold UG.callC; rw [if_neg (by omega), if_neg (by omega), if_pos hst])
    have z5 : (u.st == 5) = false := by simp [hst]
    have k0 := cell_blk hg3 (i := 0) (u := .string u.key) rfl
    have k3 := cell_blk hg3 (i := 3) (u := .int .i64 u.pt) rfl
    have k11 := cell_blk hg3 (i := 11) (u := .int .i64 u.id) rfl
    clear hst
    have HG2 := Lib.hid gr
    have HGB := Lib.hid (show UAt (w2.setRow R #[.int .i64 3, .string u.key, .slice none 0 0, .int .i64 0, .int .i64 0, .int .i64 0, .int .i64 0]) B { u with told := true } from (setRow_other w2 R B #[.int .i64 3, .string u.key, .slice none 0 0, .int .i64 0, .int .i64 0, .int .i64 0, .int .i64 0] HBR.out).trans hg3)
    have HTB := Lib.hid (HT2.out.setRow_newG HRW.out #[.int .i64 3, .string u.key, .slice none 0 0, .int .i64 0, .int .i64 0, .int .i64 0, .int .i64 0])
    have e0 := fun j => cell_setRow_same w2 R j _ #[.int .i64 3, .string u.key, .slice none 0 0, .int .i64 0, .int .i64 0, .int .i64 0, .int .i64 0] _ _ gr
    have q0 := e0 0
    have q1 := e0 1
    have q2 := e0 2
    have q3 := e0 3
    have q4 := e0 4
    have q5 := e0 5
    have q6 := e0 6
    clear e0 hg3 gr
    go_wp2_with (refine wpList_store_row rfl 30 (.tmp 4) (.tmp 94) rfl R #[.int .i64 3, .string u.key, .slice none 0 0, .int .i64 0, .int .i64 0, .int .i64 0, .int .i64 0] rfl rfl 30 _ HG2.out (by kernel_rfl) (by rfl) (by simp [Value.oneCell']) ?_)
    exact bodyPost_ret (v := .tuple #[.agg #[.int .i64 3, .string u.key, .slice none 0 0, .int .i64 0, .int .i64 0, .int .i64 0, .int .i64 0], .bool true]) (by simp [results, Try.results22, go_sem, q0, q1, q2, q3, q4, q5, q6]) rfl ⟨by rw [HC.out], HGB.out, HTB.out⟩
  · have z0 : (u.st == 0) = false := by simp [hst]
    have z1 : (u.st == 1) = false := by simp [hst]
    have z2 : (u.st == 2) = false := by simp [hst]
    have z3 : (u.st == 3) = false := by simp [hst]
    have z4 : (u.st == 4) = true := by simp [hst]
    have HC := Lib.hid (show u.callC = #[.int .i64 10, .string { data := #[] }, .slice none 0 0, .int .i64 0, .int .i64 0, .int .i64 0, .int .i64 u.id] from by unfold UG.callC; rw [if_neg (by omega), if_neg (by omega), if_neg (by omega)])
    have z5 : (u.st == 5) = false := by simp [hst]
    have k0 := cell_blk hg3 (i := 0) (u := .string u.key) rfl
    have k3 := cell_blk hg3 (i := 3) (u := .int .i64 u.pt) rfl
    have k11 := cell_blk hg3 (i := 11) (u := .int .i64 u.id) rfl
    clear hst
    have HG2 := Lib.hid gr
    have HGB := Lib.hid (show UAt (w2.setRow R #[.int .i64 10, .string { data := #[] }, .slice none 0 0, .int .i64 0, .int .i64 0, .int .i64 0, .int .i64 u.id]) B { u with told := true } from (setRow_other w2 R B #[.int .i64 10, .string { data := #[] }, .slice none 0 0, .int .i64 0, .int .i64 0, .int .i64 0, .int .i64 u.id] HBR.out).trans hg3)
    have HTB := Lib.hid (HT2.out.setRow_newG HRW.out #[.int .i64 10, .string { data := #[] }, .slice none 0 0, .int .i64 0, .int .i64 0, .int .i64 0, .int .i64 u.id])
    have e0 := fun j => cell_setRow_same w2 R j _ #[.int .i64 10, .string { data := #[] }, .slice none 0 0, .int .i64 0, .int .i64 0, .int .i64 0, .int .i64 u.id] _ _ gr
    have q0 := e0 0
    have q1 := e0 1
    have q2 := e0 2
    have q3 := e0 3
    have q4 := e0 4
    have q5 := e0 5
    have q6 := e0 6
    clear e0 hg3 gr
    go_wp2_with (refine wpList_store_row rfl 30 (.tmp 4) (.tmp 99) rfl R #[.int .i64 10, .string { data := #[] }, .slice none 0 0, .int .i64 0, .int .i64 0, .int .i64 0, .int .i64 u.id] rfl rfl 30 _ HG2.out (by kernel_rfl) (by rfl) (by simp [Value.oneCell']) ?_)
    exact bodyPost_ret (v := .tuple #[.agg #[.int .i64 10, .string { data := #[] }, .slice none 0 0, .int .i64 0, .int .i64 0, .int .i64 0, .int .i64 u.id], .bool true]) (by simp [results, Try.results22, go_sem, q0, q1, q2, q3, q4, q5, q6]) rfl ⟨by rw [HC.out], HGB.out, HTB.out⟩

end Go.Proofs.Ytodoklnohedolaa
end PkUC5_5
section PkUC5_6
/- An upload made: its fields, exactly. -/
namespace Go.Proofs.Ytodoklnohedolaa
open Go.RowKit
set_option linter.unusedVariables false

theorem divided2_any (n d : Nat) (hn : n ≤ 1000000) (hd : 1 ≤ d ∧ d ≤ 3000000) (w : World) :
    Calls Try.prog 36 #[.int .i64 (n : Int), .int .i64 (d : Int)] w fun e w' => e = .returned (.int .i64 (((n + d - 1) / d : Nat) : Int)) ∧ w = w' := by
  obtain ⟨hd0, hd1⟩ := hd
  have hz : ((d : Int) == 0) = false := by rw [beq_eq_false_iff_ne]; omega
  have hq : ((n : Int) + (d : Int) - 1).tdiv (d : Int) = (((n + d - 1) / d : Nat) : Int) := by
    rw [Int.tdiv_eq_ediv_of_nonneg (by omega)]
    have : (n : Int) + (d : Int) - 1 = ((n + d - 1 : Nat) : Int) := by omega
    rw [this]
    rfl
  have hb : (n + d - 1) / d ≤ n + d - 1 := Nat.div_le_self _ _
  have w1 : IntKind.i64.wrap ((n : Int) + (d : Int)) = (n : Int) + (d : Int) := IntWalk.i64_in _ (by omega)
  have w2 : IntKind.i64.wrap ((n : Int) + (d : Int) - 1) = (n : Int) + (d : Int) - 1 := IntWalk.i64_in _ (by omega)
  obtain ⟨q, hq9⟩ : ∃ q : Nat, q = (n + d - 1) / d := ⟨_, rfl⟩
  rw [← hq9] at hq hb ⊢
  have w3 : IntKind.i64.wrap (q : Int) = (q : Int) := IntWalk.i64_in _ (by omega)
  clear hq9 hb
  go_enter Try.func36, Try.ntmps36
  go_wp2_with fail
  go_ret
  exact ⟨rfl, rfl⟩
/-- a slice's block isn't this one -/
def blkN (a : Option Addr) (B : Nat) : Prop := ∀ b off s, a = some ⟨b, off, s⟩ → b ≠ B
/-- how long its parts are, how many there are -/
def upSz (pc dn : Nat) : Nat := max pc ((dn + 32 - 1) / 32)
def upPt (pc dn : Nat) : Nat := max 1 ((dn + upSz pc dn - 1) / upSz pc dn)
theorem upSz_le {pc dn : Nat} (h1 : 1 ≤ pc) (h2 : pc ≤ 262144) (hd : dn ≤ 3000) : 1 ≤ upSz pc dn ∧ upSz pc dn ≤ 262144 ∧ dn ≤ 32 * upSz pc dn := by
  unfold upSz; omega
theorem upPt_le {pc dn : Nat} (h1 : 1 ≤ pc) (h2 : pc ≤ 262144) (hd : dn ≤ 3000) : 1 ≤ upPt pc dn ∧ upPt pc dn ≤ 32 ∧ (upPt pc dn - 1) * upSz pc dn ≤ dn ∧ dn ≤ upPt pc dn * upSz pc dn := by
  obtain ⟨a, b, c⟩ := upSz_le h1 h2 hd
  unfold upPt
  obtain ⟨s, hs⟩ : ∃ s, s = upSz pc dn := ⟨_, rfl⟩
  rw [← hs] at a b c ⊢
  obtain ⟨q, hq⟩ : ∃ q, q = (dn + s - 1) / s := ⟨_, rfl⟩
  rw [← hq]
  have e := Nat.div_add_mod (dn + s - 1) s
  have e2 := Nat.mod_lt (dn + s - 1) (show 0 < s by omega)
  rw [← hq] at e
  have h3 : q ≤ 32 := by
    rw [hq]
    refine Nat.le_of_lt_succ ((Nat.div_lt_iff_lt_mul (by omega)).2 ?_)
    omega
  rcases Nat.eq_zero_or_pos q with h0 | hp
  · rw [h0] at e ⊢
    simp at e
    refine ⟨by omega, by omega, ?_, ?_⟩ <;> simp <;> omega
  · have hm : max 1 q = q := by omega
    rw [hm]
    refine ⟨hp, h3, ?_, ?_⟩
    · rw [Nat.sub_mul, Nat.one_mul, Nat.mul_comm q s]; omega
    · rw [Nat.mul_comm q s]; omega
set_option maxRecDepth 100000 in
set_option maxHeartbeats 2000000 in
theorem unew_any {w : World} {ky : ByteArray} {da : Option Addr} {dn dc : Nat} {xs : List Nat} {pc : Nat} {tr wt : Int} (hb : BytesAt w da dn dc xs) (hd : dn ≤ 3000) (h1 : 1 ≤ pc) (h2 : pc ≤ 262144) (hf : fitsB tr wt = true) :
    Calls Try.prog 15 #[.string ky, .slice da dn dc, .int .i64 (pc : Int), .int .i64 tr, .int .i64 wt] w fun e w' => ∃ (B : Nat) (da' : Option Addr) (dc' : Nat), e = .returned (.pointer (some ⟨B, 0, none⟩)) ∧ UAt w' B ⟨ky, da', dn, dc', (upSz pc dn : Nat), (upPt pc dn : Nat), 1, tr, wt, 0, 0, false, 0, 0, false, false, 0, 0⟩ ∧ w'.ownsRow w.heap.size 5 1 (.slice da' dn dc') dn (bv xs) ∧ BytesAt w' da' dn dc' xs ∧ w.heap.size ≤ B ∧ blkN da' B ∧ Below w.heap.size w w' := by
  have hdi : (dn : Int) ≤ 262144 := by omega
  have HF := Lib.hid (fun w => fits_any tr wt w)
  rw [hf] at HF
  have HBY := Lib.hid hb
  have hdn : (dn : Int) ≤ 3000 := by omega
  have hpc1 : (1 : Int) ≤ (pc : Int) := by omega
  have hpc2 : (pc : Int) ≤ 262144 := by omega
  have hpcA : ¬ (pc : Int) < 1 := by omega
  have hpcB : ¬ (262144 : Int) < (pc : Int) := by omega
  have HD1 := Lib.hid (fun w => divided2_any dn 32 (by omega) ⟨by omega, by omega⟩ w)
  obtain ⟨q1, hq1⟩ : ∃ q1, q1 = (dn + 32 - 1) / 32 := ⟨_, rfl⟩
  have hsz : upSz pc dn = max pc q1 := by rw [hq1]; rfl
  have hse := upSz_le h1 h2 hd
  have HD2 := Lib.hid (fun w => divided2_any dn (upSz pc dn) (by omega) ⟨by omega, by omega⟩ w)
  obtain ⟨q2, hq2⟩ : ∃ q2, q2 = (dn + upSz pc dn - 1) / upSz pc dn := ⟨_, rfl⟩
  have hpt : upPt pc dn = max 1 q2 := by rw [hq2]; rfl
  obtain ⟨s9, hs9⟩ : ∃ s9, s9 = upSz pc dn := ⟨_, rfl⟩
  obtain ⟨p9, hp9⟩ : ∃ p9, p9 = upPt pc dn := ⟨_, rfl⟩
  rw [← hq1] at HD1
  rw [← hq2, ← hs9] at HD2
  rw [← hs9] at hsz
  rw [← hp9] at hpt
  rw [← hs9, ← hp9]
  have hmx : max (pc : Int) (q1 : Int) = (s9 : Int) := by omega
  have hmx2 : max (1 : Int) (q2 : Int) = (p9 : Int) := by omega
  clear hb hf hq1 hq2 hs9 hp9 hse hsz hpt
  go_enter Try.func15, Try.ntmps15
  go_wp2_with fail
  refine (HF.out _).mono ?_
  rintro e w2 ⟨rfl, rfl⟩
  go_wp2_with fail
  refine (HD1.out _).mono ?_
  rintro e w2 ⟨rfl, rfl⟩
  go_wp2_with fail
  refine (clone_own HBY.out).mono ?_
  rintro e w3 ⟨v, rfl, hown, hb3⟩
  obtain ⟨a', c', rfl, hby, hnw⟩ := BytesAt.ofOwn hown HBY.out.byte HBY.out.reach
  have HB3 := Lib.hid hb3
  have HOW := Lib.hid hown
  have HNB := Lib.hid hby
  have HLT := Lib.hid (show ∀ b off s, a' = some ⟨b, off, s⟩ → b < w3.heap.size from fun b off s e => by
    rcases hown.2 with ⟨g, h0⟩ | ⟨g, cap, cur, g1, _, g3, _⟩
    · cases g; cases e
    · cases g1; cases e; exact (Array.getElem?_eq_some_iff.1 g3).1)
  clear hown hb3 hby hnw
  go_wp2_with fail
  refine (HD2.out _).mono ?_
  rintro e w4 ⟨rfl, rfl⟩
  go_wp2_with fail
  refine (pacenew_any tr wt _).mono ?_
  rintro e w5 ⟨rfl, hb5⟩
  have hb6 := HB3.out.trans (hb5.mono HB3.out.size)
  obtain ⟨w6, hw6⟩ : ∃ w6, w6 = w5.alloc (.cells (UG.A ⟨ky, a', dn, c', (s9 : Int), (p9 : Int), 1, tr, wt, 0, 0, false, 0, 0, false, false, 0, 0⟩) 75) := ⟨_, rfl⟩
  have hb56 : Below w5.heap.size w5 w6 := by rw [hw6]; exact (Below.refl _ _).alloc (Nat.le_refl _) _
  have HG := Lib.hid (show UAt w6 w5.heap.size ⟨ky, a', dn, c', (s9 : Int), (p9 : Int), 1, tr, wt, 0, 0, false, 0, 0, false, false, 0, 0⟩ from by rw [hw6]; exact heap_alloc_newG w5 _)
  have HB6 := Lib.hid (hb6.trans (hb56.mono hb6.size))
  have HS := Lib.hid hb6.size
  have hb36 := hb5.trans (hb56.mono hb5.size)
  have HO6 := Lib.hid (own_below HOW.out hb36)
  have HN6 := Lib.hid (HNB.out.kept hb36)
  have HBN := Lib.hid (show blkN a' w5.heap.size from fun b off s e => by have h1 := HLT.out b off s e; have h2 := hb5.size; omega)
  unfold UG.A at hw6
  have HW6 := Lib.hid hw6
  clear hb5 hb6 hw6 hb56 hb36
  go_wp2_with fail
  have hw6 := HW6.out
  subst hw6
  go_ret
  exact ⟨w5.heap.size, a', c', rfl, HG.out, HO6.out, HN6.out, HS.out, HBN.out, HB6.out⟩
end Go.Proofs.Ytodoklnohedolaa
end PkUC5_6
section PkUC5_7
/- A run of an upload: the store and the upload leave each other alone; what a get tells; uploads thrown away. -/
namespace Go.Proofs.Ytodoklnohedolaa
open Go.RowKit
set_option linter.unusedVariables false

variable {w w' : World} {S base B s P c : Nat} {K : ByteArray} {D : List Nat} {σ : DSto} {u : UG}
/-- a new store -/
def dstoN : DSto := ⟨none, 0, [], none, 0, [], 0, 0, 0⟩
theorem dstN_new (h : w.heap[S]? = some (.cells #[.slice none 0 0, .slice none 0 0, .int .i64 0, .int .i64 0, .int .i64 0] 50 (0, 0))) : DStAt w S base dstoN :=
  ⟨h, World.ownsRow_nil _ _ _ _, World.ownsRow_nil _ _ _ _, (fun o ho => by cases ho), (fun u hu => by cases hu), by decide, by decide⟩
/-- the uploads thrown away -/
theorem DStAt.noUps (h : DStAt w S base σ) : DStAt (w.setCell ⟨S, 1, none⟩ (.slice none 0 0)) S base { σ with ua := none, uc := 0, ups := [] } :=
  h.upsNew (World.grownBy.refl w _) (World.ownsRow_nil _ _ _ _) rfl (fun u hu => by cases hu) (by decide)
theorem RunS.noUps (h : RunS K D s P c σ) {ua : Option Addr} {uc : Nat} : RunS K D s P c { σ with ua := ua, uc := uc, ups := [] } :=
  ⟨h.obj, (fun u hu => by cases hu), h.one, h.ver, h.ids⟩
/-- the upload's turns leave the store alone -/
theorem DStAt.turns (h : DStAt w S base σ) (hS : base ≤ S) (hB : B < base) (ht : Turns B w w') : DStAt w' S base σ :=
  h.same fun b hb => ht.block b (h.lt hb) (by have := h.lo2 hS hb; omega)
/-- the store's calls leave the upload alone -/
theorem UAt.bel (h : UAt w B u) (hB : B < base) (hb : Below base w w') : UAt w' B u := (hb.block B hB).trans h
theorem bytes_bel {a : Option Addr} {n k : Nat} {xs : List Nat} (h : BytesAt w a n k xs) (ha : ∀ b off x, a = some ⟨b, off, x⟩ → b < base) (hb : Below base w w') : BytesAt w' a n k xs :=
  ⟨h.len, h.cap, h.byte, h.reach, h.capm, h.nl, fun hn => by
    obtain ⟨b, off, e, hlt, hc⟩ := h.cells hn
    have h1 := ha b off none e
    exact ⟨b, off, e, Nat.lt_of_lt_of_le hlt hb.size, fun i hi => (hb.cell (p := ⟨b, off + i, none⟩) h1).trans (hc i hi)⟩⟩
/-- what a get finds -/
theorem run_one (h : RunS K D s P c σ) {j : Nat} {o : DObj} (hj : σ.objs[j]? = some o) : σ.objs = [o] ∧ o.key = K ∧ o.data = D := by
  obtain ⟨hl, e⟩ := List.getElem?_eq_some_iff.1 hj
  have h1 := h.one
  have ho := h.obj o (List.mem_of_getElem? hj)
  refine ⟨?_, ho.1, ho.2.1⟩
  match hm : σ.objs, h1 with
  | [], _ => rw [hm] at hj; cases hj
  | [x], _ =>
    have j0 : j = 0 := by rw [hm] at hl; simpa using hl
    subst j0
    rw [hm] at hj
    cases hj
    rfl
/-- where the object of a run stands -/
theorem atK_one {o : DObj} (h : σ.objs = [o]) (hk : o.key = K) : atK σ.objs K = 0 := by
  unfold atK
  rw [h]
  simp [List.findIdx?_cons, hk]
/-- how long a run lasts -/
theorem run_calls {da : Option Addr} {dn dc T W n : Nat} {objs : List DObj} (h : RnU K da dn dc s P T W D n objs u) (hP : 1 ≤ P ∧ P ≤ 32) (hT : 1 ≤ T) : n ≤ 37 * T := by
  have h1 := h.calls
  have h2 := h.st
  have h3 := h.nx
  have h4 := h.ff
  unfold callsOk at h1
  obtain ⟨a0, a1, a2, a3, a4, a5⟩ := h1
  have hcs : u.st = 0 ∨ u.st = 1 ∨ u.st = 2 ∨ u.st = 3 ∨ u.st = 4 ∨ u.st = 5 := by omega
  rcases hcs with e | e | e | e | e | e
  · have := a0 e; omega
  · have := a1 e; have := h3.2.2 (by omega); omega
  · have := a2 e; omega
  · have := a3 e; omega
  · have := a4 e; omega
  · have := a5 e; omega
end Go.Proofs.Ytodoklnohedolaa
end PkUC5_7
section PkUC5_8
/- A part of a slice of bytes. -/
namespace Go.Proofs.Ytodoklnohedolaa
open Go.RowKit
set_option linter.unusedVariables false

theorem size_u8D2 (w : World) : (Go.sizeOf 5).run Try.prog w = .ok 1 w := by kernel_rfl
set_option maxRecDepth 100000 in
theorem slice_runD2 (a : Option Addr) (n c i m : Nat) (him : i + m ≤ c) (w : World) :
    (Instr.slice 28 (.slice a n c) (some (.int .i64 (i : Int))) (some (.int .i64 ((i : Int) + (m : Int)))) none).run Try.prog w = .ok (.slice (if c = i then a else a.map (·.add i)) m (c - i)) w := by
  have ht' : Try.prog.underlying 28 = some (.slice (Try.prog.elem 28)) := by simp [Program.elem, Try.underlying28]
  have he : Try.prog.elem 28 = 5 := by simp [Program.elem, Try.underlying28]
  rw [run_slice_lh w 28 _ _ _ ht' .i64 .i64 _ _ (by omega) (by omega) (by omega), he, size_u8D2]
  have e1 : ((i : Int) + (m : Int)).toNat = i + m := by omega
  simp only [Result.andThen, sliced, Int.toNat_natCast, e1, Nat.mul_one]
  congr 2
  omega
theorem BytesAt.subD2 {w : World} {b off n c : Nat} {xs : List Nat} (h : BytesAt w (some ⟨b, off, none⟩) n c xs) (i m : Nat) (him : i + m ≤ n) (hm : 0 < m) : BytesAt w (some ⟨b, off + i, none⟩) m (c - i) ((xs.drop i).take m) := by
  have hl := h.len
  have hc := h.cap
  have hr := h.reach
  have hcm := h.capm
  refine ⟨by simp; omega, by omega, fun x hx => h.byte x (List.mem_of_mem_drop (List.mem_of_mem_take hx)), by omega, by omega, (fun e => by cases e), fun _ => ?_⟩
  obtain ⟨b', off', ha, hlt, hcell⟩ := h.cells (by omega)
  cases ha
  refine ⟨b, off + i, rfl, hlt, fun k hk => ?_⟩
  rw [Nat.add_assoc, hcell (i + k) (by omega)]
  have e : ((xs.drop i).take m).getD k 0 = xs.getD (i + k) 0 := by
    simp [List.getD, hk]
  rw [e]
theorem BytesAt.subAnyD2 {w : World} {a : Option Addr} {n c : Nat} {xs : List Nat} (h : BytesAt w a n c xs) (i m : Nat) (him : i + m ≤ n) : BytesAt w (if c = i then a else a.map (·.add i)) m (c - i) ((xs.drop i).take m) := by
  have hc := h.cap
  have hcm := h.capm
  rcases Nat.eq_zero_or_pos m with h0 | hp
  · subst h0
    rw [List.take_zero]
    refine BytesAt.empty _ _ _ (by omega) (fun e => ?_)
    split at e
    · omega
    · have hn : a = none := by cases a with | none => rfl | some _ => simp at e
      have := h.nl hn
      omega
  · obtain ⟨b, off, rfl, _, _⟩ := h.cells (by omega)
    rw [if_neg (by omega)]
    have h4 : (⟨b, off, none⟩ : Addr).add i = ⟨b, off + i, none⟩ := by unfold Addr.add; split <;> simp_all
    simp only [Option.map_some, h4]
    exact h.subD2 i m him hp
end Go.Proofs.Ytodoklnohedolaa
end PkUC5_8
