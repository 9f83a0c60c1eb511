/- Texts put together by packtpl2.py: SdPrt, SdCom, SdV, SdX, Um, Uq, SdDoU. -/
import Derived.Test.YtodoklnohedolaaPkUC1
import Derived.Test.YtodoklnohedolaaPkUC3
import Derived.Deep.RegionLaw
import Derived.BigRegion
import Derived.Deep.QuietTactic
import Derived.BigQuiet
section PkUC4_0
/- The document's part, walked. Written by gensdprt.py. -/
namespace Go.Proofs.Ytodoklnohedolaa
open Go.RowKit
set_option linter.unusedVariables false

theorem PrtDP.no {w w' : World} {S base : Nat} {σ : DSto} {i : Nat} {u : DUpl} {nn : Int} {n : Nat} {xs : List Nat} {x : Int} (h : prtDE σ u nn n = x) (hx : x ≠ 0) (Z : DStAt w' S base σ ∧ Frm (DF S σ) w w') : PrtDP w S base σ i u nn n xs (.returned (rep0 x)) w' :=
  ⟨Z.2, fun _ => ⟨by rw [h], Z.1⟩, fun e => absurd (h.symm.trans e) hx⟩
theorem DStAt.tot {w : World} {S base : Nat} {σ : DSto} (h : DStAt w S base σ) : osum σ.objs + usum σ.ups ≤ 10000000000 := by
  have h1 := sum_bound (fun o : DObj => o.dn) (fun o ho => (h.obj o ho).small)
  have h2 : 262144 * σ.objs.length ≤ 262144 * 512 := Nat.mul_le_mul_left _ h.of
  have h3 := sum_bound (fun u : DUpl => psum u.parts) (B := 8388608) (l := σ.ups) (fun u hu => psum_le (h.upl u hu))
  have h4 : 8388608 * σ.ups.length ≤ 8388608 * 512 := Nat.mul_le_mul_left _ h.uf
  unfold osum usum
  omega
set_option maxRecDepth 100000 in
set_option maxHeartbeats 16000000 in
theorem dpart_any {w : World} {S base : Nat} {σ : DSto} (h : DStAt w S base σ) {i : Nat} {u : DUpl} (hu : σ.ups[i]? = some u) {ki vr at_ nn id : Int} {ky : ByteArray} {a : Option Addr} {n c : Nat} {xs : List Nat} (hx : BytesAt w a n c xs) (hbs : base ≤ w.heap.size) (hfew : 1 ≤ nn → nn ≤ 32 → (prtF u.parts nn).length < 32) :
    Calls Try.prog 47 #[.pointer (some ⟨S, 0, none⟩), .int .i64 (i : Int), .agg #[.int .i64 ki, .string ky, .slice a n c, .int .i64 vr, .int .i64 at_, .int .i64 nn, .int .i64 id]] w (PrtDP w S base σ i u nn n xs) := by
  have HE := Lib.hid (dent_mk h #[.int .i64 ki, .string ky, .slice a n c, .int .i64 vr, .int .i64 at_, .int .i64 nn, .int .i64 id])
  have HX := Lib.hid hx
  have hcap := hx.cap
  have hcm := hx.capm
  have HU := Lib.hid hu
  have HUP := Lib.hid (h.upl u (List.mem_of_getElem? hu))
  have HFEW := Lib.hid hfew
  have htot := h.tot
  have huf := h.uf
  have hSl : S < w.heap.size := (Array.getElem?_eq_some_iff.1 h.blk).1
  have hul : i < σ.ups.length := (List.getElem?_eq_some_iff.1 hu).1
  clear h hx hu hfew
  go_enter Try.func47, Try.ntmps47
  go_upto_region 1 with fail
  obtain ⟨W0, hW0⟩ : ∃ W0, W0 = (w.alloc (.cells #[.int .i64 ki, .string ky, .slice a n c, .int .i64 vr, .int .i64 at_, .int .i64 nn, .int .i64 id] 30)).alloc (.cells zrep 36) := ⟨_, rfl⟩
  rw [← hW0] at HE
  unfold zrep at hW0
  rw [← hW0]
  clear hW0
  have hz0 := HE.out.sz
  have hk0 : w.heap.size < W0.heap.size := by omega
  have hr0 : w.heap.size + 1 < W0.heap.size := by omega
  have hS0 : S < W0.heap.size := by omega
  have HZ0 := Lib.hid hz0
  clear hz0
  have HR0 := Lib.hid (Below.refl W0.heap.size W0)
  have k5 := cell_blkD HE.out.cb (i := 5) (u := .int .i64 nn) rfl
  have k2 := cell_blkD HE.out.cb (i := 2) (u := .slice a n c) rfl
  by_cases h1 : nn < 1
  case pos =>
    have HER := Lib.hid (show prtDE σ u nn n = 1 from by unfold prtDE; rw [if_pos (.inl h1)])
    go_wp2_with fail
    refine (dbad_any 1 W0).mono ?_
    rintro e wE ⟨rfl, hbE⟩
    unfold repA
    have hbe := HR0.out.trans (hbE.mono HR0.out.size)
    have hrb := (hbe.block (w.heap.size + 1) hr0).trans HE.out.rb
    obtain ⟨⟨q0, q1, q2, q3, q4, q5, q6⟩, r0, r1, r2, r3, r4, r5, r6⟩ := rb_cells hrb
    have HST := Lib.hid (HE.out.st.below hbe)
    have HFR := Lib.hid (show Frm (DF S σ) w wE from Frm.ofBelow (HE.out.bel.trans (hbe.mono HE.out.bel.size)))
    have HRB := Lib.hid hrb
    clear hbE hbe hrb
    go_wp2_with fail
    clear q0 q1 q2 q3 q4 q5 q6 r0 r1 r2 r3 r4 r5 r6
    obtain ⟨W5, hW5⟩ : ∃ W5, W5 = setR wE (w.heap.size + 1) (.int .i64 1) (.slice none 0 0) (.int .i64 0) (.int .i64 0) (.int .i64 0) (.slice none 0 0) (.bool false) := ⟨_, rfl⟩
    have hr5 := setR_at0 HRB.out (.int .i64 1) (.slice none 0 0) (.int .i64 0) (.int .i64 0) (.int .i64 0) (.slice none 0 0) (.bool false)
    have hF5 := (Frm.refl (fun b => b = w.heap.size + 1) wE).setR (R := w.heap.size + 1) (.inl rfl) (.int .i64 1) (.slice none 0 0) (.int .i64 0) (.int .i64 0) (.int .i64 0) (.slice none 0 0) (.bool false)
    rw [← hW5] at hr5 hF5
    unfold setR at hW5
    rw [← hW5]
    have hfin := put_done HST.out HRB.out (Nat.le_succ _) HFR.out hF5
    exact bodyPost_ret (ret_rep rfl _ _ (w.heap.size + 1) rfl hr5) rfl (PrtDP.no HER.out (by decide) hfin)
  have n1 : decide (nn < 1) = false := decide_eq_false h1
  by_cases h2 : 32 < nn
  case pos =>
    have HER := Lib.hid (show prtDE σ u nn n = 1 from by unfold prtDE; rw [if_pos (.inr h2)])
    go_wp2_with fail
    refine (dbad_any 1 W0).mono ?_
    rintro e wE ⟨rfl, hbE⟩
    unfold repA
    have hbe := HR0.out.trans (hbE.mono HR0.out.size)
    have hrb := (hbe.block (w.heap.size + 1) hr0).trans HE.out.rb
    obtain ⟨⟨q0, q1, q2, q3, q4, q5, q6⟩, r0, r1, r2, r3, r4, r5, r6⟩ := rb_cells hrb
    have HST := Lib.hid (HE.out.st.below hbe)
    have HFR := Lib.hid (show Frm (DF S σ) w wE from Frm.ofBelow (HE.out.bel.trans (hbe.mono HE.out.bel.size)))
    have HRB := Lib.hid hrb
    clear hbE hbe hrb
    go_wp2_with fail
    clear q0 q1 q2 q3 q4 q5 q6 r0 r1 r2 r3 r4 r5 r6
    obtain ⟨W5, hW5⟩ : ∃ W5, W5 = setR wE (w.heap.size + 1) (.int .i64 1) (.slice none 0 0) (.int .i64 0) (.int .i64 0) (.int .i64 0) (.slice none 0 0) (.bool false) := ⟨_, rfl⟩
    have hr5 := setR_at0 HRB.out (.int .i64 1) (.slice none 0 0) (.int .i64 0) (.int .i64 0) (.int .i64 0) (.slice none 0 0) (.bool false)
    have hF5 := (Frm.refl (fun b => b = w.heap.size + 1) wE).setR (R := w.heap.size + 1) (.inl rfl) (.int .i64 1) (.slice none 0 0) (.int .i64 0) (.int .i64 0) (.int .i64 0) (.slice none 0 0) (.bool false)
    rw [← hW5] at hr5 hF5
    unfold setR at hW5
    rw [← hW5]
    have hfin := put_done HST.out HRB.out (Nat.le_succ _) HFR.out hF5
    exact bodyPost_ret (ret_rep rfl _ _ (w.heap.size + 1) rfl hr5) rfl (PrtDP.no HER.out (by decide) hfin)
  have n2 : decide (32 < nn) = false := decide_eq_false h2
  have hnn : 1 ≤ nn ∧ nn ≤ 32 := by omega
  have HNN := Lib.hid (show ¬ (nn < 1 ∨ 32 < nn) from by omega)
  by_cases h3 : 262144 < n
  case pos =>
    have h3' : (262144 : Int) < (n : Int) := by omega
    have HER := Lib.hid (show prtDE σ u nn n = 5 from by unfold prtDE; rw [if_neg HNN.out, if_pos h3])
    go_wp2_with fail
    refine (dbad_any 5 W0).mono ?_
    rintro e wE ⟨rfl, hbE⟩
    unfold repA
    have hbe := HR0.out.trans (hbE.mono HR0.out.size)
    have hrb := (hbe.block (w.heap.size + 1) hr0).trans HE.out.rb
    obtain ⟨⟨q0, q1, q2, q3, q4, q5, q6⟩, r0, r1, r2, r3, r4, r5, r6⟩ := rb_cells hrb
    have HST := Lib.hid (HE.out.st.below hbe)
    have HFR := Lib.hid (show Frm (DF S σ) w wE from Frm.ofBelow (HE.out.bel.trans (hbe.mono HE.out.bel.size)))
    have HRB := Lib.hid hrb
    clear hbE hbe hrb
    go_wp2_with fail
    clear q0 q1 q2 q3 q4 q5 q6 r0 r1 r2 r3 r4 r5 r6
    obtain ⟨W5, hW5⟩ : ∃ W5, W5 = setR wE (w.heap.size + 1) (.int .i64 5) (.slice none 0 0) (.int .i64 0) (.int .i64 0) (.int .i64 0) (.slice none 0 0) (.bool false) := ⟨_, rfl⟩
    have hr5 := setR_at0 HRB.out (.int .i64 5) (.slice none 0 0) (.int .i64 0) (.int .i64 0) (.int .i64 0) (.slice none 0 0) (.bool false)
    have hF5 := (Frm.refl (fun b => b = w.heap.size + 1) wE).setR (R := w.heap.size + 1) (.inl rfl) (.int .i64 5) (.slice none 0 0) (.int .i64 0) (.int .i64 0) (.int .i64 0) (.slice none 0 0) (.bool false)
    rw [← hW5] at hr5 hF5
    unfold setR at hW5
    rw [← hW5]
    have hfin := put_done HST.out HRB.out (Nat.le_succ _) HFR.out hF5
    exact bodyPost_ret (ret_rep rfl _ _ (w.heap.size + 1) rfl hr5) rfl (PrtDP.no HER.out (by decide) hfin)
  have h3' : ¬ (262144 : Int) < (n : Int) := by omega
  have hfw := HFEW.out hnn.1 hnn.2
  have hn63 : n ≤ 262144 := by omega
  have HV0 := Lib.hid HE.out.st.ups
  obtain ⟨gb, off, hga, hgl, _, hgc⟩ := HV0.out.get hul
  have hgd : σ.ups.getD i DUplS.z = u := by rw [List.getD_eq_getElem?_getD, HU.out]; rfl
  rw [hgd] at hgc
  obtain ⟨uid, ub, uk, pa, pn, pc, parts⟩ := u
  have v0 : W0.cell? ⟨gb, off + i * 4, none⟩ = some (.int .i64 uid) := hgc 0 _ rfl
  have v1 : W0.cell? ⟨gb, off + i * 4 + 1, none⟩ = some (.int .i64 ub) := hgc 1 _ rfl
  have v2 : W0.cell? ⟨gb, off + i * 4 + 2, none⟩ = some (.string uk) := hgc 2 _ rfl
  have v3 : W0.cell? ⟨gb, off + i * 4 + 3, none⟩ = some (.slice pa pn pc) := hgc 3 _ rfl
  have c1 := cell_blkD HE.out.st.blk (i := 1) (u := .slice σ.ua σ.ups.length σ.uc) rfl
  rw [hga] at c1
  obtain ⟨m9, hm9⟩ : ∃ m9, m9 = σ.ups.length := ⟨_, rfl⟩
  obtain ⟨uc9, huc9⟩ : ∃ uc9, uc9 = σ.uc := ⟨_, rfl⟩
  rw [← hm9, ← huc9] at c1
  rw [← hm9] at hul huf
  have HM9 := Lib.hid (And.intro hm9 huc9)
  have zi : (i : Int) < (m9 : Int) := by omega
  have zi0 : (0 : Int) ≤ (i : Int) := by omega
  have hpn := HUP.out.few
  have hpl := HUP.out.len
  have HV := Lib.hid (show VecAt DPrtS W0 pa pn pc parts from (VecAt.ofOwn HUP.out.row hpl (fun _ _ => trivial)).kept HE.out.bel)
  have hpc := HV.out.cap
  have hpcm := HV.out.capm
  obtain ⟨b7, hb7⟩ : ∃ b7, b7 = W0.heap.size := ⟨_, rfl⟩
  obtain ⟨W7, hW7⟩ : ∃ W7, W7 = W0.alloc (.cells #[.int .i64 uid, .int .i64 ub, .string uk, .slice pa pn pc] 85) := ⟨_, rfl⟩
  have hB7 : Below W0.heap.size W0 W7 := by rw [hW7]; exact (Below.refl _ _).alloc (Nat.le_refl _) _
  have hK7 : W7.heap[b7]? = some (.cells #[.int .i64 uid, .int .i64 ub, .string uk, .slice pa pn pc] 85 (0, 0)) := by rw [hW7, hb7]; exact heap_alloc_newD W0 _
  have hz7 : W7.heap.size = W0.heap.size + 1 := by rw [hW7]; simp
  have HB7 := Lib.hid hB7
  have HK7 := Lib.hid hK7
  have HW7 := Lib.hid hW7
  have HBE7 := Lib.hid hb7
  have hbl7 : b7 < W7.heap.size := by omega
  have HZ7 := Lib.hid hz7
  clear hz7
  clear hm9 huc9 hgc hgd hga hgl hpl hW7 hB7 hK7 n1 n2
  go_upto_region 6 with fail
  rw [← HW7.out, ← HBE7.out]
  clear v0 v1 v2 v3 c1 k5 k2
  obtain ⟨b8, hb8⟩ : ∃ b8, b8 = W7.heap.size := ⟨_, rfl⟩
  obtain ⟨W8, hW8⟩ : ∃ W8, W8 = W7.alloc (.cells #[] 115) := ⟨_, rfl⟩
  have HB8 := Lib.hid (show Below W7.heap.size W7 W8 from by rw [hW8]; exact (Below.refl _ _).alloc (Nat.le_refl _) _)
  have HO8 := Lib.hid (show W8.ownsRow W7.heap.size 115 2 (.slice (some ⟨b8, 0, none⟩) 0 0) 0 (DPrtS.flat []) from by rw [hW8, hb8]; exact World.ownsRow_lit (base := W7.heap.size) (e := 115) (size := 2) W7 #[] 0 (Nat.le_refl _) (by unfold maxLen; omega) rfl)
  have d3 := cell_blkD (cells_of_below HB8.out HK7.out) (i := 3) (u := .slice pa pn pc) rfl
  have HW8 := Lib.hid hW8
  have HBE8 := Lib.hid hb8
  clear hW8 hb8 hb7
  go_upto_region 7 with fail
  rw [← HW8.out, ← HBE8.out]
  go_wp2_with fail
  clear d3
  go_loopw [8, 9, 37] (fun s8 s9 s37 wr => ∃ (j m had c8 : Nat) (a8 : Option Addr), j ≤ pn ∧ m ≤ j ∧ had ≤ 262144 ∧ s8 = .slice a8 m c8 ∧ s9 = .int .i64 (had : Int) ∧ s37 = .int .i64 (j : Int) ∧ Hid (m = (prtF (parts.take j) nn).length) ∧ Hid (had = hadP (parts.take j) nn) ∧ Hid (wr.ownsRow W7.heap.size 115 2 (.slice a8 m c8) m (DPrtS.flat (prtF (parts.take j) nn))) ∧ Hid (Below W7.heap.size W7 wr)) (fun _ _ s37 _ => pn - (intOf s37).toNat)
  case atStart => exact ⟨0, 0, 0, 0, _, by omega, by omega, by omega, rfl, rfl, rfl, Lib.hid rfl, Lib.hid rfl, HO8, HB8⟩
  case round =>
    clear HO8 HB8
    obtain ⟨j, m, had, c8, a8, hj, hmj, hhad, rfl, rfl, rfl, HM, HH, HO, HB⟩ := hrel
    rename World => wr
    by_cases hin : j < pn
    · obtain ⟨b, off2, rfl, _, _, hc⟩ := (HV.out.kept (HB7.out.trans (HB.out.mono HB7.out.size))).get hin
      have hgl := getD_some (d := DPrtS.z) (show j < parts.length by rw [HV.out.len]; exact hin)
      obtain ⟨x, hxx⟩ : ∃ x, x = parts.getD j DPrtS.z := ⟨_, rfl⟩
      rw [← hxx] at hc hgl
      have hsm := (HUP.out.prt x (List.mem_of_getElem? hgl)).small
      have HFS := Lib.hid (prtF_succ (nn := nn) hgl)
      have HHS := Lib.hid (hadP_succ (nn := nn) hgl)
      obtain ⟨xn, xa, xd, xc, xxs⟩ := x
      have k0 : wr.cell? ⟨b, off2 + j * 2, none⟩ = some (.int .i64 xn) := hc 0 _ rfl
      have k1 : wr.cell? ⟨b, off2 + j * 2 + 1, none⟩ = some (.slice xa xd xc) := hc 1 _ rfl
      have hxd : xd ≤ 262144 := hsm
      obtain ⟨bx, hbx⟩ : ∃ bx, bx = wr.heap.size := ⟨_, rfl⟩
      obtain ⟨W3, hW3⟩ : ∃ W3, W3 = wr.alloc (.cells #[.int .i64 xn, .slice xa xd xc] 115) := ⟨_, rfl⟩
      have hb3 : Below wr.heap.size wr W3 := by rw [hW3]; exact (Below.refl _ _).alloc (Nat.le_refl _) _
      have hk3 : W3.heap[bx]? = some (.cells #[.int .i64 xn, .slice xa xd xc] 115 (0, 0)) := by rw [hW3, hbx]; exact heap_alloc_newD wr _
      have d0 := cell_blkD hk3 (i := 0) (u := .int .i64 xn) rfl
      have d1 := cell_blkD hk3 (i := 1) (u := .slice xa xd xc) rfl
      have hb37 := HB.out.trans (hb3.mono HB.out.size)
      have k5 := cell_blkD (cells_of_below (HB7.out.trans (hb37.mono HB7.out.size)) HE.out.cb) (i := 5) (u := .int .i64 nn) rfl
      have HB3 := Lib.hid hb37
      have HO3 := Lib.hid (own_below HO.out hb3)
      have HW3 := Lib.hid hW3
      have HBX := Lib.hid hbx
      have zj : (j : Int) < (pn : Int) := by omega
      have zj0 : (0 : Int) ≤ (j : Int) := by omega
      have wj : IntKind.i64.wrap ((j : Int) + 1) = (j : Int) + 1 := IntWalk.i64_in _ (by omega)
      clear hc hxx hgl hsm hbx hW3 hb3 hk3 HB hb37 HO
      go_upto_region 11 with fail
      rw [← HW3.out, ← HBX.out]
      clear k0 k1
      by_cases e : xn = nn
      · have e' : nn = xn := e.symm
        have HF2 := Lib.hid (show prtF (parts.take (j + 1)) nn = prtF (parts.take j) nn from by rw [HFS.out, if_pos e])
        have HH2 := Lib.hid (show xd = hadP (parts.take (j + 1)) nn from by rw [HHS.out, if_pos e])
        clear HFS HHS
        subst e'
        go_wp2_with fail
        go_roundw
        case rel => exact ⟨j + 1, m, xd, c8, a8, by omega, by omega, by omega, rfl, rfl, by push_cast; rfl, Lib.hid (by rw [HF2.out]; exact HM.out), HH2, Lib.hid (by rw [HF2.out]; exact HO3.out), HB3⟩
        case measure => simp only [intOf]; omega
      · have e2 : (xn == nn) = false := by simpa using e
        have HF2 := Lib.hid (show prtF (parts.take (j + 1)) nn = prtF (parts.take j) nn ++ [⟨xn, xa, xd, xc, xxs⟩] from by rw [HFS.out, if_neg e])
        have HH2 := Lib.hid (show had = hadP (parts.take (j + 1)) nn from by rw [HHS.out, if_neg e]; exact HH.out)
        have hb4 : Below W3.heap.size W3 (W3.alloc (.cells #[.int .i64 xn, .slice xa xd xc] 115)) := (Below.refl _ _).alloc (Nat.le_refl _) _
        have HO4 := Lib.hid (own_below HO3.out hb4)
        have HB4 := Lib.hid (HB3.out.trans (hb4.mono HB3.out.size))
        have HV4 := Lib.hid (vec_oneS DPrtS W3 (⟨xn, xa, xd, xc, xxs⟩ : DPrt) (fun _ => trivial) 115 (cs := #[.int .i64 xn, .slice xa xd xc]) rfl)
        clear hb4
        go_wp2_with (at_builtin; refine wpList_append_dpr rfl (.tmp 49) (.tmp 51) rfl W7.heap.size _ _ (prtF (parts.take j) nn) rfl HO4.out _ _ _ [(⟨xn, xa, xd, xc, xxs⟩ : DPrt)] rfl HV4.out (by omega) HB4.out.size ?_)
        intro v5 w5 ho5 hg5
        have HB5 := Lib.hid (HB4.out.grown hg5 HB4.out.size (fun k hk => (HO4.out.lt k hk).1))
        obtain ⟨a5, c5, rfl⟩ := own_sliceD ho5
        have HO5 := Lib.hid ho5
        clear ho5 hg5 HO4 HB4 HV4 d0 d1 k5
        go_wp2_with fail
        go_roundw
        case rel => exact ⟨j + 1, m + 1, had, c5, a5, by omega, by omega, by omega, rfl, rfl, by push_cast; rfl, Lib.hid (by rw [HF2.out, List.length_append, ← HM.out]; rfl), HH2, Lib.hid (by rw [HF2.out]; exact HO5.out), HB5⟩
        case measure => simp only [intOf]; omega
    · have hjn : j = pn := by omega
      have htk : parts.take j = parts := by rw [hjn]; exact List.take_of_length_le (by rw [HV.out.len]; exact Nat.le_refl _)
      rw [htk] at HM HH HO
      have hm32 : m < 32 := by rw [HM.out]; exact hfw
      have hB0 := HB7.out.trans (HB.out.mono HB7.out.size)
      obtain ⟨T, hT⟩ : ∃ T, T = osum σ.objs + usum σ.ups := ⟨_, rfl⟩
      have HSZ := Lib.hid (dsize_any ((HE.out.st.below hB0).same (w' := wr.drew) (fun _ _ => rfl)))
      rw [← hT] at HSZ htot
      have HTT := Lib.hid hT
      have k2 := cell_blkD (cells_of_below hB0 HE.out.cb) (i := 2) (u := .slice a n c) rfl
      have wt1 : IntKind.i64.wrap ((T : Int) - (had : Int)) = (T : Int) - (had : Int) := IntWalk.i64_in _ (by omega)
      have wt2 : IntKind.i64.wrap ((T : Int) - (had : Int) + (n : Int)) = (T : Int) - (had : Int) + (n : Int) := IntWalk.i64_in _ (by omega)
      have HBZ := Lib.hid hB0
      have zjn : ¬ (j : Int) < (pn : Int) := by omega
      clear hT hB0 htk
      go_upto_region 15 with fail
      go_region_law (go_simp; go_at_call 43; refine HSZ.out.mono ?_; rintro e wA ⟨rfl, hbA⟩; have HBA := Lib.hid (show Below wr.heap.size wr wA from ((Below.refl wr.heap.size wr).drew).trans hbA); have k2A := cell_blkD (cells_of_below HBA.out (cells_of_below HBZ.out HE.out.cb)) (i := 2) (u := .slice a n c) rfl; clear hbA)
      all_goals
        clear k2
        have HBA0 := Lib.hid (HBZ.out.trans (HBA.out.mono HBZ.out.size))
        have HBA7 := Lib.hid (HB.out.trans (HBA.out.mono HB.out.size))
        have HOA := Lib.hid (own_below HO.out HBA.out)
        by_cases hful : (4194304 : Int) < (T : Int) - (had : Int) + (n : Int)
        case pos =>
          have HER := Lib.hid (show prtDE σ ⟨uid, ub, uk, pa, pn, pc, parts⟩ nn n = 9 from by unfold prtDE; rw [if_neg HNN.out, if_neg h3, ← HTT.out, ← HH.out, if_pos hful])
          go_wp2_with fail
          refine (dbad_any 9 wA).mono ?_
          rintro e wE ⟨rfl, hbE⟩
          unfold repA
          have hbe := HBA0.out.trans (hbE.mono HBA0.out.size)
          have hrb := (hbe.block (w.heap.size + 1) hr0).trans HE.out.rb
          obtain ⟨⟨q0, q1, q2, q3, q4, q5, q6⟩, r0, r1, r2, r3, r4, r5, r6⟩ := rb_cells hrb
          have HST := Lib.hid (HE.out.st.below hbe)
          have HFR := Lib.hid (show Frm (DF S σ) w wE from Frm.ofBelow (HE.out.bel.trans (hbe.mono HE.out.bel.size)))
          have HRB := Lib.hid hrb
          clear hbE hbe hrb
          go_wp2_with fail
          clear q0 q1 q2 q3 q4 q5 q6 r0 r1 r2 r3 r4 r5 r6
          obtain ⟨W5, hW5⟩ : ∃ W5, W5 = setR wE (w.heap.size + 1) (.int .i64 9) (.slice none 0 0) (.int .i64 0) (.int .i64 0) (.int .i64 0) (.slice none 0 0) (.bool false) := ⟨_, rfl⟩
          have hr5 := setR_at0 HRB.out (.int .i64 9) (.slice none 0 0) (.int .i64 0) (.int .i64 0) (.int .i64 0) (.slice none 0 0) (.bool false)
          have hF5 := (Frm.refl (fun b => b = w.heap.size + 1) wE).setR (R := w.heap.size + 1) (.inl rfl) (.int .i64 9) (.slice none 0 0) (.int .i64 0) (.int .i64 0) (.int .i64 0) (.slice none 0 0) (.bool false)
          rw [← hW5] at hr5 hF5
          unfold setR at hW5
          rw [← hW5]
          have hfin := put_done HST.out HRB.out (Nat.le_succ _) HFR.out hF5
          exact bodyPost_ret (ret_rep rfl _ _ (w.heap.size + 1) rfl hr5) rfl (PrtDP.no HER.out (by decide) hfin)
        case neg =>
          have HER := Lib.hid (show prtDE σ ⟨uid, ub, uk, pa, pn, pc, parts⟩ nn n = 0 from by unfold prtDE; rw [if_neg HNN.out, if_neg h3, ← HTT.out, ← HH.out, if_neg hful])
          go_upto_region 17 with fail
          clear k2A wt1 wt2
          have HTW := Lib.hid (twin_any ((HX.out.kept (HE.out.bel.trans (HBA0.out.mono HE.out.bel.size))).kept ((Below.refl wA.heap.size wA).drew)))
          have k5A := cell_blkD (cells_of_below HBA0.out HE.out.cb) (i := 5) (u := .int .i64 nn) rfl
          have k2A := cell_blkD (cells_of_below HBA0.out HE.out.cb) (i := 2) (u := .slice a n c) rfl
          go_region_law (first
            | (go_simp; go_at_call 45; refine HTW.out.mono ?_; rintro e wB ⟨vB, rfl, hoB, _, hbB⟩; obtain ⟨ta, tc, rfl⟩ := own_sliceD hoB; have HBB := Lib.hid (show Below wA.heap.size wA wB from ((Below.refl wA.heap.size wA).drew).trans hbB); have HOB := Lib.hid (show wB.ownsRow wA.heap.size 5 1 (.slice ta n tc) n (bv xs) from hoB); have hbC : Below wB.heap.size wB (wB.alloc (.cells #[.int .i64 nn, .slice ta n tc] 115)) := (Below.refl _ _).alloc (Nat.le_refl _) _; have HOB2 := Lib.hid (own_below HOB.out hbC); have HPC := Lib.hid (own_below (own_below HOA.out HBB.out) hbC); have HB7B := Lib.hid (HBA7.out.trans (HBB.out.mono HBA7.out.size)); have HBC := Lib.hid (HB7B.out.trans (hbC.mono HB7B.out.size)); have HVC := Lib.hid (vec_oneS DPrtS wB (⟨nn, ta, n, tc, xs⟩ : DPrt) (fun _ => trivial) 115 (cs := #[.int .i64 nn, .slice ta n tc]) rfl); have k5B := cell_blkD (cells_of_below HBB.out (cells_of_below HBA0.out HE.out.cb)) (i := 5) (u := .int .i64 nn) rfl; clear hoB hbB hbC)
            | (refine step_append_dpr (by simp [Region.wanted]) (.tmp 64) (.tmp 71) rfl W7.heap.size (.slice a8 m c8) m (prtF parts nn) (by rfl) HPC.out _ 1 1 [(⟨nn, ta, n, tc, xs⟩ : DPrt)] (by rfl) HVC.out (by omega) HBC.out.size ?_; intro vD wD hoD hgD; obtain ⟨aD, cD, rfl⟩ := own_sliceD hoD; have HBD := Lib.hid (HBC.out.grown hgD HBC.out.size (fun k hk => (HPC.out.lt k hk).1)); have HOD := Lib.hid hoD; have HTD := Lib.hid (HOB2.out.kept hgD (own_ne2 HOB2.out HPC.out (by decide))); have hk9 := cells_of_below HBD.out HK7.out; have y3 := cell_blkD hk9 (i := 3) (u := .slice pa pn pc) rfl; have fy3 := frz_blkD hk9 3; have HKD := Lib.hid hk9; clear hoD hgD hk9))
          all_goals
            clear y3 fy3 k2A k5A k5B
            obtain ⟨wE, hWE⟩ : ∃ wE, wE = wD.setCell ⟨b7, 3, none⟩ (.slice aD (m + 1) cD) := ⟨_, rfl⟩
            have HBD0 := Lib.hid (HB7.out.trans (HBD.out.mono HB7.out.size))
            have HBE := Lib.hid (show Below W0.heap.size W0 wE from by rw [hWE]; exact HBD0.out.setCell (p := ⟨b7, 3, none⟩) (Nat.le_of_eq HBE7.out.symm) _)
            have hkE : wE.heap[b7]? = some (.cells #[.int .i64 uid, .int .i64 ub, .string uk, .slice aD (m + 1) cD] 85 (0, 0)) := by
              rw [hWE, heap_setCell_same wD b7 3 _ _ _ HKD.out]; rfl
            have HKE := Lib.hid hkE
            have HFE := Lib.hid (show Frm (fun b => b = b7 ∨ b = S) wD wE from by rw [hWE]; exact (Frm.refl (fun b => b = b7 ∨ b = S) wD).set (.inl (.inl rfl)) _ _)
            have HWE := Lib.hid hWE
            have HSE := Lib.hid (HE.out.st.below HBE.out)
            have HB5 := Lib.hid (show Below wE.heap.size wE (wE.alloc (.cells #[] 85)) from (Below.refl _ _).alloc (Nat.le_refl _) _)
            have HO5 := Lib.hid (show (wE.alloc (.cells #[] 85)).ownsRow wE.heap.size 85 4 (.slice (some ⟨wE.heap.size, 0, none⟩) 0 0) 0 (DUplS.flat []) from World.ownsRow_lit (base := wE.heap.size) (e := 85) (size := 4) wE #[] 0 (Nat.le_refl _) (by unfold maxLen; omega) rfl)
            have HV5 := Lib.hid (HSE.out.below HB5.out).ups
            have e1 := cell_blkD (HSE.out.below HB5.out).blk (i := 1) (u := .slice σ.ua σ.ups.length σ.uc) rfl
            have huf9 : σ.ups.length ≤ 512 := by have := HM9.out.1; omega
            have hul9 : i < σ.ups.length := by have := HM9.out.1; omega
            clear hWE hkE
            go_upto_region 18 with fail
            rw [← HWE.out]
            go_wp2_with (at_builtin; refine wpList_append_dup rfl (.tmp 75) (.tmp 79) rfl wE.heap.size _ _ [] rfl HO5.out _ _ _ σ.ups rfl HV5.out (by omega) HB5.out.size ?_)
            intro v9 w9 ho9 hg9
            have HB9 := Lib.hid (HB5.out.grown hg9 HB5.out.size (fun k hk => (HO5.out.lt k hk).1))
            obtain ⟨a9, c9, rfl⟩ := own_sliceD ho9
            try rw [Nat.zero_add] at ho9
            try rw [Nat.zero_add]
            try rw [List.nil_append] at ho9
            have HS9 := Lib.hid (HSE.out.below HB9.out)
            have e2 := cell_blkD HS9.out.blk (i := 1) (u := .slice σ.ua σ.ups.length σ.uc) rfl
            have f2 := frz_blkD HS9.out.blk 1
            have hbE : base ≤ wE.heap.size := Nat.le_trans hbs (Nat.le_trans HE.out.bel.size HBE.out.size)
            have hDST := HS9.out.upsLaid (a := a9) (c := c9) (N := σ.ups.length) (us := σ.ups) (own_baseD ho9 hbE) rfl (fun u hu => HS9.out.upl u hu) HS9.out.uf
            obtain ⟨w18, hW18⟩ : ∃ w18, w18 = w9.setCell ⟨S, 1, none⟩ (.slice a9 σ.ups.length c9) := ⟨_, rfl⟩
            rw [← hW18] at hDST
            obtain ⟨g, cur, hga, hgb, hgk, hcs⟩ := hDST.urow_parts (Nat.lt_of_le_of_lt (Nat.zero_le _) hul9)
            have hga' : a9 = some ⟨g, 0, none⟩ := hga
            subst hga'
            have hgE := (own_blk_lt ho9 (b := g) rfl).1
            have HF18 := Lib.hid (show Frm (fun b => b = b7 ∨ b = S) wD w18 from by rw [hW18]; exact (HFE.out.below HB9.out).set (.inl (.inr rfl)) _ _)
            have HFW := Lib.hid (show Frm (DF S σ) w w18 from by rw [hW18]; exact ((Frm.ofBelow (HE.out.bel.trans (HBE.out.mono HE.out.bel.size))).below HB9.out).set (.inl (.inl rfl)) _ _)
            have HS18 := Lib.hid (show Frm (fun b => b = S) w9 w18 from by rw [hW18]; exact (Frm.refl (fun b => b = S) w9).set (.inl rfl) _ _)
            have HK18 := Lib.hid (HS18.out.at (cells_of_below HB9.out HKE.out) (fun e => by have h1 := HKE.out; rw [e, HSE.out.blk] at h1; simp at h1))
            have HR18 := Lib.hid (HS18.out.at (cells_of_below HB9.out (cells_of_below HBE.out HE.out.rb)) (fun e => by have h1 := HE.out.rb; rw [e, HE.out.st.blk] at h1; simp at h1))
            have HDST := Lib.hid hDST
            have HGK := Lib.hid hgk
            have HW18 := Lib.hid hW18
            clear ho9 hg9 HO5 HB5 HV5 e1 hW18 hga hcs
            go_upto_region 19 with fail
            rw [← HW18.out]
            clear e2 f2
            have c1 := cell_blkD HDST.out.blk (i := 1) (u := .slice (some ⟨g, 0, none⟩) σ.ups.length c9) rfl
            have x0 := cell_blkD HK18.out (i := 0) (u := .int .i64 uid) rfl
            have x1 := cell_blkD HK18.out (i := 1) (u := .int .i64 ub) rfl
            have x2 := cell_blkD HK18.out (i := 2) (u := .string uk) rfl
            have x3 := cell_blkD HK18.out (i := 3) (u := .slice aD (m + 1) cD) rfl
            have y0 := frz_blkD hgk (i * 4)
            have y1 := frz_blkD hgk (i * 4 + 1)
            have y2 := frz_blkD hgk (i * 4 + 2)
            have y3 := frz_blkD hgk (i * 4 + 3)
            obtain ⟨⟨q0, z0⟩, ⟨q1, z1⟩, ⟨q2, z2⟩, ⟨qa, qd, qc, z3⟩⟩ := HDST.out.upl_cells (g := g) rfl hul9
            have zi9 : (i : Int) < (σ.ups.length : Int) := by omega
            clear hDST hgk
            go_region
            obtain ⟨WN, hWN⟩ : ∃ WN, WN = ((((w18.setCell ⟨g, i * 4, none⟩ (.int .i64 uid)).setCell ⟨g, i * 4 + 1, none⟩ (.int .i64 ub)).setCell ⟨g, i * 4 + 2, none⟩ (.string uk)).setCell ⟨g, i * 4 + 3, none⟩ (.slice aD (m + 1) cD)).drew := ⟨_, rfl⟩
            rw [← hWN]
            have hnot : ∀ {b : Nat} {cs : Array Value} {t : TypeId}, wD.heap[b]? = some (.cells cs t (0, 0)) → t ≠ 85 → t ≠ 50 → ¬ (b = b7 ∨ b = S) := fun {b cs t} hb h1 h2 e => by
              rcases e with rfl | rfl
              · rw [HKD.out] at hb; simp at hb; exact h1 hb.2.symm
              · rw [(HE.out.st.below HBD0.out).blk] at hb; simp at hb; exact h2 hb.2.symm
            have hkeep : ∀ {n c N k base' : Nat} {e : TypeId} {a : Option Addr} {xs : List Value}, wD.ownsRow base' e k (.slice a n c) N xs → e ≠ 85 → e ≠ 50 → w18.ownsRow base' e k (.slice a n c) N xs := fun {n c N k base' e a xs} hx h1 h2 => own_same hx fun b hb => by
              obtain ⟨cu, g2⟩ := own_blk_ty hx hb
              exact HF18.out.block b (own_blk_lt hx hb).2 (hnot g2 h1 h2)
            have hUok : UplOk w18 base ⟨uid, ub, uk, aD, m + 1, cD, prtF parts nn ++ [⟨nn, ta, n, tc, xs⟩]⟩ := by
              refine ⟨own_baseD (hkeep HOD.out (by decide) (by decide)) (Nat.le_trans hbs (Nat.le_trans HE.out.bel.size HB7.out.size)), ?_, hm32, fun p hp => ?_⟩
              · show (prtF parts nn ++ [_]).length = m + 1
                rw [List.length_append, ← HM.out]; rfl
              · rcases List.mem_append.1 hp with g3 | g3
                · exact (HDST.out.upl _ (List.mem_of_getElem? HU.out)).prt p (List.mem_filter.1 g3).1
                · rw [List.mem_singleton.1 g3]
                  exact ⟨own_baseD (hkeep HTD.out (by decide) (by decide)) (Nat.le_trans hbs (Nat.le_trans HE.out.bel.size HBA0.out.size)), HX.out.byte, HX.out.len, hn63⟩
            have HSTN := Lib.hid (HDST.out.uplInPlace (w' := WN) (g := g) rfl HGK.out hul9 hUok (by rw [hWN]; rfl))
            have hFg : ∀ {F : Nat → Prop} {a : World}, Frm F a w18 → (F g ∨ a.heap.size ≤ g) → Frm F a WN := fun {F a} h0 hp => by rw [hWN]; exact ((((h0.set hp _ _).set hp _ _).set hp _ _).set hp _ _).drew
            have HFN := Lib.hid (hFg HFW.out (.inr (Nat.le_trans HE.out.bel.size (Nat.le_trans HBE.out.size hgE))))
            have HSN := Lib.hid (hFg (Frm.refl (fun b => b = g) w18) (.inl rfl))
            have HRBN := Lib.hid (HSN.out.at HR18.out (fun e => by have := HBE.out.size; omega))
            clear hnot hkeep hUok hFg hWN c1 x0 x1 x2 x3 y0 y1 y2 y3 z0 z1 z2 z3
            obtain ⟨⟨q0', q1', q2', q3', q4', q5', q6'⟩, r0, r1, r2, r3, r4, r5, r6⟩ := rb_cells HRBN.out
            go_wp2_with fail
            clear q0' q1' q2' q3' q4' q5' q6' r0 r1 r2 r3 r4 r5 r6
            obtain ⟨W5, hW5⟩ : ∃ W5, W5 = setR WN (w.heap.size + 1) (.int .i64 0) (.slice none 0 0) (.int .i64 0) (.int .i64 0) (.int .i64 0) (.slice none 0 0) (.bool false) := ⟨_, rfl⟩
            have hr5 := setR_at0 HRBN.out (.int .i64 0) (.slice none 0 0) (.int .i64 0) (.int .i64 0) (.int .i64 0) (.slice none 0 0) (.bool false)
            have hF5 := (Frm.refl (fun b => b = w.heap.size + 1) WN).setR (R := w.heap.size + 1) (.inl rfl) (.int .i64 0) (.slice none 0 0) (.int .i64 0) (.int .i64 0) (.int .i64 0) (.slice none 0 0) (.bool false)
            rw [← hW5] at hr5 hF5
            unfold setR at hW5
            rw [← hW5]
            have hfin := put_done HSTN.out HRBN.out (Nat.le_succ _) HFN.out hF5
            exact bodyPost_ret (ret_rep rfl _ _ (w.heap.size + 1) rfl hr5) rfl ⟨hfin.2, fun e => absurd HER.out e, fun _ => ⟨rfl, _, _, _, _, _, _, _, hfin.1, fun b hb => Nat.le_trans (Nat.le_trans HE.out.bel.size HBA0.out.size) (own_blk_lt HTD.out hb).1⟩⟩
end Go.Proofs.Ytodoklnohedolaa
end PkUC4_0
section PkUC4_1
/- The document's complete, walked. Written by gensdcom.py. -/
namespace Go.Proofs.Ytodoklnohedolaa
open Go.RowKit
set_option linter.unusedVariables false

set_option maxRecDepth 100000 in
set_option maxHeartbeats 16000000 in
theorem dcom_any {w : World} {S base : Nat} {σ : DSto} (h : DStAt w S base σ) {i : Nat} {u : DUpl} (hu : σ.ups[i]? = some u) {ki vr at_ nn id : Int} {ky : ByteArray} {a : Option Addr} {n c : Nat} (hbs : base ≤ w.heap.size) (hver : 0 ≤ σ.ver ∧ σ.ver ≤ 1000000000) :
    Calls Try.prog 48 #[.pointer (some ⟨S, 0, none⟩), .int .i64 (i : Int), .agg #[.int .i64 ki, .string ky, .slice a n c, .int .i64 vr, .int .i64 at_, .int .i64 nn, .int .i64 id]] w (ComDP w S base σ i u nn) := by
  have HE := Lib.hid (dent_mk h #[.int .i64 ki, .string ky, .slice a n c, .int .i64 vr, .int .i64 at_, .int .i64 nn, .int .i64 id])
  have HU := Lib.hid hu
  have HUP := Lib.hid (h.upl u (List.mem_of_getElem? hu))
  have huf := h.uf
  have hSl : S < w.heap.size := (Array.getElem?_eq_some_iff.1 h.blk).1
  have hul : i < σ.ups.length := (List.getElem?_eq_some_iff.1 hu).1
  clear h hu
  go_enter Try.func48, Try.ntmps48
  go_upto_region 1 with fail
  obtain ⟨W0, hW0⟩ : ∃ W0, W0 = (w.alloc (.cells #[.int .i64 ki, .string ky, .slice a n c, .int .i64 vr, .int .i64 at_, .int .i64 nn, .int .i64 id] 30)).alloc (.cells zrep 36) := ⟨_, rfl⟩
  rw [← hW0] at HE
  unfold zrep at hW0
  rw [← hW0]
  clear hW0
  have hz0 := HE.out.sz
  have hk0 : w.heap.size < W0.heap.size := by omega
  have hr0 : w.heap.size + 1 < W0.heap.size := by omega
  have hS0 : S < W0.heap.size := by omega
  have HZ0 := Lib.hid hz0
  clear hz0
  have HV0 := Lib.hid HE.out.st.ups
  obtain ⟨gb, off, hga, hgl, _, hgc⟩ := HV0.out.get hul
  have hgd : σ.ups.getD i DUplS.z = u := by rw [List.getD_eq_getElem?_getD, HU.out]; rfl
  rw [hgd] at hgc
  obtain ⟨uid, ub, uk, pa, pn, pc, parts⟩ := u
  have v0 : W0.cell? ⟨gb, off + i * 4, none⟩ = some (.int .i64 uid) := hgc 0 _ rfl
  have v1 : W0.cell? ⟨gb, off + i * 4 + 1, none⟩ = some (.int .i64 ub) := hgc 1 _ rfl
  have v2 : W0.cell? ⟨gb, off + i * 4 + 2, none⟩ = some (.string uk) := hgc 2 _ rfl
  have v3 : W0.cell? ⟨gb, off + i * 4 + 3, none⟩ = some (.slice pa pn pc) := hgc 3 _ rfl
  have c1 := cell_blkD HE.out.st.blk (i := 1) (u := .slice σ.ua σ.ups.length σ.uc) rfl
  rw [hga] at c1
  obtain ⟨m9, hm9⟩ : ∃ m9, m9 = σ.ups.length := ⟨_, rfl⟩
  obtain ⟨uc9, huc9⟩ : ∃ uc9, uc9 = σ.uc := ⟨_, rfl⟩
  rw [← hm9, ← huc9] at c1
  have HUL := Lib.hid hul
  rw [← hm9] at hul huf
  have HM9 := Lib.hid (And.intro hm9 huc9)
  have zi : (i : Int) < (m9 : Int) := by omega
  have zi0 : (0 : Int) ≤ (i : Int) := by omega
  have hpn := HUP.out.few
  have hpl := HUP.out.len
  have HPL := Lib.hid (show parts.length = pn from hpl)
  have HV := Lib.hid (show VecAt DPrtS W0 pa pn pc parts from (VecAt.ofOwn HUP.out.row hpl (fun _ _ => trivial)).kept HE.out.bel)
  have hpc := HV.out.cap
  have hpcm := HV.out.capm
  obtain ⟨b7, hb7⟩ : ∃ b7, b7 = W0.heap.size := ⟨_, rfl⟩
  obtain ⟨W7, hW7⟩ : ∃ W7, W7 = W0.alloc (.cells #[.int .i64 uid, .int .i64 ub, .string uk, .slice pa pn pc] 85) := ⟨_, rfl⟩
  have hB7 : Below W0.heap.size W0 W7 := by rw [hW7]; exact (Below.refl _ _).alloc (Nat.le_refl _) _
  have hK7 : W7.heap[b7]? = some (.cells #[.int .i64 uid, .int .i64 ub, .string uk, .slice pa pn pc] 85 (0, 0)) := by rw [hW7, hb7]; exact heap_alloc_newD W0 _
  have HB7 := Lib.hid hB7
  have HK7 := Lib.hid hK7
  have HW7 := Lib.hid hW7
  have HBE7 := Lib.hid hb7
  clear hm9 huc9 hgc hgd hga hgl hpl hW7 hB7 hK7
  go_upto_region 2 with fail
  rw [← HW7.out, ← HBE7.out]
  clear v0 v1 v2 v3 c1 hb7
  have k5 := cell_blkD (cells_of_below HB7.out HE.out.cb) (i := 5) (u := .int .i64 nn) rfl
  have d3 := cell_blkD HK7.out (i := 3) (u := .slice pa pn pc) rfl
  by_cases h1 : nn < 1
  case pos =>
    have HER := Lib.hid (show comDE σ ⟨uid, ub, uk, pa, pn, pc, parts⟩ nn = 4 from by unfold comDE; rw [if_pos (.inl h1)])
    go_wp2_with fail
    refine (dbad_any 4 W7).mono ?_
    rintro e wE ⟨rfl, hbE⟩
    unfold repA
    have hbe := HB7.out.trans (hbE.mono HB7.out.size)
    have hrb := (hbe.block (w.heap.size + 1) hr0).trans HE.out.rb
    obtain ⟨⟨q0, q1, q2, q3, q4, q5, q6⟩, r0, r1, r2, r3, r4, r5, r6⟩ := rb_cells hrb
    have HST := Lib.hid (HE.out.st.below hbe)
    have HFR := Lib.hid (show Frm (DF S σ) w wE from Frm.ofBelow (HE.out.bel.trans (hbe.mono HE.out.bel.size)))
    have HRB := Lib.hid hrb
    clear hbE hbe hrb
    go_wp2_with fail
    clear q0 q1 q2 q3 q4 q5 q6 r0 r1 r2 r3 r4 r5 r6
    obtain ⟨W5, hW5⟩ : ∃ W5, W5 = setR wE (w.heap.size + 1) (.int .i64 4) (.slice none 0 0) (.int .i64 0) (.int .i64 0) (.int .i64 0) (.slice none 0 0) (.bool false) := ⟨_, rfl⟩
    have hr5 := setR_at0 HRB.out (.int .i64 4) (.slice none 0 0) (.int .i64 0) (.int .i64 0) (.int .i64 0) (.slice none 0 0) (.bool false)
    have hF5 := (Frm.refl (fun b => b = w.heap.size + 1) wE).setR (R := w.heap.size + 1) (.inl rfl) (.int .i64 4) (.slice none 0 0) (.int .i64 0) (.int .i64 0) (.int .i64 0) (.slice none 0 0) (.bool false)
    rw [← hW5] at hr5 hF5
    unfold setR at hW5
    rw [← hW5]
    have hfin := put_done HST.out HRB.out (Nat.le_succ _) HFR.out hF5
    exact bodyPost_ret (ret_rep rfl _ _ (w.heap.size + 1) rfl hr5) rfl (ComDP.no HER.out (by decide) hfin)
  by_cases h2 : nn = (pn : Int)
  case neg =>
    have HNE := Lib.hid (show nn < 1 ∨ nn ≠ (parts.length : Int) from .inr (by rw [HPL.out]; exact h2))
    have HER := Lib.hid (show comDE σ ⟨uid, ub, uk, pa, pn, pc, parts⟩ nn = 4 from by unfold comDE; rw [if_pos HNE.out])
    go_wp2_with fail
    refine (dbad_any 4 W7).mono ?_
    rintro e wE ⟨rfl, hbE⟩
    unfold repA
    have hbe := HB7.out.trans (hbE.mono HB7.out.size)
    have hrb := (hbe.block (w.heap.size + 1) hr0).trans HE.out.rb
    obtain ⟨⟨q0, q1, q2, q3, q4, q5, q6⟩, r0, r1, r2, r3, r4, r5, r6⟩ := rb_cells hrb
    have HST := Lib.hid (HE.out.st.below hbe)
    have HFR := Lib.hid (show Frm (DF S σ) w wE from Frm.ofBelow (HE.out.bel.trans (hbe.mono HE.out.bel.size)))
    have HRB := Lib.hid hrb
    clear hbE hbe hrb
    go_wp2_with fail
    clear q0 q1 q2 q3 q4 q5 q6 r0 r1 r2 r3 r4 r5 r6
    obtain ⟨W5, hW5⟩ : ∃ W5, W5 = setR wE (w.heap.size + 1) (.int .i64 4) (.slice none 0 0) (.int .i64 0) (.int .i64 0) (.int .i64 0) (.slice none 0 0) (.bool false) := ⟨_, rfl⟩
    have hr5 := setR_at0 HRB.out (.int .i64 4) (.slice none 0 0) (.int .i64 0) (.int .i64 0) (.int .i64 0) (.slice none 0 0) (.bool false)
    have hF5 := (Frm.refl (fun b => b = w.heap.size + 1) wE).setR (R := w.heap.size + 1) (.inl rfl) (.int .i64 4) (.slice none 0 0) (.int .i64 0) (.int .i64 0) (.int .i64 0) (.slice none 0 0) (.bool false)
    rw [← hW5] at hr5 hF5
    unfold setR at hW5
    rw [← hW5]
    have hfin := put_done HST.out HRB.out (Nat.le_succ _) HFR.out hF5
    exact bodyPost_ret (ret_rep rfl _ _ (w.heap.size + 1) rfl hr5) rfl (ComDP.no HER.out (by decide) hfin)
  subst h2
  have HOK := Lib.hid (show ¬ ((pn : Int) < 1 ∨ (pn : Int) ≠ (parts.length : Int)) from by rw [HPL.out]; omega)
  have hpn1 : 1 ≤ pn := by omega
  obtain ⟨b8, hb8⟩ : ∃ b8, b8 = W7.heap.size := ⟨_, rfl⟩
  obtain ⟨W8, hW8⟩ : ∃ W8, W8 = W7.alloc (.cells #[] 5) := ⟨_, rfl⟩
  have HB8 := Lib.hid (show Below W7.heap.size W7 W8 from by rw [hW8]; exact (Below.refl _ _).alloc (Nat.le_refl _) _)
  have HO8 := Lib.hid (show W8.ownsRow W7.heap.size 5 1 (.slice (some ⟨b8, 0, none⟩) 0 0) 0 (bv []) from by rw [hW8, hb8]; exact World.ownsRow_lit (base := W7.heap.size) (e := 5) (size := 1) W7 #[] 0 (Nat.le_refl _) (by unfold maxLen; omega) rfl)
  have HW8 := Lib.hid hW8
  have HBE8 := Lib.hid hb8
  clear hW8 hb8
  go_upto_region 5 with fail
  rw [← HW8.out, ← HBE8.out]
  clear k5 d3
  go_wp2_with fail
  go_loopw [8, 9] (fun s8 s9 wr => ∃ (q L c8 : Nat) (a8 : Option Addr) (d : List Nat), q ≤ pn ∧ L ≤ q * 8388608 ∧ s8 = .slice a8 L c8 ∧ s9 = .int .i64 ((q : Int) + 1) ∧ Hid (catD parts q = some d) ∧ Hid (d.length = L) ∧ Hid (∀ x ∈ d, x < 256) ∧ Hid (wr.ownsRow W7.heap.size 5 1 (.slice a8 L c8) L (bv d)) ∧ Hid (Below W7.heap.size W7 wr)) (fun _ s9 _ => pn + 1 - (intOf s9).toNat)
  case atStart => exact ⟨0, 0, 0, _, [], by omega, by omega, rfl, by rfl, Lib.hid rfl, Lib.hid rfl, Lib.hid (fun x hx => by cases hx), HO8, HB8⟩
  case round =>
    clear HO8 HB8
    obtain ⟨q, L, c8, a8, d, hq, hL, rfl, rfl, HC, HDL, HDB, HO, HB⟩ := hrel
    rename World => wr
    have k5 := cell_blkD (cells_of_below HB.out (cells_of_below HB7.out HE.out.cb)) (i := 5) (u := .int .i64 (pn : Int)) rfl
    have d3 := cell_blkD (cells_of_below HB.out HK7.out) (i := 3) (u := .slice pa pn pc) rfl
    by_cases hqn : q < pn
    · have zq : ((q : Int) + 1) ≤ (pn : Int) := by omega
      have wq : IntKind.i64.wrap ((q : Int) + 1 + 1) = (q : Int) + 1 + 1 := IntWalk.i64_in _ (by omega)
      go_wp2_with fail
      clear k5 d3
      go_loopw [8, 10, 42] (fun s8 s10 s42 wq => ∃ (j L2 c2 : Nat) (a2 : Option Addr) (d2 : List Nat) (th : Bool), j ≤ pn ∧ L2 ≤ L + j * 262144 ∧ s8 = .slice a2 L2 c2 ∧ s10 = .bool th ∧ s42 = .int .i64 (j : Int) ∧ Hid (d2 = d ++ matchD (parts.take j) ((q : Int) + 1)) ∧ Hid (th = hasP (parts.take j) ((q : Int) + 1)) ∧ Hid (d2.length = L2) ∧ Hid (∀ x ∈ d2, x < 256) ∧ Hid (wq.ownsRow W7.heap.size 5 1 (.slice a2 L2 c2) L2 (bv d2)) ∧ Hid (Below W7.heap.size W7 wq)) (fun _ _ s42 _ => pn - (intOf s42).toNat)
      case atStart => exact ⟨0, L, c8, a8, d, false, by omega, by omega, rfl, rfl, by rfl, Lib.hid (by rw [List.take_zero]; exact (List.append_nil d).symm), Lib.hid rfl, HDL, HDB, HO, HB⟩
      case round =>
        clear HO HB
        obtain ⟨j, L2, c2, a2, d2, th, hj, hL2, rfl, rfl, rfl, HD2, HTH, HL2, HB2, HO, HB⟩ := hrel
        rename World => wv
        by_cases hin : j < pn
        · obtain ⟨b, off2, rfl, _, _, hc⟩ := (HV.out.kept (HB7.out.trans (HB.out.mono HB7.out.size))).get hin
          have hgl := getD_some (d := DPrtS.z) (show j < parts.length by rw [HV.out.len]; exact hin)
          obtain ⟨x, hxx⟩ : ∃ x, x = parts.getD j DPrtS.z := ⟨_, rfl⟩
          rw [← hxx] at hc hgl
          have hpo := HUP.out.prt x (List.mem_of_getElem? hgl)
          have hsm := hpo.small
          have HFS := Lib.hid (matchD_succ (n := (q : Int) + 1) hgl)
          have HHS := Lib.hid (hasP_succ (n := (q : Int) + 1) hgl)
          have HXB := Lib.hid hpo.bytes
          obtain ⟨xn, xa, xd, xc, xxs⟩ := x
          have k0 : wv.cell? ⟨b, off2 + j * 2, none⟩ = some (.int .i64 xn) := hc 0 _ rfl
          have k1 : wv.cell? ⟨b, off2 + j * 2 + 1, none⟩ = some (.slice xa xd xc) := hc 1 _ rfl
          have hxd : xd ≤ 262144 := hsm
          have HL3 := Lib.hid (show L2 ≤ L + (j + 1) * 262144 ∧ L2 + xd ≤ L + (j + 1) * 262144 from by omega)
          obtain ⟨bx, hbx⟩ : ∃ bx, bx = wv.heap.size := ⟨_, rfl⟩
          obtain ⟨W3, hW3⟩ : ∃ W3, W3 = wv.alloc (.cells #[.int .i64 xn, .slice xa xd xc] 115) := ⟨_, rfl⟩
          have hb3 : Below wv.heap.size wv W3 := by rw [hW3]; exact (Below.refl _ _).alloc (Nat.le_refl _) _
          have hk3 : W3.heap[bx]? = some (.cells #[.int .i64 xn, .slice xa xd xc] 115 (0, 0)) := by rw [hW3, hbx]; exact heap_alloc_newD wv _
          have d0 := cell_blkD hk3 (i := 0) (u := .int .i64 xn) rfl
          have d1 := cell_blkD hk3 (i := 1) (u := .slice xa xd xc) rfl
          have hb37 := HB.out.trans (hb3.mono HB.out.size)
          have HB3 := Lib.hid hb37
          have HO3 := Lib.hid (own_below HO.out hb3)
          have HXB3 := Lib.hid (HXB.out.kept (HE.out.bel.trans ((HB7.out.trans (hb37.mono HB7.out.size)).mono HE.out.bel.size)))
          have HW3 := Lib.hid hW3
          have HBX := Lib.hid hbx
          have zj : (j : Int) < (pn : Int) := by omega
          have zj0 : (0 : Int) ≤ (j : Int) := by omega
          have wj : IntKind.i64.wrap ((j : Int) + 1) = (j : Int) + 1 := IntWalk.i64_in _ (by omega)
          clear hc hxx hgl hpo hsm hbx hW3 hb3 hk3 HB hb37 HO HXB
          go_upto_region 12 with fail
          rw [← HW3.out, ← HBX.out]
          clear k0 k1
          by_cases e : xn = (q : Int) + 1
          · have HF2 := Lib.hid (show d2 ++ xxs = d ++ matchD (parts.take (j + 1)) ((q : Int) + 1) from by rw [HFS.out, if_pos e, ← List.append_assoc, ← HD2.out])
            have HH2 := Lib.hid (show true = hasP (parts.take (j + 1)) ((q : Int) + 1) from by rw [HHS.out, decide_eq_true e, Bool.or_true])
            clear HFS HHS
            subst e
            go_wp2_with (at_builtin; refine wpList_append_bytes rfl (.tmp 50) (.tmp 52) rfl W7.heap.size _ _ d2 rfl HO3.out _ _ _ xxs rfl HXB3.out (by omega) HB3.out.size ?_)
            intro v5 w5 ho5 hg5
            have HB5 := Lib.hid (HB3.out.grown hg5 HB3.out.size (fun k hk => (HO3.out.lt k hk).1))
            obtain ⟨a5, c5, rfl⟩ := own_sliceD ho5
            have HO5 := Lib.hid ho5
            have HBY := Lib.hid (show ∀ x ∈ d2 ++ xxs, x < 256 from fun x hx => (List.mem_append.1 hx).elim (HB2.out x) (HXB3.out.byte x))
            have HLN := Lib.hid (show (d2 ++ xxs).length = L2 + xd from by rw [List.length_append, HL2.out, HXB3.out.len])
            clear ho5 hg5 HO3 d0 d1
            go_wp2_with fail
            go_roundw
            case rel => exact ⟨j + 1, L2 + xd, c5, a5, d2 ++ xxs, true, by omega, HL3.out.2, by first | rfl | (push_cast; rfl), rfl, by push_cast; rfl, HF2, HH2, HLN, HBY, HO5, HB5⟩
            case measure => simp only [intOf]; omega
          · have HF2 := Lib.hid (show d2 = d ++ matchD (parts.take (j + 1)) ((q : Int) + 1) from by rw [HFS.out, if_neg e, List.append_nil]; exact HD2.out)
            have HH2 := Lib.hid (show th = hasP (parts.take (j + 1)) ((q : Int) + 1) from by rw [HHS.out, decide_eq_false e, Bool.or_false]; exact HTH.out)
            have e2 : (xn == (q : Int) + 1) = false := by simpa using e
            go_wp2_with fail
            go_roundw
            case rel => exact ⟨j + 1, L2, c2, a2, d2, th, hin, HL3.out.1, rfl, rfl, by push_cast; rfl, HF2, HH2, HL2, HB2, HO3, HB3⟩
            case measure => simp only [intOf]; omega
        · have hjn : j = pn := by omega
          have htk : parts.take j = parts := by rw [hjn]; exact List.take_of_length_le (by rw [HV.out.len]; exact Nat.le_refl _)
          rw [htk] at HD2 HTH
          have zjn : ¬ (j : Int) < (pn : Int) := by omega
          have eq1 : ((q + 1 : Nat) : Int) = (q : Int) + 1 := by push_cast; rfl
          have HBW := Lib.hid (HB7.out.trans (HB.out.mono HB7.out.size))
          cases th with
          | true =>
            have HC2 := Lib.hid (show catD parts (q + 1) = some d2 from by
              have h9 := catD_yes HC.out (by rw [eq1]; exact HTH.out.symm)
              rw [eq1, ← HD2.out] at h9
              exact h9)
            clear htk eq1
            go_wp2_with fail
            go_roundw
            case rel => exact ⟨q + 1, L2, c2, a2, d2, by omega, by omega, rfl, by push_cast; rfl, HC2, HL2, HB2, HO, HB⟩
            case measure => simp only [intOf]; omega
          | false =>
            have HNO := Lib.hid (catD_no (l := parts) (k := q) (by rw [eq1]; exact HTH.out.symm) pn hqn)
            clear htk eq1
            have HER := Lib.hid (show comDE σ ⟨uid, ub, uk, pa, pn, pc, parts⟩ (pn : Int) = 4 from by unfold comDE; rw [if_neg HOK.out, show ((pn : Int)).toNat = pn from Int.toNat_natCast _]; show (match catD parts pn with | none => (4 : Int) | some d => _) = 4; rw [HNO.out])
            go_wp2_with fail
            refine (dbad_any 4 wv).mono ?_
            rintro e wE ⟨rfl, hbE⟩
            unfold repA
            have hbe := HBW.out.trans (hbE.mono HBW.out.size)
            have hrb := (hbe.block (w.heap.size + 1) hr0).trans HE.out.rb
            obtain ⟨⟨q0, q1, q2, q3, q4, q5, q6⟩, r0, r1, r2, r3, r4, r5, r6⟩ := rb_cells hrb
            have HST := Lib.hid (HE.out.st.below hbe)
            have HFR := Lib.hid (show Frm (DF S σ) w wE from Frm.ofBelow (HE.out.bel.trans (hbe.mono HE.out.bel.size)))
            have HRB := Lib.hid hrb
            clear hbE hbe hrb
            go_wp2_with fail
            clear q0 q1 q2 q3 q4 q5 q6 r0 r1 r2 r3 r4 r5 r6
            obtain ⟨W5, hW5⟩ : ∃ W5, W5 = setR wE (w.heap.size + 1) (.int .i64 4) (.slice none 0 0) (.int .i64 0) (.int .i64 0) (.int .i64 0) (.slice none 0 0) (.bool false) := ⟨_, rfl⟩
            have hr5 := setR_at0 HRB.out (.int .i64 4) (.slice none 0 0) (.int .i64 0) (.int .i64 0) (.int .i64 0) (.slice none 0 0) (.bool false)
            have hF5 := (Frm.refl (fun b => b = w.heap.size + 1) wE).setR (R := w.heap.size + 1) (.inl rfl) (.int .i64 4) (.slice none 0 0) (.int .i64 0) (.int .i64 0) (.int .i64 0) (.slice none 0 0) (.bool false)
            rw [← hW5] at hr5 hF5
            unfold setR at hW5
            rw [← hW5]
            have hfin := put_done HST.out HRB.out (Nat.le_succ _) HFR.out hF5
            exact bodyPost_ret (ret_rep rfl _ _ (w.heap.size + 1) rfl hr5) rfl (ComDP.no HER.out (by decide) hfin)
    · have hqe : q = pn := by omega
      rw [hqe] at HC
      have zq : ¬ ((q : Int) + 1) ≤ (pn : Int) := by omega
      have HCN := Lib.hid (show catD parts ((pn : Int)).toNat = some d from by rw [Int.toNat_natCast]; exact HC.out)
      have HBW := Lib.hid (HB7.out.trans (HB.out.mono HB7.out.size))
      clear d3
      by_cases hlen : 262144 < L
      case pos =>
        have hlen' : (262144 : Int) < (L : Int) := by omega
        have HER := Lib.hid (show comDE σ ⟨uid, ub, uk, pa, pn, pc, parts⟩ (pn : Int) = 5 from by unfold comDE; rw [if_neg HOK.out]; show (match catD parts ((pn : Int)).toNat with | none => (4 : Int) | some d => _) = 5; rw [HCN.out]; show (if 262144 < d.length then (5 : Int) else _) = 5; rw [if_pos (by rw [HDL.out]; exact hlen)])
        go_wp2_with fail
        refine (dbad_any 5 wr).mono ?_
        rintro e wE ⟨rfl, hbE⟩
        unfold repA
        have hbe := HBW.out.trans (hbE.mono HBW.out.size)
        have hrb := (hbe.block (w.heap.size + 1) hr0).trans HE.out.rb
        obtain ⟨⟨q0, q1, q2, q3, q4, q5, q6⟩, r0, r1, r2, r3, r4, r5, r6⟩ := rb_cells hrb
        have HST := Lib.hid (HE.out.st.below hbe)
        have HFR := Lib.hid (show Frm (DF S σ) w wE from Frm.ofBelow (HE.out.bel.trans (hbe.mono HE.out.bel.size)))
        have HRB := Lib.hid hrb
        clear hbE hbe hrb
        go_wp2_with fail
        clear q0 q1 q2 q3 q4 q5 q6 r0 r1 r2 r3 r4 r5 r6
        obtain ⟨W5, hW5⟩ : ∃ W5, W5 = setR wE (w.heap.size + 1) (.int .i64 5) (.slice none 0 0) (.int .i64 0) (.int .i64 0) (.int .i64 0) (.slice none 0 0) (.bool false) := ⟨_, rfl⟩
        have hr5 := setR_at0 HRB.out (.int .i64 5) (.slice none 0 0) (.int .i64 0) (.int .i64 0) (.int .i64 0) (.slice none 0 0) (.bool false)
        have hF5 := (Frm.refl (fun b => b = w.heap.size + 1) wE).setR (R := w.heap.size + 1) (.inl rfl) (.int .i64 5) (.slice none 0 0) (.int .i64 0) (.int .i64 0) (.int .i64 0) (.slice none 0 0) (.bool false)
        rw [← hW5] at hr5 hF5
        unfold setR at hW5
        rw [← hW5]
        have hfin := put_done HST.out HRB.out (Nat.le_succ _) HFR.out hF5
        exact bodyPost_ret (ret_rep rfl _ _ (w.heap.size + 1) rfl hr5) rfl (ComDP.no HER.out (by decide) hfin)
      have hlen' : ¬ (262144 : Int) < (L : Int) := by omega
      have HSW := Lib.hid (HE.out.st.below HBW.out)
      have HAT := Lib.hid (dat_any HSW.out uk)
      have d2 := cell_blkD (cells_of_below HB.out HK7.out) (i := 2) (u := .string uk) rfl
      have c0 := cell_blkD HSW.out.blk (i := 0) (u := .slice σ.oa σ.objs.length σ.oc) rfl
      have HCD := Lib.hid (show ∀ z : Int, (if atK σ.objs uk = -1 ∧ 512 ≤ σ.objs.length then (9 : Int) else 0) = z → comDE σ ⟨uid, ub, uk, pa, pn, pc, parts⟩ (pn : Int) = z from fun z hz => by
        unfold comDE
        rw [if_neg HOK.out]
        show (match catD parts ((pn : Int)).toNat with | none => (4 : Int) | some d => _) = z
        rw [HCN.out]
        show (if 262144 < d.length then (5 : Int) else _) = z
        rw [if_neg (by rw [HDL.out]; exact hlen)]
        exact hz)
      go_upto_region 20 with fail
      rcases atK_neg (l := σ.objs) (k := uk) with ⟨hk1, hk2⟩ | ⟨jo, hk1, hk2⟩
      · by_cases hfl : 512 ≤ σ.objs.length
        case pos =>
          have hfl' : (512 : Int) ≤ (σ.objs.length : Int) := by omega
          have HE9 := Lib.hid (HCD.out 9 (if_pos ⟨hk1, hfl⟩))
          go_wp2_with fail
          refine HAT.out.mono ?_
          rintro e wy ⟨rfl, rfl⟩
          rw [hk1]
          have HER := HE9
          go_wp2_with fail
          refine (dbad_any 9 wy).mono ?_
          rintro e wE ⟨rfl, hbE⟩
          unfold repA
          have hbe := HBW.out.trans (hbE.mono HBW.out.size)
          have hrb := (hbe.block (w.heap.size + 1) hr0).trans HE.out.rb
          obtain ⟨⟨q0, q1, q2, q3, q4, q5, q6⟩, r0, r1, r2, r3, r4, r5, r6⟩ := rb_cells hrb
          have HST := Lib.hid (HE.out.st.below hbe)
          have HFR := Lib.hid (show Frm (DF S σ) w wE from Frm.ofBelow (HE.out.bel.trans (hbe.mono HE.out.bel.size)))
          have HRB := Lib.hid hrb
          clear hbE hbe hrb
          go_wp2_with fail
          clear q0 q1 q2 q3 q4 q5 q6 r0 r1 r2 r3 r4 r5 r6
          obtain ⟨W5, hW5⟩ : ∃ W5, W5 = setR wE (w.heap.size + 1) (.int .i64 9) (.slice none 0 0) (.int .i64 0) (.int .i64 0) (.int .i64 0) (.slice none 0 0) (.bool false) := ⟨_, rfl⟩
          have hr5 := setR_at0 HRB.out (.int .i64 9) (.slice none 0 0) (.int .i64 0) (.int .i64 0) (.int .i64 0) (.slice none 0 0) (.bool false)
          have hF5 := (Frm.refl (fun b => b = w.heap.size + 1) wE).setR (R := w.heap.size + 1) (.inl rfl) (.int .i64 9) (.slice none 0 0) (.int .i64 0) (.int .i64 0) (.int .i64 0) (.slice none 0 0) (.bool false)
          rw [← hW5] at hr5 hF5
          unfold setR at hW5
          rw [← hW5]
          have hfin := put_done HST.out HRB.out (Nat.le_succ _) HFR.out hF5
          exact bodyPost_ret (ret_rep rfl _ _ (w.heap.size + 1) rfl hr5) rfl (ComDP.no HER.out (by decide) hfin)
        case neg =>
          have hfl' : ¬ (512 : Int) ≤ (σ.objs.length : Int) := by omega
          have HE0 := Lib.hid (HCD.out 0 (if_neg (fun g => hfl g.2)))
          have HNW := Lib.hid (show atK σ.objs uk = -1 → σ.objs.length < 512 from fun _ => by omega)
          go_wp2_with fail
          refine HAT.out.mono ?_
          rintro e wy ⟨rfl, rfl⟩
          rw [hk1]
          go_upto_region 22 with fail
          clear d2 c0 k5
          have HDR := Lib.hid (ddrop_any HSW.out HUL.out (Nat.le_trans hbs (Nat.le_trans HE.out.bel.size HBW.out.size)))
          go_wp2_with fail
          refine HDR.out.mono ?_
          rintro e wd ⟨rfl, ⟨ua', uc', hdst⟩, hgd⟩
          have HDST := Lib.hid hdst
          have hgdk : ∀ {b : Nat} {cs : Array Value} {t : TypeId}, wy.heap[b]? = some (.cells cs t (0, 0)) → t ≠ 50 → wd.heap[b]? = some (.cells cs t (0, 0)) := fun {b cs t} hb ht => (hgd.block b (Array.getElem?_eq_some_iff.1 hb).1 (fun e => by
            have e1 : b = S := Option.some.inj e
            rw [e1, HSW.out.blk] at hb
            simp at hb
            exact ht hb.2.symm)).trans hb
          have hkd := hgdk (cells_of_below HB.out HK7.out) (by decide)
          have hrd := hgdk (cells_of_below HBW.out HE.out.rb) (by decide)
          obtain ⟨a9, c9, e9, hbd, _⟩ := BytesAt.ofOwn (HO.out.kept hgd (by
            cases hv : (Value.slice a8 L c8).ownBlock with
            | none => exact .inl rfl
            | some b =>
              refine .inr fun e => ?_
              have e1 : b = S := Option.some.inj e
              obtain ⟨cu, g2⟩ := own_blk_ty HO.out (b := b) (by
                cases a8 with
                | none => cases hv
                | some x => exact hv)
              rw [e1, HSW.out.blk] at g2
              simp at g2)) HDB.out (by omega)
          obtain ⟨ea, _, ec⟩ := Value.slice.inj e9
          rw [← ea, ← ec] at hbd
          have d2 := cell_blkD hkd (i := 2) (u := .string uk) rfl
          have hbsd : base ≤ wd.heap.size := Nat.le_trans hbs (Nat.le_trans HE.out.bel.size (Nat.le_trans HBW.out.size hgd.size))
          have HPT := Lib.hid (dput_any hdst uk hbd hver hbsd (by omega) HNW.out)
          have HFD := Lib.hid (show Frm (DF S σ) w wd from ⟨hgd.os.trans (HE.out.bel.trans (HBW.out.mono HE.out.bel.size)).os, hgd.tape.trans (HE.out.bel.trans (HBW.out.mono HE.out.bel.size)).tape, hgd.output.trans (HE.out.bel.trans (HBW.out.mono HE.out.bel.size)).output, Nat.le_trans (HE.out.bel.trans (HBW.out.mono HE.out.bel.size)).size hgd.size, fun b hb hf => (hgd.block b (Nat.lt_of_lt_of_le hb (HE.out.bel.trans (HBW.out.mono HE.out.bel.size)).size) (fun e => hf (.inl (Option.some.inj e)))).trans ((HE.out.bel.trans (HBW.out.mono HE.out.bel.size)).block b hb)⟩)
          have HRD := Lib.hid hrd
          clear hdst hgd hgdk hkd hrd e9 ea ec hbd
          go_wp2_with fail
          refine HPT.out.mono ?_
          rintro e wp ⟨rfl, oa', oc', da', dc', hst, hfr, hfb⟩
          have HST := Lib.hid hst
          have HFR := Lib.hid (show Frm (DF S σ) w wp from HFD.out.trans hfr (fun b hb => .inl (by
            rcases hb with g | g
            · exact .inl g
            · exact .inr (.inl g))))
          have hrb : wp.heap[w.heap.size + 1]? = some (.cells zrep 36 (0, 0)) := hfr.at HRD.out (fun hb => by
            have h8 : DF S { σ with ua := ua', uc := uc', ups := outK σ.ups i } (w.heap.size + 1) := by
              rcases hb with g | g
              · exact .inl g
              · exact .inr (.inl g)
            obtain ⟨cs', t', g, gt⟩ := HDST.out.ty h8
            rw [HRD.out] at g
            simp at g
            exact rep_notD (g.2 ▸ gt))
          have HRB := Lib.hid hrb
          obtain ⟨⟨q0, q1, q2, q3, q4, q5, q6⟩, r0, r1, r2, r3, r4, r5, r6⟩ := rb_cells hrb
          clear hst hfr hrb d2
          unfold rep
          go_wp2_with fail
          clear q0 q1 q2 q3 q4 q5 q6 r0 r1 r2 r3 r4 r5 r6
          obtain ⟨W5, hW5⟩ : ∃ W5, W5 = setR wp (w.heap.size + 1) (.int .i64 0) (.slice none 0 0) (.int .i64 (σ.ver + 1)) (.int .i64 σ.now) (.int .i64 0) (.slice none 0 0) (.bool false) := ⟨_, rfl⟩
          have hr5 := setR_at0 HRB.out (.int .i64 0) (.slice none 0 0) (.int .i64 (σ.ver + 1)) (.int .i64 σ.now) (.int .i64 0) (.slice none 0 0) (.bool false)
          have hF5 := (Frm.refl (fun b => b = w.heap.size + 1) wp).setR (R := w.heap.size + 1) (.inl rfl) (.int .i64 0) (.slice none 0 0) (.int .i64 (σ.ver + 1)) (.int .i64 σ.now) (.int .i64 0) (.slice none 0 0) (.bool false)
          rw [← hW5] at hr5 hF5
          unfold setR at hW5
          rw [← hW5]
          have hfin := put_done HST.out HRB.out (Nat.le_succ _) HFR.out hF5
          exact bodyPost_ret (ret_rep rfl _ _ (w.heap.size + 1) rfl hr5) rfl ⟨hfin.2, fun e => absurd HE0.out e, fun _ => ⟨d, HCN.out, rfl, ua', uc', oa', oc', da', dc', by rw [HDL.out]; exact hfin.1, fun b hb => Nat.le_trans HFD.out.size (hfb b hb)⟩⟩
      · have HE0 := Lib.hid (HCD.out 0 (if_neg (fun g => by rw [hk1] at g; have := g.1; omega)))
        have HNW := Lib.hid (show atK σ.objs uk = -1 → σ.objs.length < 512 from fun g => by rw [hk1] at g; omega)
        have zjo : ¬ (jo : Int) < 0 := by omega
        go_wp2_with fail
        refine HAT.out.mono ?_
        rintro e wy ⟨rfl, rfl⟩
        rw [hk1]
        go_upto_region 22 with fail
        clear d2 c0 k5
        have HDR := Lib.hid (ddrop_any HSW.out HUL.out (Nat.le_trans hbs (Nat.le_trans HE.out.bel.size HBW.out.size)))
        go_wp2_with fail
        refine HDR.out.mono ?_
        rintro e wd ⟨rfl, ⟨ua', uc', hdst⟩, hgd⟩
        have HDST := Lib.hid hdst
        have hgdk : ∀ {b : Nat} {cs : Array Value} {t : TypeId}, wy.heap[b]? = some (.cells cs t (0, 0)) → t ≠ 50 → wd.heap[b]? = some (.cells cs t (0, 0)) := fun {b cs t} hb ht => (hgd.block b (Array.getElem?_eq_some_iff.1 hb).1 (fun e => by
          have e1 : b = S := Option.some.inj e
          rw [e1, HSW.out.blk] at hb
          simp at hb
          exact ht hb.2.symm)).trans hb
        have hkd := hgdk (cells_of_below HB.out HK7.out) (by decide)
        have hrd := hgdk (cells_of_below HBW.out HE.out.rb) (by decide)
        obtain ⟨a9, c9, e9, hbd, _⟩ := BytesAt.ofOwn (HO.out.kept hgd (by
          cases hv : (Value.slice a8 L c8).ownBlock with
          | none => exact .inl rfl
          | some b =>
            refine .inr fun e => ?_
            have e1 : b = S := Option.some.inj e
            obtain ⟨cu, g2⟩ := own_blk_ty HO.out (b := b) (by
              cases a8 with
              | none => cases hv
              | some x => exact hv)
            rw [e1, HSW.out.blk] at g2
            simp at g2)) HDB.out (by omega)
        obtain ⟨ea, _, ec⟩ := Value.slice.inj e9
        rw [← ea, ← ec] at hbd
        have d2 := cell_blkD hkd (i := 2) (u := .string uk) rfl
        have hbsd : base ≤ wd.heap.size := Nat.le_trans hbs (Nat.le_trans HE.out.bel.size (Nat.le_trans HBW.out.size hgd.size))
        have HPT := Lib.hid (dput_any hdst uk hbd hver hbsd (by omega) HNW.out)
        have HFD := Lib.hid (show Frm (DF S σ) w wd from ⟨hgd.os.trans (HE.out.bel.trans (HBW.out.mono HE.out.bel.size)).os, hgd.tape.trans (HE.out.bel.trans (HBW.out.mono HE.out.bel.size)).tape, hgd.output.trans (HE.out.bel.trans (HBW.out.mono HE.out.bel.size)).output, Nat.le_trans (HE.out.bel.trans (HBW.out.mono HE.out.bel.size)).size hgd.size, fun b hb hf => (hgd.block b (Nat.lt_of_lt_of_le hb (HE.out.bel.trans (HBW.out.mono HE.out.bel.size)).size) (fun e => hf (.inl (Option.some.inj e)))).trans ((HE.out.bel.trans (HBW.out.mono HE.out.bel.size)).block b hb)⟩)
        have HRD := Lib.hid hrd
        clear hdst hgd hgdk hkd hrd e9 ea ec hbd
        go_wp2_with fail
        refine HPT.out.mono ?_
        rintro e wp ⟨rfl, oa', oc', da', dc', hst, hfr, hfb⟩
        have HST := Lib.hid hst
        have HFR := Lib.hid (show Frm (DF S σ) w wp from HFD.out.trans hfr (fun b hb => .inl (by
          rcases hb with g | g
          · exact .inl g
          · exact .inr (.inl g))))
        have hrb : wp.heap[w.heap.size + 1]? = some (.cells zrep 36 (0, 0)) := hfr.at HRD.out (fun hb => by
          have h8 : DF S { σ with ua := ua', uc := uc', ups := outK σ.ups i } (w.heap.size + 1) := by
            rcases hb with g | g
            · exact .inl g
            · exact .inr (.inl g)
          obtain ⟨cs', t', g, gt⟩ := HDST.out.ty h8
          rw [HRD.out] at g
          simp at g
          exact rep_notD (g.2 ▸ gt))
        have HRB := Lib.hid hrb
        obtain ⟨⟨q0, q1, q2, q3, q4, q5, q6⟩, r0, r1, r2, r3, r4, r5, r6⟩ := rb_cells hrb
        clear hst hfr hrb d2
        unfold rep
        go_wp2_with fail
        clear q0 q1 q2 q3 q4 q5 q6 r0 r1 r2 r3 r4 r5 r6
        obtain ⟨W5, hW5⟩ : ∃ W5, W5 = setR wp (w.heap.size + 1) (.int .i64 0) (.slice none 0 0) (.int .i64 (σ.ver + 1)) (.int .i64 σ.now) (.int .i64 0) (.slice none 0 0) (.bool false) := ⟨_, rfl⟩
        have hr5 := setR_at0 HRB.out (.int .i64 0) (.slice none 0 0) (.int .i64 (σ.ver + 1)) (.int .i64 σ.now) (.int .i64 0) (.slice none 0 0) (.bool false)
        have hF5 := (Frm.refl (fun b => b = w.heap.size + 1) wp).setR (R := w.heap.size + 1) (.inl rfl) (.int .i64 0) (.slice none 0 0) (.int .i64 (σ.ver + 1)) (.int .i64 σ.now) (.int .i64 0) (.slice none 0 0) (.bool false)
        rw [← hW5] at hr5 hF5
        unfold setR at hW5
        rw [← hW5]
        have hfin := put_done HST.out HRB.out (Nat.le_succ _) HFR.out hF5
        exact bodyPost_ret (ret_rep rfl _ _ (w.heap.size + 1) rfl hr5) rfl ⟨hfin.2, fun e => absurd HE0.out e, fun _ => ⟨d, HCN.out, rfl, ua', uc', oa', oc', da', dc', by rw [HDL.out]; exact hfin.1, fun b hb => Nat.le_trans HFD.out.size (hfb b hb)⟩⟩
end Go.Proofs.Ytodoklnohedolaa
end PkUC4_1
section PkUC4_2
/- The document's Do, what its walks share. -/
namespace Go.Proofs.Ytodoklnohedolaa
open Go.RowKit
set_option linter.unusedVariables false

theorem DEnt.drewN {w W : World} {S base : Nat} {σ : DSto} {cs : Array Value} (h : DEnt w W S base σ cs) (k : Nat) : DEnt w (W.drewN k) S base σ cs :=
  ⟨h.st.drewN k, h.cb, h.rb, h.sz, ⟨h.bel.os, h.bel.tape, h.bel.output, h.bel.size, h.bel.block⟩⟩
theorem openK_neg {l : List DUpl} {k : Int} : (openK l k = -1 ∧ l.findIdx? (fun u => decide (u.id = k)) = none) ∨ ∃ j : Nat, openK l k = (j : Int) ∧ l.findIdx? (fun u => decide (u.id = k)) = some j := by
  unfold openK
  cases l.findIdx? (fun u => decide (u.id = k)) with
  | none => exact .inl ⟨rfl, rfl⟩
  | some j => exact .inr ⟨j, rfl, rfl⟩
theorem find_at {α : Type} {p : α → Bool} {l : List α} {j : Nat} (h : l.findIdx? p = some j) : ∃ x, l[j]? = some x ∧ p x = true ∧ j < l.length := by
  obtain ⟨h1, h2, _⟩ := List.findIdx?_eq_some_iff_getElem.1 h
  exact ⟨l[j], List.getElem?_eq_getElem h1, h2, h1⟩
/-- an errno, or nothing turned: the form of what a call answers -/
def NoD (w : World) (S base : Nat) (σ : DSto) (x : Int) (e : Ending) (w' : World) : Prop := e = .returned (rep0 x) ∧ DStAt w' S base σ ∧ Frm (DF S σ) w w'
theorem done9 {w W1 w1 w5 : World} {S base R : Nat} {σ σ' : DSto} {cs : Array Value} (hb : Below w.heap.size w W1) (hE : DStAt W1 S base σ) (hR : W1.heap[R]? = some (.cells cs 36 (0, 0))) (hRw : w.heap.size ≤ R) (hf : Frm (DF S σ) W1 w1) (hst : DStAt w1 S base σ') (h5 : Frm (fun b => b = R) w1 w5) : DStAt w5 S base σ' ∧ Frm (DF S σ) w w5 := by
  have hR1 : w1.heap[R]? = some (.cells cs 36 (0, 0)) := hf.at hR (fun hd => by
    obtain ⟨cs', t', g, gt⟩ := hE.ty hd
    rw [hR] at g
    simp at g
    exact rep_notD (g.2 ▸ gt))
  exact ⟨hst.frmT hR1 rep_notD h5, ((Frm.ofBelow hb).trans hf (fun i e => .inl e)).trans h5 (fun i e => .inr (by rw [e]; exact hRw))⟩
theorem rb_kept {W1 w1 : World} {S base R : Nat} {σ : DSto} {cs : Array Value} (hE : DStAt W1 S base σ) (hR : W1.heap[R]? = some (.cells cs 36 (0, 0))) (hf : Frm (DF S σ) W1 w1) : w1.heap[R]? = some (.cells cs 36 (0, 0)) := hf.at hR (fun hd => by
    obtain ⟨cs', t', g, gt⟩ := hE.ty hd
    rw [hR] at g
    simp at g
    exact rep_notD (g.2 ▸ gt))
/-- the kinds of an upload -/
def Do8 (w : World) (S base : Nat) (σ : DSto) (id nn : Int) (n : Nat) (xs : List Nat) (e : Ending) (w' : World) : Prop :=
  match σ.ups.findIdx? (fun u => decide (u.id = id)) with
  | none => NoD w S base σ 7 e w'
  | some j => ∀ u, σ.ups[j]? = some u → PrtDP w S base σ j u nn n xs e w'
def Do9 (w : World) (S base : Nat) (σ : DSto) (id nn : Int) (e : Ending) (w' : World) : Prop :=
  match σ.ups.findIdx? (fun u => decide (u.id = id)) with
  | none => NoD w S base σ 7 e w'
  | some j => ∀ u, σ.ups[j]? = some u → ComDP w S base σ j u nn e w'
def Do10 (w : World) (S base : Nat) (σ : DSto) (id : Int) (e : Ending) (w' : World) : Prop :=
  match σ.ups.findIdx? (fun u => decide (u.id = id)) with
  | none => NoD w S base σ 7 e w'
  | some j => e = .returned (rep0 0) ∧ (∃ ua uc, DStAt w' S base { σ with ua := ua, uc := uc, ups := outK σ.ups j }) ∧ Frm (DF S σ) w w'
theorem PrtDP.shape {w w' : World} {S base : Nat} {σ : DSto} {i : Nat} {u : DUpl} {nn : Int} {n : Nat} {xs : List Nat} {e : Ending} (h : PrtDP w S base σ i u nn n xs e w') : ∃ er, e = .returned (rep0 er) := by
  rcases Classical.em (prtDE σ u nn n = 0) with g | g
  · exact ⟨_, (h.2.2 g).1⟩
  · exact ⟨_, (h.2.1 g).1⟩
theorem PrtDP.out {w W1 w1 w5 : World} {S base R : Nat} {σ : DSto} {i : Nat} {u : DUpl} {nn : Int} {n : Nat} {xs : List Nat} {e : Ending} {cs : Array Value} (h : PrtDP W1 S base σ i u nn n xs e w1) (hb : Below w.heap.size w W1) (hE : DStAt W1 S base σ) (hR : W1.heap[R]? = some (.cells cs 36 (0, 0))) (hRw : w.heap.size ≤ R) (h5 : Frm (fun b => b = R) w1 w5) : PrtDP w S base σ i u nn n xs e w5 := by
  rcases Classical.em (prtDE σ u nn n = 0) with g | g
  · obtain ⟨he, ua, uc, pa, pn, pc, da, dc, hst, hfb⟩ := h.2.2 g
    have hd := done9 hb hE hR hRw h.1 hst h5
    exact ⟨hd.2, fun e0 => absurd g e0, fun _ => ⟨he, ua, uc, pa, pn, pc, da, dc, hd.1, fun b hb' => Nat.le_trans hb.size (hfb b hb')⟩⟩
  · obtain ⟨he, hst⟩ := h.2.1 g
    have hd := done9 hb hE hR hRw h.1 hst h5
    exact ⟨hd.2, fun _ => ⟨he, hd.1⟩, fun e0 => absurd e0 g⟩
theorem ComDP.shape {w w' : World} {S base : Nat} {σ : DSto} {i : Nat} {u : DUpl} {nn : Int} {e : Ending} (h : ComDP w S base σ i u nn e w') : ∃ er v b, e = .returned (rep er (.slice none 0 0) v b 0 (.slice none 0 0) false) := by
  rcases Classical.em (comDE σ u nn = 0) with g | g
  · obtain ⟨d, _, he, _⟩ := h.2.2 g
    exact ⟨_, _, _, he⟩
  · exact ⟨_, 0, 0, (h.2.1 g).1⟩
theorem ComDP.out {w W1 w1 w5 : World} {S base R : Nat} {σ : DSto} {i : Nat} {u : DUpl} {nn : Int} {e : Ending} {cs : Array Value} (h : ComDP W1 S base σ i u nn e w1) (hb : Below w.heap.size w W1) (hE : DStAt W1 S base σ) (hR : W1.heap[R]? = some (.cells cs 36 (0, 0))) (hRw : w.heap.size ≤ R) (h5 : Frm (fun b => b = R) w1 w5) : ComDP w S base σ i u nn e w5 := by
  rcases Classical.em (comDE σ u nn = 0) with g | g
  · obtain ⟨d, hc, he, ua, uc, oa, oc, da, dc, hst, hfb⟩ := h.2.2 g
    have hd := done9 hb hE hR hRw h.1 hst h5
    exact ⟨hd.2, fun e0 => absurd g e0, fun _ => ⟨d, hc, he, ua, uc, oa, oc, da, dc, hd.1, fun b hb' => Nat.le_trans hb.size (hfb b hb')⟩⟩
  · obtain ⟨he, hst⟩ := h.2.1 g
    have hd := done9 hb hE hR hRw h.1 hst h5
    exact ⟨hd.2, fun _ => ⟨he, hd.1⟩, fun e0 => absurd e0 g⟩
end Go.Proofs.Ytodoklnohedolaa
end PkUC4_2
section PkUC4_3
/- The document's Do: get, piece, delete, create: what comes of them. -/
namespace Go.Proofs.Ytodoklnohedolaa
open Go.RowKit
set_option linter.unusedVariables false

theorem size_u8D (w : World) : (Go.sizeOf 5).run Try.prog w = .ok 1 w := by kernel_rfl
set_option maxRecDepth 100000 in
theorem slice_runD (a : Option Addr) (n c i m : Nat) (him : i + m ≤ c) (w : World) :
    (Instr.slice 28 (.slice a n c) (some (.int .i64 (i : Int))) (some (.int .i64 ((i : Int) + (m : Int)))) none).run Try.prog w = .ok (.slice (if c = i then a else a.map (·.add i)) m (c - i)) w := by
  have ht' : Try.prog.underlying 28 = some (.slice (Try.prog.elem 28)) := by simp [Program.elem, Try.underlying28]
  have he : Try.prog.elem 28 = 5 := by simp [Program.elem, Try.underlying28]
  rw [run_slice_lh w 28 _ _ _ ht' .i64 .i64 _ _ (by omega) (by omega) (by omega), he, size_u8D]
  have e1 : ((i : Int) + (m : Int)).toNat = i + m := by omega
  simp only [Result.andThen, sliced, Int.toNat_natCast, e1, Nat.mul_one]
  congr 2
  omega
theorem BytesAt.subD {w : World} {b off n c : Nat} {xs : List Nat} (h : BytesAt w (some ⟨b, off, none⟩) n c xs) (i m : Nat) (him : i + m ≤ n) (hm : 0 < m) : BytesAt w (some ⟨b, off + i, none⟩) m (c - i) ((xs.drop i).take m) := by
  have hl := h.len
  have hc := h.cap
  have hr := h.reach
  have hcm := h.capm
  refine ⟨by simp; omega, by omega, fun x hx => h.byte x (List.mem_of_mem_drop (List.mem_of_mem_take hx)), by omega, by omega, (fun e => by cases e), fun _ => ?_⟩
  obtain ⟨b', off', ha, hlt, hcell⟩ := h.cells (by omega)
  cases ha
  refine ⟨b, off + i, rfl, hlt, fun k hk => ?_⟩
  rw [Nat.add_assoc, hcell (i + k) (by omega)]
  have e : ((xs.drop i).take m).getD k 0 = xs.getD (i + k) 0 := by
    simp [List.getD, hk]
  rw [e]
theorem BytesAt.subAnyD {w : World} {a : Option Addr} {n c : Nat} {xs : List Nat} (h : BytesAt w a n c xs) (i m : Nat) (him : i + m ≤ n) : BytesAt w (if c = i then a else a.map (·.add i)) m (c - i) ((xs.drop i).take m) := by
  have hc := h.cap
  have hcm := h.capm
  rcases Nat.eq_zero_or_pos m with h0 | hp
  · subst h0
    rw [List.take_zero]
    refine BytesAt.empty _ _ _ (by omega) (fun e => ?_)
    split at e
    · omega
    · have hn : a = none := by cases a with | none => rfl | some _ => simp at e
      have := h.nl hn
      omega
  · obtain ⟨b, off, rfl, _, _⟩ := h.cells (by omega)
    rw [if_neg (by omega)]
    have h4 : (⟨b, off, none⟩ : Addr).add i = ⟨b, off + i, none⟩ := by unfold Addr.add; split <;> simp_all
    simp only [Option.map_some, h4]
    exact h.subD i m him hp
/-- an object's bytes are answered -/
def GetOk (w : World) (S base : Nat) (σ : DSto) (n : Nat) (xs : List Nat) (ver born : Int) (e : Ending) (w' : World) : Prop :=
  ∃ da dc, e = .returned (rep 0 (.slice da n dc) ver born 0 (.slice none 0 0) false) ∧ BytesAt w' da n dc xs ∧ DStAt w' S base σ ∧ Frm (DF S σ) w w'
theorem row_keptR {w w' : World} {base n c N k R : Nat} {e : TypeId} {a : Option Addr} {xs : List Value} {cs : Array Value} {t : TypeId} {fr : Nat × Nat} (h : w.ownsRow base e k (.slice a n c) N xs) (hR : w.heap[R]? = some (.cells cs t fr)) (ht : t ≠ e) (hf : Frm (fun b => b = R) w w') : w'.ownsRow base e k (.slice a n c) N xs :=
  own_same h fun b hb => hf.block b (own_blk_lt h hb).2 fun e1 => by
    obtain ⟨cu, g⟩ := own_blk_ty h hb
    rw [e1, hR] at g
    simp at g
    exact ht g.2.1
theorem getOk_mk {w wB w5 : World} {S base R n : Nat} {σ : DSto} {ta : Option Addr} {tc base' : Nat} {xs : List Nat} {ver born : Int} {cs : Array Value} (ho : wB.ownsRow base' 5 1 (.slice ta n tc) n (bv xs)) (hb : ∀ x ∈ xs, x < 256) (hn : n ≤ 140737488351232) (hR : wB.heap[R]? = some (.cells cs 36 (0, 0))) (hf : Frm (fun b => b = R) wB w5) (hd : DStAt w5 S base σ ∧ Frm (DF S σ) w w5) : GetOk w S base σ n xs ver born (.returned (rep 0 (.slice ta n tc) ver born 0 (.slice none 0 0) false)) w5 := by
  obtain ⟨a, c, e, hby, _⟩ := BytesAt.ofOwn (row_keptR ho hR (by decide) hf) hb hn
  obtain ⟨e1, _, e2⟩ := Value.slice.inj e
  rw [← e1, ← e2] at hby
  exact ⟨ta, tc, rfl, hby, hd.1, hd.2⟩
def Do3 (w : World) (S base : Nat) (σ : DSto) (ky : ByteArray) (e : Ending) (w' : World) : Prop :=
  match σ.objs.findIdx? (fun o => decide (o.key = ky)) with
  | none => NoD w S base σ 7 e w'
  | some j => ∀ o, σ.objs[j]? = some o → GetOk w S base σ o.dn o.data o.ver o.born e w'
def pieDE (n : Nat) (at_ nn : Int) : Int := if at_ < 0 ∨ nn < 0 ∨ (n : Int) < at_ ∨ (n : Int) - at_ < nn then 2 else 0
def Do4 (w : World) (S base : Nat) (σ : DSto) (ky : ByteArray) (at_ nn : Int) (e : Ending) (w' : World) : Prop :=
  match σ.objs.findIdx? (fun o => decide (o.key = ky)) with
  | none => NoD w S base σ 7 e w'
  | some j => ∀ o, σ.objs[j]? = some o → (pieDE o.dn at_ nn ≠ 0 → NoD w S base σ 2 e w') ∧ (pieDE o.dn at_ nn = 0 → GetOk w S base σ nn.toNat ((o.data.drop at_.toNat).take nn.toNat) o.ver o.born e w')
/-- the object of a key -/
def objD (σ : DSto) (ky : ByteArray) : Option DObj := match σ.objs.findIdx? (fun o => decide (o.key = ky)) with | none => none | some j => σ.objs[j]?
def dVer (σ : DSto) (ky : ByteArray) : Int := match objD σ ky with | none => 0 | some o => o.ver
def dHad (σ : DSto) (ky : ByteArray) : Nat := match objD σ ky with | none => 0 | some o => o.dn
def putDE (σ : DSto) (ki : Int) (ky : ByteArray) (vr : Int) (n : Nat) : Int :=
  if isKeyB ky = false then 1 else if ki = 2 ∧ vr ≠ dVer σ ky then 8 else if 262144 < n then 5
  else if ((objD σ ky).isNone = true ∧ 512 ≤ σ.objs.length) ∨ 4194304 < ((osum σ.objs + usum σ.ups : Nat) : Int) - (dHad σ ky : Int) + (n : Int) then 9 else 0
def Do1 (w : World) (S base : Nat) (σ : DSto) (ki : Int) (ky : ByteArray) (vr : Int) (n : Nat) (xs : List Nat) (e : Ending) (w' : World) : Prop :=
  (putDE σ ki ky vr n ≠ 0 → NoD w S base σ (putDE σ ki ky vr n) e w') ∧
  (putDE σ ki ky vr n = 0 → e = .returned (rep 0 (.slice none 0 0) (σ.ver + 1) σ.now 0 (.slice none 0 0) false) ∧ (∃ oa oc da dc, DStAt w' S base { σ with oa := oa, oc := oc, objs := putL σ.objs ⟨ky, da, n, dc, xs, σ.ver + 1, σ.now⟩, ver := σ.ver + 1 } ∧ (∀ b, blkOf da = some b → w.heap.size ≤ b)) ∧ Frm (DF S σ) w w')
theorem Do1.no {w w' : World} {S base : Nat} {σ : DSto} {ki : Int} {ky : ByteArray} {vr : Int} {n : Nat} {xs : List Nat} {x : Int} (h : putDE σ ki ky vr n = x) (hx : x ≠ 0) (Z : DStAt w' S base σ ∧ Frm (DF S σ) w w') : Do1 w S base σ ki ky vr n xs (.returned (rep0 x)) w' :=
  ⟨fun _ => by rw [h]; exact ⟨rfl, Z⟩, fun e => absurd (h.symm.trans e) hx⟩
def Do6 (w : World) (S base : Nat) (σ : DSto) (ky : ByteArray) (e : Ending) (w' : World) : Prop :=
  match σ.objs.findIdx? (fun o => decide (o.key = ky)) with
  | none => NoD w S base σ 7 e w'
  | some j => e = .returned (rep0 0) ∧ (∃ oa oc, DStAt w' S base { σ with oa := oa, oc := oc, objs := outK σ.objs j }) ∧ Frm (DF S σ) w w'
def Do7 (w : World) (S base : Nat) (σ : DSto) (ky : ByteArray) (e : Ending) (w' : World) : Prop :=
  (isKeyB ky = false → NoD w S base σ 1 e w') ∧ (isKeyB ky = true → 512 ≤ σ.ups.length → NoD w S base σ 9 e w') ∧
  (isKeyB ky = true → σ.ups.length < 512 → e = .returned (rep 0 (.slice none 0 0) 0 σ.now (σ.id + 1) (.slice none 0 0) false) ∧ (∃ ua uc, DStAt w' S base { σ with ua := ua, uc := uc, id := σ.id + 1, ups := σ.ups ++ [⟨σ.id + 1, σ.now, ky, none, 0, 0, []⟩] }) ∧ Frm (DF S σ) w w')
theorem ownBlk (a : Option Addr) (n c : Nat) : (Value.slice a n c).ownBlock = blkOf a := by cases a <;> rfl
/-- the uploads' row has grown, where it was or anew, and is laid -/
theorem DStAt.upsNew {w w' : World} {S base : Nat} {σ : DSto} (h : DStAt w S base σ) (hg : w.grownBy w' (blkOf σ.ua)) {a : Option Addr} {c N : Nat} {us : List DUpl} (hr : w'.ownsRow base 85 4 (.slice a N c) N (DUplS.flat us)) (hN : N = us.length) (hu : ∀ u ∈ us, u ∈ σ.ups ∨ (u.pn = 0 ∧ u.pa = none ∧ u.pc = 0 ∧ u.parts = [])) (hl : us.length ≤ 512) : DStAt (w'.setCell ⟨S, 1, none⟩ (.slice a N c)) S base { σ with ua := a, uc := c, ups := us } := by
  subst hN
  have hS : blkOf σ.ua ≠ some S := fun e => by
    obtain ⟨cu, g⟩ := own_blk_ty h.urow e
    rw [h.blk] at g
    simp at g
  have hblk : w'.heap[S]? = _ := (hg.block S (Array.getElem?_eq_some_iff.1 h.blk).1 (fun e => hS e.symm)).trans h.blk
  have hset := heap_setCell_same w' S 1 _ _ (.slice a us.length c) hblk
  have hoth : ∀ b, b ≠ S → (w'.setCell ⟨S, 1, none⟩ (.slice a us.length c)).heap[b]? = w'.heap[b]? := fun b hb => heap_setCell_other w' ⟨S, 1, none⟩ b _ hb
  have hrow : ∀ {n c' N k : Nat} {e : TypeId} {a' : Option Addr} {xs : List Value}, w.ownsRow base e k (.slice a' n c') N xs → e ≠ 85 → e ≠ 50 → (w'.setCell ⟨S, 1, none⟩ (.slice a us.length c)).ownsRow base e k (.slice a' n c') N xs := fun {n c' N k e a' xs} hx h1 h2 => own_same hx fun b hb => by
    obtain ⟨cu, g⟩ := own_blk_ty hx hb
    refine (hoth b fun e1 => ?_).trans (hg.block b (own_blk_lt hx hb).2 fun e1 => ?_)
    · rw [e1, h.blk] at g; simp at g; exact h2 g.2.symm
    · obtain ⟨cu2, g2⟩ := own_blk_ty h.urow e1.symm
      rw [g] at g2; simp at g2; exact h1 g2.2
  refine ⟨by rw [hset]; simp, hrow h.orow (by decide) (by decide), own_same hr (fun b hb => hoth b fun e1 => ?_), fun o ho => ⟨hrow (h.obj o ho).row (by decide) (by decide), (h.obj o ho).byte, (h.obj o ho).len, (h.obj o ho).small⟩, fun u hm => ?_, h.of, hl⟩
  · obtain ⟨cu, g⟩ := own_blk_ty hr hb
    rw [e1, hblk] at g
    simp at g
  · rcases hu u hm with g | ⟨g1, g2, g3, g4⟩
    · exact ⟨hrow (h.upl u g).row (by decide) (by decide), (h.upl u g).len, (h.upl u g).few, fun p hp => ⟨hrow ((h.upl u g).prt p hp).row (by decide) (by decide), ((h.upl u g).prt p hp).byte, ((h.upl u g).prt p hp).len, ((h.upl u g).prt p hp).small⟩⟩
    · refine ⟨?_, by rw [g4, g1]; rfl, by rw [g1]; omega, fun p hp => by rw [g4] at hp; cases hp⟩
      rw [g1, g2, g3, g4]
      exact World.ownsRow_nil _ _ _ _
end Go.Proofs.Ytodoklnohedolaa
end PkUC4_3
section PkUC4_4
/- What a run of an upload leaves in the document's store, plainly: every object is its data, every part its piece. -/
namespace Go.Proofs.Ytodoklnohedolaa
open Go.RowKit
set_option linter.unusedVariables false

theorem matchD_nil {l : List DPrt} {n : Int} (h : ∀ p ∈ l, p.n ≠ n) : matchD l n = [] := by
  unfold matchD
  rw [List.flatMap_eq_nil_iff]
  intro p hp
  rw [if_neg (h p hp)]
theorem matchD_piece {pc : Int → List Nat} {n : Int} : ∀ {l : List DPrt}, (∀ p ∈ l, p.data = pc p.n) → l.Pairwise (fun a b => a.n ≠ b.n) → hasP l n = true → matchD l n = pc n
  | [], _, _, h => by cases h
  | a :: r, hp, hd, hh => by
    rw [List.pairwise_cons] at hd
    have e : matchD (a :: r) n = (if a.n = n then a.data else []) ++ matchD r n := rfl
    rw [e]
    by_cases h : a.n = n
    · rw [if_pos h, matchD_nil (fun p hpr he => hd.1 p hpr (h.trans he.symm)), List.append_nil, hp a List.mem_cons_self, h]
    · rw [if_neg h, List.nil_append]
      refine matchD_piece (fun p hpr => hp p (List.mem_cons_of_mem _ hpr)) hd.2 ?_
      unfold hasP at hh ⊢
      rw [List.any_cons, Bool.or_eq_true] at hh
      rcases hh with g | g
      · exact absurd (of_decide_eq_true g) h
      · exact g
/-- the piece of a number -/
def pieceD (D : List Nat) (s : Nat) (n : Int) : List Nat := (D.drop ((n.toNat - 1) * s)).take s
theorem catD_piece {l : List DPrt} {D : List Nat} {s : Nat} (hp : ∀ p ∈ l, p.data = pieceD D s p.n) (hd : l.Pairwise fun a b => a.n ≠ b.n) : ∀ (k : Nat) (d : List Nat), catD l k = some d → d = D.take (k * s)
  | 0, d, h => by
    unfold catD at h
    cases h
    rw [Nat.zero_mul, List.take_zero]
  | k + 1, d, h => by
    unfold catD at h
    cases hk : catD l k with
    | none => rw [hk] at h; cases h
    | some d' =>
      rw [hk] at h
      simp only at h
      split at h
      · cases h
        rename_i hh
        rw [catD_piece hp hd k d' hk, matchD_piece hp hd hh]
        unfold pieceD
        have e : ((k + 1 : Nat) : Int).toNat - 1 = k := by omega
        rw [e, Nat.add_mul, Nat.one_mul, List.take_add]
      · cases h
/-- an upload under way: its parts are pieces, told apart -/
structure UplIn (K : ByteArray) (D : List Nat) (s P : Nat) (u : DUpl) : Prop where
  key : u.key = K
  pcs : ∀ p ∈ u.parts, p.data = pieceD D s p.n ∧ 1 ≤ p.n ∧ p.n ≤ (P : Int)
  dif : u.parts.Pairwise fun a b => a.n ≠ b.n
/-- the store of a run -/
structure RunS (K : ByteArray) (D : List Nat) (s P c : Nat) (σ : DSto) : Prop where
  obj : ∀ o ∈ σ.objs, o.key = K ∧ o.data = D ∧ 1 ≤ o.ver
  upl : ∀ u ∈ σ.ups, UplIn K D s P u
  one : σ.objs.length ≤ 1
  ver : 0 ≤ σ.ver ∧ σ.ver ≤ c
  ids : 0 ≤ σ.id ∧ σ.id ≤ c
theorem runS_new (K : ByteArray) (D : List Nat) (s P : Nat) {σ : DSto} (h1 : σ.objs = []) (h2 : σ.ups = []) (h3 : σ.ver = 0) (h4 : σ.id = 0) : RunS K D s P 0 σ :=
  ⟨(fun o h => by rw [h1] at h; cases h), (fun u h => by rw [h2] at h; cases h), by rw [h1]; exact Nat.zero_le _, by rw [h3]; decide, by rw [h4]; decide⟩
/-- a complete that is done: the data, whole -/
theorem com_data {K : ByteArray} {D : List Nat} {s P : Nat} {u : DUpl} (h : UplIn K D s P u) (hD : D.length ≤ P * s) {d : List Nat} (hc : catD u.parts P = some d) : d = D := by
  rw [catD_piece (fun p hp => (h.pcs p hp).1) h.dif P d hc, List.take_of_length_le hD]
theorem putL_one {K : ByteArray} {l : List DObj} {o : DObj} (h1 : l.length ≤ 1) (hk : ∀ x ∈ l, x.key = K) (ho : o.key = K) : putL l o = [o] := by
  unfold putL
  match l, h1, hk with
  | [], _, _ => rfl
  | [x], _, hk =>
    have e : x.key = o.key := (hk x List.mem_cons_self).trans ho.symm
    simp [List.findIdx?_cons, e]
theorem RunS.put {K : ByteArray} {D : List Nat} {s P c : Nat} {σ : DSto} (h : RunS K D s P c σ) {oa : Option Addr} {oc : Nat} {da : Option Addr} {dn dc : Nat} {b : Int} {ups' : List DUpl} {ua : Option Addr} {uc : Nat} (hu : ∀ u ∈ ups', u ∈ σ.ups) :
    RunS K D s P (c + 1) { σ with ua := ua, uc := uc, ups := ups', oa := oa, oc := oc, objs := putL σ.objs ⟨K, da, dn, dc, D, σ.ver + 1, b⟩, ver := σ.ver + 1 } := by
  have hp : putL σ.objs ⟨K, da, dn, dc, D, σ.ver + 1, b⟩ = [⟨K, da, dn, dc, D, σ.ver + 1, b⟩] := putL_one h.one (fun x hx => (h.obj x hx).1) rfl
  obtain ⟨hv0, hv1⟩ := h.ver
  obtain ⟨hi0, hi1⟩ := h.ids
  refine ⟨fun o ho => ?_, fun u h1 => h.upl u (hu u h1), ?_, ?_, ?_⟩
  · simp only [hp] at ho
    rw [List.mem_singleton.1 ho]
    exact ⟨rfl, rfl, by show 1 ≤ σ.ver + 1; omega⟩
  · simp only [hp]; exact Nat.le_refl _
  · show 0 ≤ σ.ver + 1 ∧ σ.ver + 1 ≤ ((c + 1 : Nat) : Int); omega
  · show 0 ≤ σ.id ∧ σ.id ≤ ((c + 1 : Nat) : Int); omega
end Go.Proofs.Ytodoklnohedolaa
end PkUC4_4
section PkUC4_5
/- A run of an upload, plainly: what holds of it at each round, and what a reply makes of it.
   n: the calls made; wSum W f: the ticks that f failures may make it wait. -/
namespace Go.Proofs.Ytodoklnohedolaa
open Go.RowKit
set_option linter.unusedVariables false

def wSum (W f : Nat) : Nat := W * (2 ^ f - 1)
theorem wSum_succ (W f : Nat) : wSum W (f + 1) = wSum W f + W * 2 ^ f := by
  unfold wSum
  have h : 1 ≤ 2 ^ f := Nat.one_le_two_pow
  rw [← Nat.mul_add, Nat.pow_succ]
  congr 1
  omega
theorem wSum_le {W f : Nat} (hW : W ≤ 3) (hf : f ≤ 7) : wSum W f ≤ 381 := by
  unfold wSum
  have h : 2 ^ f ≤ 2 ^ 7 := Nat.pow_le_pow_right (by decide) hf
  calc W * (2 ^ f - 1) ≤ 3 * (2 ^ 7 - 1) := Nat.mul_le_mul hW (by omega)
    _ ≤ 381 := by decide
/-- how many calls it has made, by where it stands -/
def callsOk (P n : Nat) (st nx : Int) (f : Nat) : Prop :=
  (st = 0 → n ≤ f) ∧ (st = 1 → (n : Int) ≤ nx + f) ∧ (st = 2 → n ≤ 1 + P + 2 * f) ∧ (st = 3 → n ≤ P + 2 * f) ∧ (st = 4 → n ≤ 2 + P + 2 * f) ∧ (st = 5 → n ≤ 3 + P + 2 * f)
structure RnU (K : ByteArray) (da : Option Addr) (dn dc s P T W : Nat) (D : List Nat) (n : Nat) (objs : List DObj) (u : UG) : Prop where
  eq : u.key = K ∧ u.da = da ∧ u.dn = dn ∧ u.dc = dc ∧ u.sz = (s : Int) ∧ u.pt = (P : Int) ∧ u.tr = (T : Int) ∧ u.wt = (W : Int)
  st : 0 ≤ u.st ∧ u.st ≤ 5
  nx : 1 ≤ u.nx ∧ u.nx ≤ (P : Int) + 1 ∧ (u.st ≤ 1 → u.nx ≤ (P : Int))
  ff : u.f ≤ T ∧ (u.st ≤ 3 → u.f < T)
  calls : callsOk P n u.st u.nx u.f
  rdy : u.rd ≤ (wSum W u.f : Nat)
  told : u.told = false
  over : (u.st = 5 → u.state = 1 ∨ u.state = 2) ∧ (u.st ≠ 5 → u.state = 0)
  done : u.state = 1 → ∃ o, objs = [o] ∧ o.key = K ∧ o.data = D ∧ o.born = u.born
  fail : u.state ≠ 1 → u.born = 0
variable {K : ByteArray} {da : Option Addr} {dn dc s P T W n : Nat} {D : List Nat} {objs : List DObj} {u : UG}
theorem give_ok (he : u.key = K ∧ u.da = da ∧ u.dn = dn ∧ u.dc = dc ∧ u.sz = (s : Int) ∧ u.pt = (P : Int) ∧ u.tr = (T : Int) ∧ u.wt = (W : Int)) (hx : 1 ≤ u.nx ∧ u.nx ≤ (P : Int) + 1) (hf : u.f ≤ T) (hn : n ≤ 2 + P + 2 * u.f) (hr : u.rd ≤ (wSum W u.f : Nat)) (ht : u.told = false) (h0 : u.state = 0) (hb : u.born = 0) : RnU K da dn dc s P T W D n objs u.give := by
  unfold UG.give
  split
  · refine ⟨he, by simp, ⟨hx.1, hx.2, ?_⟩, ⟨hf, ?_⟩, ?_, hr, ht, ⟨?_, fun _ => h0⟩, ?_, fun _ => hb⟩
    · intro h; simp at h
    · intro h; simp at h
    · unfold callsOk; simp; omega
    · intro h; simp at h
    · intro h; simp [h0] at h
  · unfold UG.ends
    refine ⟨he, by simp, ⟨hx.1, hx.2, ?_⟩, ⟨hf, ?_⟩, ?_, hr, ht, ⟨fun _ => .inr rfl, ?_⟩, ?_, fun _ => hb⟩
    · intro h; simp at h
    · intro h; simp at h
    · unfold callsOk; simp; omega
    · intro h; simp at h
    · intro h; simp at h
theorem fail_ok (he : u.key = K ∧ u.da = da ∧ u.dn = dn ∧ u.dc = dc ∧ u.sz = (s : Int) ∧ u.pt = (P : Int) ∧ u.tr = (T : Int) ∧ u.wt = (W : Int)) (hst : 0 ≤ u.st ∧ u.st ≤ 3) (hx : 1 ≤ u.nx ∧ u.nx ≤ (P : Int) + 1 ∧ (u.st ≤ 1 → u.nx ≤ (P : Int))) (hf : u.f < T) (hc : callsOk P n u.st u.nx (u.f + 1)) (hn : n ≤ 2 + P + 2 * u.f) (hr : u.rd ≤ (wSum W u.f : Nat)) (ht : u.told = false) (h0 : u.state = 0) (hb : u.born = 0) {p : Bool} {now : Nat} (hw : now ≤ wSum W u.f) : RnU K da dn dc s P T W D n objs (u.failF p now) := by
  unfold UG.failF
  split
  · split
    · rename_i h1
      rw [he.2.2.2.2.2.2.1] at h1
      refine ⟨he, ⟨hst.1, by show u.st ≤ 5; omega⟩, hx, ⟨by show u.f + 1 ≤ T; omega, fun _ => by show u.f + 1 < T; omega⟩, hc, ?_, ht, ⟨fun h => ?_, fun _ => h0⟩, fun h => ?_, fun _ => hb⟩
      · show (now : Int) + u.wt * 2 ^ u.f ≤ ((wSum W (u.f + 1) : Nat) : Int)
        rw [wSum_succ, he.2.2.2.2.2.2.2]
        push_cast
        omega
      · exact absurd (show u.st = 5 from h) (by omega)
      · exact absurd (h0.symm.trans (show u.state = 1 from h)) (by decide)
    · refine give_ok he ⟨hx.1, hx.2.1⟩ (by show u.f + 1 ≤ T; omega) (by show n ≤ 2 + P + 2 * (u.f + 1); omega) ?_ ht h0 hb
      show u.rd ≤ ((wSum W (u.f + 1) : Nat) : Int)
      rw [wSum_succ]
      exact Int.le_trans hr (Int.ofNat_le.2 (Nat.le_add_right _ _))
  · exact give_ok he ⟨hx.1, hx.2.1⟩ (by omega) hn hr ht h0 hb
/-- what a reply makes of it: the reply's error, born, ID; `od`: the object of a complete that is done, or of a get -/
theorem take_ok (h : RnU K da dn dc s P T W D n objs u) (hst : u.st ≤ 4) (hP : 1 ≤ P) {er bo io : Int} {same : Bool} {now : Nat} (hw : now ≤ wSum W u.f) {objs' : List DObj} (hd : (u.st = 2 ∨ u.st = 3) → er = 0 → ∃ o, objs' = [o] ∧ o.key = K ∧ o.data = D ∧ o.born = bo) :
    RnU K da dn dc s P T W D (n + 1) objs' (u.takeF er bo io now same) := by
  obtain ⟨he, hs, hx, hf, hc, hr, ht, ho, hdn, hfl⟩ := h
  have HD := Lib.hid hd
  clear hd hdn
  have h0 : u.state = 0 := ho.2 (by omega)
  have hb : u.born = 0 := hfl (by rw [h0]; decide)
  have hu : ({ u with told := false } : UG) = u := by rw [← ht]
  have hdone : (u.st = 2 ∨ u.st = 3) → er = 0 → RnU K da dn dc s P T W D (n + 1) objs' (u.doneF bo) := fun h2 h3 => by
    have HO := Lib.hid (HD.out h2 h3)
    unfold UG.doneF UG.ends
    refine ⟨he, by simp, ⟨hx.1, hx.2.1, ?_⟩, ⟨hf.1, ?_⟩, ?_, hr, ht, ⟨fun _ => .inl rfl, ?_⟩, fun _ => HO.out, ?_⟩
    · intro h; simp at h
    · intro h; simp at h
    · unfold callsOk at hc ⊢; simp; omega
    · intro h; simp at h
    · intro h; simp at h
  have hdone := Lib.hid hdone
  unfold UG.takeF
  simp only [hu]
  unfold callsOk at hc
  have hcs : u.st = 0 ∨ u.st = 1 ∨ u.st = 2 ∨ u.st = 3 ∨ u.st = 4 := by omega
  rcases hcs with h1 | h1 | h1 | h1 | h1
  · rw [if_pos h1]
    unfold UG.createdF
    split
    · refine ⟨he, by simp, ⟨hx.1, hx.2.1, fun _ => hx.2.2 (by omega)⟩, ⟨hf.1, fun _ => hf.2 (by omega)⟩, ?_, hr, ht, ⟨?_, fun _ => h0⟩, fun h => ?_, fun _ => hb⟩
      · unfold callsOk; simp; omega
      · intro h; simp at h
      · exact absurd (h0.symm.trans (show u.state = 1 from h)) (by decide)
    · exact fail_ok he ⟨hs.1, by omega⟩ hx (hf.2 (by omega)) (by unfold callsOk; omega) (by omega) hr ht h0 hb hw
  · rw [if_neg (by omega), if_pos h1]
    unfold UG.broughtF
    have hpt := he.2.2.2.2.2.1
    split
    · split
      · refine ⟨he, by simp, ⟨by show 1 ≤ u.nx + 1; omega, by show u.nx + 1 ≤ (P : Int) + 1; have := hx.2.2 (by omega); omega, ?_⟩, ⟨hf.1, fun _ => hf.2 (by omega)⟩, ?_, hr, ht, ⟨?_, fun _ => h0⟩, fun h => ?_, fun _ => hb⟩
        · intro h; simp at h
        · unfold callsOk; simp; have := hx.2.2 (by omega); omega
        · intro h; simp at h
        · exact absurd (h0.symm.trans (show u.state = 1 from h)) (by decide)
      · rename_i h2
        rw [hpt] at h2
        refine ⟨he, hs, ⟨by show 1 ≤ u.nx + 1; omega, by show u.nx + 1 ≤ (P : Int) + 1; omega, fun _ => by show u.nx + 1 ≤ (P : Int); omega⟩, ⟨hf.1, fun _ => hf.2 (by omega)⟩, ?_, hr, ht, ⟨fun h => ?_, fun _ => h0⟩, fun h => ?_, fun _ => hb⟩
        · unfold callsOk; simp [h1]; omega
        · exact absurd (show u.st = 5 from h) (by omega)
        · exact absurd (h0.symm.trans (show u.state = 1 from h)) (by decide)
    · exact fail_ok he ⟨hs.1, by omega⟩ hx (hf.2 (by omega)) (by unfold callsOk; omega) (by have := hx.2.2 (by omega); omega) hr ht h0 hb hw
  · rw [if_neg (by omega), if_neg (by omega), if_pos h1]
    unfold UG.completedF
    split
    · exact hdone.out (.inl h1) ‹_›
    · split
      · exact fail_ok (u := { u with st := 3 }) he (by simp) ⟨hx.1, hx.2.1, by simp⟩ (hf.2 (by omega)) (by unfold callsOk; simp; omega) (by show n + 1 ≤ 2 + P + 2 * u.f; omega) hr ht h0 hb hw
      · split
        · exact fail_ok (u := { u with st := 3, gone := true }) he (by simp) ⟨hx.1, hx.2.1, by simp⟩ (hf.2 (by omega)) (by unfold callsOk; simp; omega) (by show n + 1 ≤ 2 + P + 2 * u.f; omega) hr ht h0 hb hw
        · exact fail_ok he ⟨hs.1, by omega⟩ hx (hf.2 (by omega)) (by unfold callsOk; omega) (by omega) hr ht h0 hb hw
  · rw [if_neg (by omega), if_neg (by omega), if_neg (by omega), if_pos h1]
    unfold UG.lookedF
    split
    · rename_i h2
      exact hdone.out (.inr h1) h2.1
    · split
      · refine ⟨he, by simp, ⟨hx.1, hx.2.1, ?_⟩, ⟨hf.1, fun _ => hf.2 (by omega)⟩, ?_, hr, ht, ⟨?_, fun _ => h0⟩, fun h => ?_, fun _ => hb⟩
        · intro h; simp at h
        · unfold callsOk; simp; omega
        · intro h; simp at h
        · exact absurd (h0.symm.trans (show u.state = 1 from h)) (by decide)
      · exact fail_ok he ⟨hs.1, by omega⟩ hx (hf.2 (by omega)) (by unfold callsOk; omega) (by omega) hr ht h0 hb hw
  · rw [if_neg (by omega), if_neg (by omega), if_neg (by omega), if_neg (by omega), if_pos h1]
    unfold UG.ends
    refine ⟨he, by simp, ⟨hx.1, hx.2.1, ?_⟩, ⟨hf.1, ?_⟩, ?_, hr, ht, ⟨fun _ => .inr rfl, ?_⟩, ?_, fun _ => hb⟩
    · intro h; simp at h
    · intro h; simp at h
    · unfold callsOk; simp; omega
    · intro h; simp at h
    · intro h; simp at h
end Go.Proofs.Ytodoklnohedolaa
end PkUC4_5
section PkUC4_6
/- The document's Do: part, complete, abort. Written by gensddo.py. -/
namespace Go.Proofs.Ytodoklnohedolaa
open Go.RowKit
set_option linter.unusedVariables false
set_option linter.unusedSimpArgs false

set_option maxRecDepth 100000 in
set_option maxHeartbeats 16000000 in
theorem ddo_8 {w : World} {S base : Nat} {σ : DSto} (h : DStAt w S base σ) {vr at_ nn id : Int} {ky : ByteArray} {a : Option Addr} {n c : Nat} {xs : List Nat} (hx : BytesAt w a n c xs) (hbs : base ≤ w.heap.size) (hfew : ∀ j u, σ.ups.findIdx? (fun u => decide (u.id = id)) = some j → σ.ups[j]? = some u → 1 ≤ nn → nn ≤ 32 → (prtF u.parts nn).length < 32) :
    Calls Try.prog 21 #[.pointer (some ⟨S, 0, none⟩), .agg #[.int .i64 8, .string ky, .slice a n c, .int .i64 vr, .int .i64 at_, .int .i64 nn, .int .i64 id]] w (Do8 w S base σ id nn n xs) := by
  have HE := Lib.hid (dent_mk h #[.int .i64 8, .string ky, .slice a n c, .int .i64 vr, .int .i64 at_, .int .i64 nn, .int .i64 id])
  have hSl : S < w.heap.size := (Array.getElem?_eq_some_iff.1 h.blk).1
  clear h
  go_enter Try.func21, Try.ntmps21
  go_upto_region 1 with fail
  obtain ⟨W0, hW0⟩ : ∃ W0, W0 = (w.alloc (.cells #[.int .i64 8, .string ky, .slice a n c, .int .i64 vr, .int .i64 at_, .int .i64 nn, .int .i64 id] 30)).alloc (.cells zrep 36) := ⟨_, rfl⟩
  rw [← hW0] at HE
  unfold zrep at hW0
  rw [← hW0]
  clear hW0
  obtain ⟨ai, hai⟩ : ∃ ai, ai = atK σ.objs ky := ⟨_, rfl⟩
  obtain ⟨oi, hoi⟩ : ∃ oi, oi = openK σ.ups id := ⟨_, rfl⟩
  have HAT := Lib.hid (fun k => dat_any (HE.out.st.drewN k) ky)
  have HOP := Lib.hid (fun k => dopen_any (HE.out.st.drewN k) id)
  rw [← hai] at HAT
  rw [← hoi] at HOP
  have k1 := cell_blkD HE.out.cb (i := 1) (u := .string ky) rfl
  have k6 := cell_blkD HE.out.cb (i := 6) (u := .int .i64 id) rfl
  go_quiet ((first | (go_at_call 17; exact Calls.quiet_of_same (HAT.out _)) | (go_at_call 40; exact Calls.quiet_of_same (HOP.out _))))
  rename Nat => nq
  clear k1 k6 HAT HOP
  have HE1 := Lib.hid (HE.out.drewN nq)
  obtain ⟨W1, hW1⟩ : ∃ W1, W1 = W0.drewN nq := ⟨_, rfl⟩
  rw [← hW1] at HE1
  rw [← hW1]
  clear HE hW1
  have HE := HE1
  clear HE1
  have hz0 := HE.out.sz
  have hk0 : w.heap.size < W1.heap.size := by omega
  have hr0 : w.heap.size + 1 < W1.heap.size := by omega
  have hS0 : S < W1.heap.size := by omega
  have HZ0 := Lib.hid hz0
  clear hz0
  have HR0 := Lib.hid (Below.refl W1.heap.size W1)
  have k0 := cell_blkD HE.out.cb (i := 0) (u := .int .i64 8) rfl
  have HAI := Lib.hid hai
  have HOI := Lib.hid hoi
  clear hai hoi
  rcases openK_neg (l := σ.ups) (k := id) with ⟨ho1, ho2⟩ | ⟨jo, ho1, ho2⟩
  · have hoi := HOI.out
    rw [ho1] at hoi
    clear HOI
    subst hoi
    have HNO := Lib.hid (show ∀ e w', NoD w S base σ 7 e w' → Do8 w S base σ id nn n xs e w' from fun e w' h => by unfold Do8; rw [ho2]; exact h)
    clear ho1 ho2
    go_wp2_with fail
    refine (dbad_any 7 W1).mono ?_
    rintro e wE ⟨rfl, hbE⟩
    unfold repA
    have hbe := HR0.out.trans (hbE.mono HR0.out.size)
    have HRB := Lib.hid ((hbe.block (w.heap.size + 1) hr0).trans HE.out.rb)
    have HST := Lib.hid (HE.out.st.below hbe)
    have HFR := Lib.hid (show Frm (DF S σ) w wE from Frm.ofBelow (HE.out.bel.trans (hbe.mono HE.out.bel.size)))
    obtain ⟨⟨q0, q1, q2, q3, q4, q5, q6⟩, r0, r1, r2, r3, r4, r5, r6⟩ := rb_cells HRB.out
    clear hbE hbe
    go_wp2_with fail
    clear q0 q1 q2 q3 q4 q5 q6 r0 r1 r2 r3 r4 r5 r6
    obtain ⟨W5, hW5⟩ : ∃ W5, W5 = setR wE (w.heap.size + 1) (.int .i64 7) (.slice none 0 0) (.int .i64 0) (.int .i64 0) (.int .i64 0) (.slice none 0 0) (.bool false) := ⟨_, rfl⟩
    have hr5 := setR_at0 HRB.out (.int .i64 7) (.slice none 0 0) (.int .i64 0) (.int .i64 0) (.int .i64 0) (.slice none 0 0) (.bool false)
    have hF5 := (Frm.refl (fun b => b = w.heap.size + 1) wE).setR (R := w.heap.size + 1) (.inl rfl) (.int .i64 7) (.slice none 0 0) (.int .i64 0) (.int .i64 0) (.int .i64 0) (.slice none 0 0) (.bool false)
    rw [← hW5] at hr5 hF5
    unfold setR at hW5
    rw [← hW5]
    have hfin := put_done HST.out HRB.out (Nat.le_succ _) HFR.out hF5
    exact bodyPost_ret (ret_rep rfl _ _ (w.heap.size + 1) rfl hr5) rfl (HNO.out _ _ ⟨rfl, hfin⟩)
  · have hoi := HOI.out
    rw [ho1] at hoi
    clear HOI
    subst hoi
    obtain ⟨u, hu, _, hul⟩ := find_at ho2
    have HO2 := Lib.hid ho2
    have HU := Lib.hid hu
    have zjo : ¬ (jo : Int) < 0 := by omega
    clear ho1 ho2 hu
    have k1 := cell_blkD HE.out.cb (i := 1) (u := .string ky) rfl
    have k2 := cell_blkD HE.out.cb (i := 2) (u := .slice a n c) rfl
    have k3 := cell_blkD HE.out.cb (i := 3) (u := .int .i64 vr) rfl
    have k4 := cell_blkD HE.out.cb (i := 4) (u := .int .i64 at_) rfl
    have k5 := cell_blkD HE.out.cb (i := 5) (u := .int .i64 nn) rfl
    have k6 := cell_blkD HE.out.cb (i := 6) (u := .int .i64 id) rfl
    have HP := Lib.hid (dpart_any (ki := 8) (ky := ky) (vr := vr) (at_ := at_) (nn := nn) (id := id) HE.out.st HU.out (hx.kept HE.out.bel) (Nat.le_trans hbs HE.out.bel.size) (hfew jo u HO2.out HU.out))
    go_wp2_with fail
    refine HP.out.mono ?_
    rintro e w1 hq
    obtain ⟨er, rfl⟩ := hq.shape
    have HQ := Lib.hid hq
    have HRB := Lib.hid (rb_kept HE.out.st HE.out.rb hq.1)
    obtain ⟨⟨q0, q1, q2, q3, q4, q5, q6⟩, r0, r1, r2, r3, r4, r5, r6⟩ := rb_cells HRB.out
    clear hq k0 k1 k2 k3 k4 k5 k6
    unfold rep0
    go_wp2_with fail
    clear q0 q1 q2 q3 q4 q5 q6 r0 r1 r2 r3 r4 r5 r6
    obtain ⟨W5, hW5⟩ : ∃ W5, W5 = setR w1 (w.heap.size + 1) (.int .i64 er) (.slice none 0 0) (.int .i64 0) (.int .i64 0) (.int .i64 0) (.slice none 0 0) (.bool false) := ⟨_, rfl⟩
    have hr5 := setR_at0 HRB.out (.int .i64 er) (.slice none 0 0) (.int .i64 0) (.int .i64 0) (.int .i64 0) (.slice none 0 0) (.bool false)
    have hF5 := (Frm.refl (fun b => b = w.heap.size + 1) w1).setR (R := w.heap.size + 1) (.inl rfl) (.int .i64 er) (.slice none 0 0) (.int .i64 0) (.int .i64 0) (.int .i64 0) (.slice none 0 0) (.bool false)
    rw [← hW5] at hr5 hF5
    unfold setR at hW5
    rw [← hW5]
    exact bodyPost_ret (ret_rep rfl _ _ (w.heap.size + 1) rfl hr5) rfl (by
      unfold Do8
      rw [HO2.out]
      intro u' hu'
      rw [HU.out] at hu'
      cases hu'
      exact HQ.out.out HE.out.bel HE.out.st HE.out.rb (Nat.le_succ _) hF5)
set_option maxRecDepth 100000 in
set_option maxHeartbeats 16000000 in
theorem ddo_9 {w : World} {S base : Nat} {σ : DSto} (h : DStAt w S base σ) {vr at_ nn id : Int} {ky : ByteArray} {a : Option Addr} {n c : Nat} (hbs : base ≤ w.heap.size) (hver : 0 ≤ σ.ver ∧ σ.ver ≤ 1000000000) :
    Calls Try.prog 21 #[.pointer (some ⟨S, 0, none⟩), .agg #[.int .i64 9, .string ky, .slice a n c, .int .i64 vr, .int .i64 at_, .int .i64 nn, .int .i64 id]] w (Do9 w S base σ id nn) := by
  have HE := Lib.hid (dent_mk h #[.int .i64 9, .string ky, .slice a n c, .int .i64 vr, .int .i64 at_, .int .i64 nn, .int .i64 id])
  have hSl : S < w.heap.size := (Array.getElem?_eq_some_iff.1 h.blk).1
  clear h
  go_enter Try.func21, Try.ntmps21
  go_upto_region 1 with fail
  obtain ⟨W0, hW0⟩ : ∃ W0, W0 = (w.alloc (.cells #[.int .i64 9, .string ky, .slice a n c, .int .i64 vr, .int .i64 at_, .int .i64 nn, .int .i64 id] 30)).alloc (.cells zrep 36) := ⟨_, rfl⟩
  rw [← hW0] at HE
  unfold zrep at hW0
  rw [← hW0]
  clear hW0
  obtain ⟨ai, hai⟩ : ∃ ai, ai = atK σ.objs ky := ⟨_, rfl⟩
  obtain ⟨oi, hoi⟩ : ∃ oi, oi = openK σ.ups id := ⟨_, rfl⟩
  have HAT := Lib.hid (fun k => dat_any (HE.out.st.drewN k) ky)
  have HOP := Lib.hid (fun k => dopen_any (HE.out.st.drewN k) id)
  rw [← hai] at HAT
  rw [← hoi] at HOP
  have k1 := cell_blkD HE.out.cb (i := 1) (u := .string ky) rfl
  have k6 := cell_blkD HE.out.cb (i := 6) (u := .int .i64 id) rfl
  go_quiet ((first | (go_at_call 17; exact Calls.quiet_of_same (HAT.out _)) | (go_at_call 40; exact Calls.quiet_of_same (HOP.out _))))
  rename Nat => nq
  clear k1 k6 HAT HOP
  have HE1 := Lib.hid (HE.out.drewN nq)
  obtain ⟨W1, hW1⟩ : ∃ W1, W1 = W0.drewN nq := ⟨_, rfl⟩
  rw [← hW1] at HE1
  rw [← hW1]
  clear HE hW1
  have HE := HE1
  clear HE1
  have hz0 := HE.out.sz
  have hk0 : w.heap.size < W1.heap.size := by omega
  have hr0 : w.heap.size + 1 < W1.heap.size := by omega
  have hS0 : S < W1.heap.size := by omega
  have HZ0 := Lib.hid hz0
  clear hz0
  have HR0 := Lib.hid (Below.refl W1.heap.size W1)
  have k0 := cell_blkD HE.out.cb (i := 0) (u := .int .i64 9) rfl
  have HAI := Lib.hid hai
  have HOI := Lib.hid hoi
  clear hai hoi
  rcases openK_neg (l := σ.ups) (k := id) with ⟨ho1, ho2⟩ | ⟨jo, ho1, ho2⟩
  · have hoi := HOI.out
    rw [ho1] at hoi
    clear HOI
    subst hoi
    have HNO := Lib.hid (show ∀ e w', NoD w S base σ 7 e w' → Do9 w S base σ id nn e w' from fun e w' h => by unfold Do9; rw [ho2]; exact h)
    clear ho1 ho2
    go_wp2_with fail
    refine (dbad_any 7 W1).mono ?_
    rintro e wE ⟨rfl, hbE⟩
    unfold repA
    have hbe := HR0.out.trans (hbE.mono HR0.out.size)
    have HRB := Lib.hid ((hbe.block (w.heap.size + 1) hr0).trans HE.out.rb)
    have HST := Lib.hid (HE.out.st.below hbe)
    have HFR := Lib.hid (show Frm (DF S σ) w wE from Frm.ofBelow (HE.out.bel.trans (hbe.mono HE.out.bel.size)))
    obtain ⟨⟨q0, q1, q2, q3, q4, q5, q6⟩, r0, r1, r2, r3, r4, r5, r6⟩ := rb_cells HRB.out
    clear hbE hbe
    go_wp2_with fail
    clear q0 q1 q2 q3 q4 q5 q6 r0 r1 r2 r3 r4 r5 r6
    obtain ⟨W5, hW5⟩ : ∃ W5, W5 = setR wE (w.heap.size + 1) (.int .i64 7) (.slice none 0 0) (.int .i64 0) (.int .i64 0) (.int .i64 0) (.slice none 0 0) (.bool false) := ⟨_, rfl⟩
    have hr5 := setR_at0 HRB.out (.int .i64 7) (.slice none 0 0) (.int .i64 0) (.int .i64 0) (.int .i64 0) (.slice none 0 0) (.bool false)
    have hF5 := (Frm.refl (fun b => b = w.heap.size + 1) wE).setR (R := w.heap.size + 1) (.inl rfl) (.int .i64 7) (.slice none 0 0) (.int .i64 0) (.int .i64 0) (.int .i64 0) (.slice none 0 0) (.bool false)
    rw [← hW5] at hr5 hF5
    unfold setR at hW5
    rw [← hW5]
    have hfin := put_done HST.out HRB.out (Nat.le_succ _) HFR.out hF5
    exact bodyPost_ret (ret_rep rfl _ _ (w.heap.size + 1) rfl hr5) rfl (HNO.out _ _ ⟨rfl, hfin⟩)
  · have hoi := HOI.out
    rw [ho1] at hoi
    clear HOI
    subst hoi
    obtain ⟨u, hu, _, hul⟩ := find_at ho2
    have HO2 := Lib.hid ho2
    have HU := Lib.hid hu
    have zjo : ¬ (jo : Int) < 0 := by omega
    clear ho1 ho2 hu
    have k1 := cell_blkD HE.out.cb (i := 1) (u := .string ky) rfl
    have k2 := cell_blkD HE.out.cb (i := 2) (u := .slice a n c) rfl
    have k3 := cell_blkD HE.out.cb (i := 3) (u := .int .i64 vr) rfl
    have k4 := cell_blkD HE.out.cb (i := 4) (u := .int .i64 at_) rfl
    have k5 := cell_blkD HE.out.cb (i := 5) (u := .int .i64 nn) rfl
    have k6 := cell_blkD HE.out.cb (i := 6) (u := .int .i64 id) rfl
    have HP := Lib.hid (dcom_any (ki := 9) (ky := ky) (vr := vr) (at_ := at_) (nn := nn) (id := id) (a := a) (n := n) (c := c) HE.out.st HU.out (Nat.le_trans hbs HE.out.bel.size) hver)
    go_wp2_with fail
    refine HP.out.mono ?_
    rintro e w1 hq
    obtain ⟨er, v9, b9, rfl⟩ := hq.shape
    have HQ := Lib.hid hq
    have HRB := Lib.hid (rb_kept HE.out.st HE.out.rb hq.1)
    obtain ⟨⟨q0, q1, q2, q3, q4, q5, q6⟩, r0, r1, r2, r3, r4, r5, r6⟩ := rb_cells HRB.out
    clear hq k0 k1 k2 k3 k4 k5 k6
    unfold rep
    go_wp2_with fail
    clear q0 q1 q2 q3 q4 q5 q6 r0 r1 r2 r3 r4 r5 r6
    obtain ⟨W5, hW5⟩ : ∃ W5, W5 = setR w1 (w.heap.size + 1) (.int .i64 er) (.slice none 0 0) (.int .i64 v9) (.int .i64 b9) (.int .i64 0) (.slice none 0 0) (.bool false) := ⟨_, rfl⟩
    have hr5 := setR_at0 HRB.out (.int .i64 er) (.slice none 0 0) (.int .i64 v9) (.int .i64 b9) (.int .i64 0) (.slice none 0 0) (.bool false)
    have hF5 := (Frm.refl (fun b => b = w.heap.size + 1) w1).setR (R := w.heap.size + 1) (.inl rfl) (.int .i64 er) (.slice none 0 0) (.int .i64 v9) (.int .i64 b9) (.int .i64 0) (.slice none 0 0) (.bool false)
    rw [← hW5] at hr5 hF5
    unfold setR at hW5
    rw [← hW5]
    exact bodyPost_ret (ret_rep rfl _ _ (w.heap.size + 1) rfl hr5) rfl (by
      unfold Do9
      rw [HO2.out]
      intro u' hu'
      rw [HU.out] at hu'
      cases hu'
      exact HQ.out.out HE.out.bel HE.out.st HE.out.rb (Nat.le_succ _) hF5)
set_option maxRecDepth 100000 in
set_option maxHeartbeats 16000000 in
theorem ddo_10 {w : World} {S base : Nat} {σ : DSto} (h : DStAt w S base σ) {vr at_ nn id : Int} {ky : ByteArray} {a : Option Addr} {n c : Nat} (hbs : base ≤ w.heap.size) :
    Calls Try.prog 21 #[.pointer (some ⟨S, 0, none⟩), .agg #[.int .i64 10, .string ky, .slice a n c, .int .i64 vr, .int .i64 at_, .int .i64 nn, .int .i64 id]] w (Do10 w S base σ id) := by
  have HE := Lib.hid (dent_mk h #[.int .i64 10, .string ky, .slice a n c, .int .i64 vr, .int .i64 at_, .int .i64 nn, .int .i64 id])
  have hSl : S < w.heap.size := (Array.getElem?_eq_some_iff.1 h.blk).1
  clear h
  go_enter Try.func21, Try.ntmps21
  go_upto_region 1 with fail
  obtain ⟨W0, hW0⟩ : ∃ W0, W0 = (w.alloc (.cells #[.int .i64 10, .string ky, .slice a n c, .int .i64 vr, .int .i64 at_, .int .i64 nn, .int .i64 id] 30)).alloc (.cells zrep 36) := ⟨_, rfl⟩
  rw [← hW0] at HE
  unfold zrep at hW0
  rw [← hW0]
  clear hW0
  obtain ⟨ai, hai⟩ : ∃ ai, ai = atK σ.objs ky := ⟨_, rfl⟩
  obtain ⟨oi, hoi⟩ : ∃ oi, oi = openK σ.ups id := ⟨_, rfl⟩
  have HAT := Lib.hid (fun k => dat_any (HE.out.st.drewN k) ky)
  have HOP := Lib.hid (fun k => dopen_any (HE.out.st.drewN k) id)
  rw [← hai] at HAT
  rw [← hoi] at HOP
  have k1 := cell_blkD HE.out.cb (i := 1) (u := .string ky) rfl
  have k6 := cell_blkD HE.out.cb (i := 6) (u := .int .i64 id) rfl
  go_quiet ((first | (go_at_call 17; exact Calls.quiet_of_same (HAT.out _)) | (go_at_call 40; exact Calls.quiet_of_same (HOP.out _))))
  rename Nat => nq
  clear k1 k6 HAT HOP
  have HE1 := Lib.hid (HE.out.drewN nq)
  obtain ⟨W1, hW1⟩ : ∃ W1, W1 = W0.drewN nq := ⟨_, rfl⟩
  rw [← hW1] at HE1
  rw [← hW1]
  clear HE hW1
  have HE := HE1
  clear HE1
  have hz0 := HE.out.sz
  have hk0 : w.heap.size < W1.heap.size := by omega
  have hr0 : w.heap.size + 1 < W1.heap.size := by omega
  have hS0 : S < W1.heap.size := by omega
  have HZ0 := Lib.hid hz0
  clear hz0
  have HR0 := Lib.hid (Below.refl W1.heap.size W1)
  have k0 := cell_blkD HE.out.cb (i := 0) (u := .int .i64 10) rfl
  have HAI := Lib.hid hai
  have HOI := Lib.hid hoi
  clear hai hoi
  rcases openK_neg (l := σ.ups) (k := id) with ⟨ho1, ho2⟩ | ⟨jo, ho1, ho2⟩
  · have hoi := HOI.out
    rw [ho1] at hoi
    clear HOI
    subst hoi
    have HNO := Lib.hid (show ∀ e w', NoD w S base σ 7 e w' → Do10 w S base σ id e w' from fun e w' h => by unfold Do10; rw [ho2]; exact h)
    clear ho1 ho2
    go_wp2_with fail
    refine (dbad_any 7 W1).mono ?_
    rintro e wE ⟨rfl, hbE⟩
    unfold repA
    have hbe := HR0.out.trans (hbE.mono HR0.out.size)
    have HRB := Lib.hid ((hbe.block (w.heap.size + 1) hr0).trans HE.out.rb)
    have HST := Lib.hid (HE.out.st.below hbe)
    have HFR := Lib.hid (show Frm (DF S σ) w wE from Frm.ofBelow (HE.out.bel.trans (hbe.mono HE.out.bel.size)))
    obtain ⟨⟨q0, q1, q2, q3, q4, q5, q6⟩, r0, r1, r2, r3, r4, r5, r6⟩ := rb_cells HRB.out
    clear hbE hbe
    go_wp2_with fail
    clear q0 q1 q2 q3 q4 q5 q6 r0 r1 r2 r3 r4 r5 r6
    obtain ⟨W5, hW5⟩ : ∃ W5, W5 = setR wE (w.heap.size + 1) (.int .i64 7) (.slice none 0 0) (.int .i64 0) (.int .i64 0) (.int .i64 0) (.slice none 0 0) (.bool false) := ⟨_, rfl⟩
    have hr5 := setR_at0 HRB.out (.int .i64 7) (.slice none 0 0) (.int .i64 0) (.int .i64 0) (.int .i64 0) (.slice none 0 0) (.bool false)
    have hF5 := (Frm.refl (fun b => b = w.heap.size + 1) wE).setR (R := w.heap.size + 1) (.inl rfl) (.int .i64 7) (.slice none 0 0) (.int .i64 0) (.int .i64 0) (.int .i64 0) (.slice none 0 0) (.bool false)
    rw [← hW5] at hr5 hF5
    unfold setR at hW5
    rw [← hW5]
    have hfin := put_done HST.out HRB.out (Nat.le_succ _) HFR.out hF5
    exact bodyPost_ret (ret_rep rfl _ _ (w.heap.size + 1) rfl hr5) rfl (HNO.out _ _ ⟨rfl, hfin⟩)
  · have hoi := HOI.out
    rw [ho1] at hoi
    clear HOI
    subst hoi
    obtain ⟨u, hu, _, hul⟩ := find_at ho2
    have HO2 := Lib.hid ho2
    have HU := Lib.hid hu
    have zjo : ¬ (jo : Int) < 0 := by omega
    clear ho1 ho2 hu
    have HP := Lib.hid (ddrop_any HE.out.st hul (Nat.le_trans hbs HE.out.bel.size))
    go_wp2_with fail
    refine HP.out.mono ?_
    rintro e w1 ⟨rfl, ⟨ua', uc', hdst⟩, hgd⟩
    have hf1 : Frm (DF S σ) W1 w1 := ⟨hgd.os, hgd.tape, hgd.output, hgd.size, fun b hb hf => hgd.block b hb (fun e => hf (.inl (Option.some.inj e)))⟩
    have HRB := Lib.hid (rb_kept HE.out.st HE.out.rb hf1)
    have HF1 := Lib.hid hf1
    have HST := Lib.hid hdst
    obtain ⟨⟨q0, q1, q2, q3, q4, q5, q6⟩, r0, r1, r2, r3, r4, r5, r6⟩ := rb_cells HRB.out
    clear hdst hgd hf1
    go_wp2_with fail
    clear q0 q1 q2 q3 q4 q5 q6 r0 r1 r2 r3 r4 r5 r6
    obtain ⟨W5, hW5⟩ : ∃ W5, W5 = setR w1 (w.heap.size + 1) (.int .i64 0) (.slice none 0 0) (.int .i64 0) (.int .i64 0) (.int .i64 0) (.slice none 0 0) (.bool false) := ⟨_, rfl⟩
    have hr5 := setR_at0 HRB.out (.int .i64 0) (.slice none 0 0) (.int .i64 0) (.int .i64 0) (.int .i64 0) (.slice none 0 0) (.bool false)
    have hF5 := (Frm.refl (fun b => b = w.heap.size + 1) w1).setR (R := w.heap.size + 1) (.inl rfl) (.int .i64 0) (.slice none 0 0) (.int .i64 0) (.int .i64 0) (.int .i64 0) (.slice none 0 0) (.bool false)
    rw [← hW5] at hr5 hF5
    unfold setR at hW5
    rw [← hW5]
    have hfin := done9 HE.out.bel HE.out.st HE.out.rb (Nat.le_succ _) HF1.out HST.out hF5
    exact bodyPost_ret (ret_rep rfl _ _ (w.heap.size + 1) rfl hr5) rfl (by
      unfold Do10
      rw [HO2.out]
      exact ⟨rfl, ⟨ua', uc', hfin.1⟩, hfin.2⟩)
end Go.Proofs.Ytodoklnohedolaa
end PkUC4_6
