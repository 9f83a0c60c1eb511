/- Texts put together by packtpl2.py: SdCom, SdV, SdX, Um, Uq, SdDoU, SdDoG, Chain, SdDoC, Un, Uo, Ui, Uk, Ur, SlD. -/
import Derived.Test.YtodoklnohedolaaPkUD1
import Derived.Test.YtodoklnohedolaaPkUD2
import Derived.Deep.QuietTactic
import Derived.BigQuiet
import Derived.Laws.Tables
import Derived.Lib.SlBytesConst
section PkUD3_0
/- The document's complete, walked. Written by gensdcom.py. -/
namespace Go.Proofs.Ytodoklnohedolaa
open Go.RowKit
set_option linter.unusedVariables false

set_option maxRecDepth 100000 in
set_option maxHeartbeats 16000000 in
theorem dcom_any {w : World} {S base : Nat} {σ : DSto} (h : DStAt w S base σ) {i : Nat} {u : DUpl} (hu : σ.ups[i]? = some u) {ki vr at_ nn id : Int} {ky : ByteArray} {a : Option Addr} {n c : Nat} (hbs : base ≤ w.heap.size) (hver : 0 ≤ σ.ver ∧ σ.ver ≤ 1000000000) :
    Calls Try.prog 48 #[.pointer (some ⟨S, 0, none⟩), .int .i64 (i : Int), .agg #[.int .i64 ki, .string ky, .slice a n c, .int .i64 vr, .int .i64 at_, .int .i64 nn, .int .i64 id]] w (ComDP w S base σ i u nn) := by
  have HE := Lib.hid (dent_mk h #[.int .i64 ki, .string ky, .slice a n c, .int .i64 vr, .int .i64 at_, .int .i64 nn, .int .i64 id])
  have HU := Lib.hid hu
  have HUP := Lib.hid (h.upl u (List.mem_of_getElem? hu))
  have huf := h.uf
  have hSl : S < w.heap.size := (Array.getElem?_eq_some_iff.1 h.blk).1
  have hul : i < σ.ups.length := (List.getElem?_eq_some_iff.1 hu).1
  clear h hu
  go_enter Try.func48, Try.ntmps48
  go_upto_region 1 with fail
  obtain ⟨W0, hW0⟩ : ∃ W0, W0 = (w.alloc (.cells #[.int .i64 ki, .string ky, .slice a n c, .int .i64 vr, .int .i64 at_, .int .i64 nn, .int .i64 id] 30)).alloc (.cells zrep 36) := ⟨_, rfl⟩
  rw [← hW0] at HE
  unfold zrep at hW0
  rw [← hW0]
  clear hW0
  have hz0 := HE.out.sz
  have hk0 : w.heap.size < W0.heap.size := by omega
  have hr0 : w.heap.size + 1 < W0.heap.size := by omega
  have hS0 : S < W0.heap.size := by omega
  have HZ0 := Lib.hid hz0
  clear hz0
  have HV0 := Lib.hid HE.out.st.ups
  obtain ⟨gb, off, hga, hgl, _, hgc⟩ := HV0.out.get hul
  have hgd : σ.ups.getD i DUplS.z = u := by rw [List.getD_eq_getElem?_getD, HU.out]; rfl
  rw [hgd] at hgc
  obtain ⟨uid, ub, uk, pa, pn, pc, parts⟩ := u
  have v0 : W0.cell? ⟨gb, off + i * 4, none⟩ = some (.int .i64 uid) := hgc 0 _ rfl
  have v1 : W0.cell? ⟨gb, off + i * 4 + 1, none⟩ = some (.int .i64 ub) := hgc 1 _ rfl
  have v2 : W0.cell? ⟨gb, off + i * 4 + 2, none⟩ = some (.string uk) := hgc 2 _ rfl
  have v3 : W0.cell? ⟨gb, off + i * 4 + 3, none⟩ = some (.slice pa pn pc) := hgc 3 _ rfl
  have c1 := cell_blkD HE.out.st.blk (i := 1) (u := .slice σ.ua σ.ups.length σ.uc) rfl
  rw [hga] at c1
  obtain ⟨m9, hm9⟩ : ∃ m9, m9 = σ.ups.length := ⟨_, rfl⟩
  obtain ⟨uc9, huc9⟩ : ∃ uc9, uc9 = σ.uc := ⟨_, rfl⟩
  rw [← hm9, ← huc9] at c1
  have HUL := Lib.hid hul
  rw [← hm9] at hul huf
  have HM9 := Lib.hid (And.intro hm9 huc9)
  have zi : (i : Int) < (m9 : Int) := by omega
  have zi0 : (0 : Int) ≤ (i : Int) := by omega
  have hpn := HUP.out.few
  have hpl := HUP.out.len
  have HPL := Lib.hid (show parts.length = pn from hpl)
  have HV := Lib.hid (show VecAt DPrtS W0 pa pn pc parts from (VecAt.ofOwn HUP.out.row hpl (fun _ _ => trivial)).kept HE.out.bel)
  have hpc := HV.out.cap
  have hpcm := HV.out.capm
  obtain ⟨b7, hb7⟩ : ∃ b7, b7 = W0.heap.size := ⟨_, rfl⟩
  obtain ⟨W7, hW7⟩ : ∃ W7, W7 = W0.alloc (.cells #[.int .i64 uid, .int .i64 ub, .string uk, .slice pa pn pc] 85) := ⟨_, rfl⟩
  have hB7 : Below W0.heap.size W0 W7 := by rw [hW7]; exact (Below.refl _ _).alloc (Nat.le_refl _) _
  have hK7 : W7.heap[b7]? = some (.cells #[.int .i64 uid, .int .i64 ub, .string uk, .slice pa pn pc] 85 (0, 0)) := by rw [hW7, hb7]; exact heap_alloc_newD W0 _
  have HB7 := Lib.hid hB7
  have HK7 := Lib.hid hK7
  have HW7 := Lib.hid hW7
  have HBE7 := Lib.hid hb7
  clear hm9 huc9 hgc hgd hga hgl hpl hW7 hB7 hK7
  go_upto_region 2 with fail
  rw [← HW7.out, ← HBE7.out]
  clear v0 v1 v2 v3 c1 hb7
  have k5 := cell_blkD (cells_of_below HB7.out HE.out.cb) (i := 5) (u := .int .i64 nn) rfl
  have d3 := cell_blkD HK7.out (i := 3) (u := .slice pa pn pc) rfl
  by_cases h1 : nn < 1
  case pos =>
    have HER := Lib.hid (show comDE σ ⟨uid, ub, uk, pa, pn, pc, parts⟩ nn = 4 from by unfold comDE; rw [if_pos (.inl h1)])
    go_wp2_with fail
    refine (dbad_any 4 W7).mono ?_
    rintro e wE ⟨rfl, hbE⟩
    unfold repA
    have hbe := HB7.out.trans (hbE.mono HB7.out.size)
    have hrb := (hbe.block (w.heap.size + 1) hr0).trans HE.out.rb
    obtain ⟨⟨q0, q1, q2, q3, q4, q5, q6⟩, r0, r1, r2, r3, r4, r5, r6⟩ := rb_cells hrb
    have HST := Lib.hid (HE.out.st.below hbe)
    have HFR := Lib.hid (show Frm (DF S σ) w wE from Frm.ofBelow (HE.out.bel.trans (hbe.mono HE.out.bel.size)))
    have HRB := Lib.hid hrb
    clear hbE hbe hrb
    go_wp2_with fail
    clear q0 q1 q2 q3 q4 q5 q6 r0 r1 r2 r3 r4 r5 r6
    obtain ⟨W5, hW5⟩ : ∃ W5, W5 = setR wE (w.heap.size + 1) (.int .i64 4) (.slice none 0 0) (.int .i64 0) (.int .i64 0) (.int .i64 0) (.slice none 0 0) (.bool false) := ⟨_, rfl⟩
    have hr5 := setR_at0 HRB.out (.int .i64 4) (.slice none 0 0) (.int .i64 0) (.int .i64 0) (.int .i64 0) (.slice none 0 0) (.bool false)
    have hF5 := (Frm.refl (fun b => b = w.heap.size + 1) wE).setR (R := w.heap.size + 1) (.inl rfl) (.int .i64 4) (.slice none 0 0) (.int .i64 0) (.int .i64 0) (.int .i64 0) (.slice none 0 0) (.bool false)
    rw [← hW5] at hr5 hF5
    unfold setR at hW5
    rw [← hW5]
    have hfin := put_done HST.out HRB.out (Nat.le_succ _) HFR.out hF5
    exact bodyPost_ret (ret_rep rfl _ _ (w.heap.size + 1) rfl hr5) rfl (ComDP.no HER.out (by decide) hfin)
  by_cases h2 : nn = (pn : Int)
  case neg =>
    have HNE := Lib.hid (show nn < 1 ∨ nn ≠ (parts.length : Int) from .inr (by rw [HPL.out]; exact h2))
    have HER := Lib.hid (show comDE σ ⟨uid, ub, uk, pa, pn, pc, parts⟩ nn = 4 from by unfold comDE; rw [if_pos HNE.out])
    go_wp2_with fail
    refine (dbad_any 4 W7).mono ?_
    rintro e wE ⟨rfl, hbE⟩
    unfold repA
    have hbe := HB7.out.trans (hbE.mono HB7.out.size)
    have hrb := (hbe.block (w.heap.size + 1) hr0).trans HE.out.rb
    obtain ⟨⟨q0, q1, q2, q3, q4, q5, q6⟩, r0, r1, r2, r3, r4, r5, r6⟩ := rb_cells hrb
    have HST := Lib.hid (HE.out.st.below hbe)
    have HFR := Lib.hid (show Frm (DF S σ) w wE from Frm.ofBelow (HE.out.bel.trans (hbe.mono HE.out.bel.size)))
    have HRB := Lib.hid hrb
    clear hbE hbe hrb
    go_wp2_with fail
    clear q0 q1 q2 q3 q4 q5 q6 r0 r1 r2 r3 r4 r5 r6
    obtain ⟨W5, hW5⟩ : ∃ W5, W5 = setR wE (w.heap.size + 1) (.int .i64 4) (.slice none 0 0) (.int .i64 0) (.int .i64 0) (.int .i64 0) (.slice none 0 0) (.bool false) := ⟨_, rfl⟩
    have hr5 := setR_at0 HRB.out (.int .i64 4) (.slice none 0 0) (.int .i64 0) (.int .i64 0) (.int .i64 0) (.slice none 0 0) (.bool false)
    have hF5 := (Frm.refl (fun b => b = w.heap.size + 1) wE).setR (R := w.heap.size + 1) (.inl rfl) (.int .i64 4) (.slice none 0 0) (.int .i64 0) (.int .i64 0) (.int .i64 0) (.slice none 0 0) (.bool false)
    rw [← hW5] at hr5 hF5
    unfold setR at hW5
    rw [← hW5]
    have hfin := put_done HST.out HRB.out (Nat.le_succ _) HFR.out hF5
    exact bodyPost_ret (ret_rep rfl _ _ (w.heap.size + 1) rfl hr5) rfl (ComDP.no HER.out (by decide) hfin)
  subst h2
  have HOK := Lib.hid (show ¬ ((pn : Int) < 1 ∨ (pn : Int) ≠ (parts.length : Int)) from by rw [HPL.out]; omega)
  have hpn1 : 1 ≤ pn := by omega
  obtain ⟨b8, hb8⟩ : ∃ b8, b8 = W7.heap.size := ⟨_, rfl⟩
  obtain ⟨W8, hW8⟩ : ∃ W8, W8 = W7.alloc (.cells #[] 5) := ⟨_, rfl⟩
  have HB8 := Lib.hid (show Below W7.heap.size W7 W8 from by rw [hW8]; exact (Below.refl _ _).alloc (Nat.le_refl _) _)
  have HO8 := Lib.hid (show W8.ownsRow W7.heap.size 5 1 (.slice (some ⟨b8, 0, none⟩) 0 0) 0 (bv []) from by rw [hW8, hb8]; exact World.ownsRow_lit (base := W7.heap.size) (e := 5) (size := 1) W7 #[] 0 (Nat.le_refl _) (by unfold maxLen; omega) rfl)
  have HW8 := Lib.hid hW8
  have HBE8 := Lib.hid hb8
  clear hW8 hb8
  go_upto_region 5 with fail
  rw [← HW8.out, ← HBE8.out]
  clear k5 d3
  go_wp2_with fail
  go_loopw [8, 9] (fun s8 s9 wr => ∃ (q L c8 : Nat) (a8 : Option Addr) (d : List Nat), q ≤ pn ∧ L ≤ q * 8388608 ∧ s8 = .slice a8 L c8 ∧ s9 = .int .i64 ((q : Int) + 1) ∧ Hid (catD parts q = some d) ∧ Hid (d.length = L) ∧ Hid (∀ x ∈ d, x < 256) ∧ Hid (wr.ownsRow W7.heap.size 5 1 (.slice a8 L c8) L (bv d)) ∧ Hid (Below W7.heap.size W7 wr)) (fun _ s9 _ => pn + 1 - (intOf s9).toNat)
  case atStart => exact ⟨0, 0, 0, _, [], by omega, by omega, rfl, by rfl, Lib.hid rfl, Lib.hid rfl, Lib.hid (fun x hx => by cases hx), HO8, HB8⟩
  case round =>
    clear HO8 HB8
    obtain ⟨q, L, c8, a8, d, hq, hL, rfl, rfl, HC, HDL, HDB, HO, HB⟩ := hrel
    rename World => wr
    have k5 := cell_blkD (cells_of_below HB.out (cells_of_below HB7.out HE.out.cb)) (i := 5) (u := .int .i64 (pn : Int)) rfl
    have d3 := cell_blkD (cells_of_below HB.out HK7.out) (i := 3) (u := .slice pa pn pc) rfl
    by_cases hqn : q < pn
    · have zq : ((q : Int) + 1) ≤ (pn : Int) := by omega
      have wq : IntKind.i64.wrap ((q : Int) + 1 + 1) = (q : Int) + 1 + 1 := IntWalk.i64_in _ (by omega)
      go_wp2_with fail
      clear k5 d3
      go_loopw [8, 10, 42] (fun s8 s10 s42 wq => ∃ (j L2 c2 : Nat) (a2 : Option Addr) (d2 : List Nat) (th : Bool), j ≤ pn ∧ L2 ≤ L + j * 262144 ∧ s8 = .slice a2 L2 c2 ∧ s10 = .bool th ∧ s42 = .int .i64 (j : Int) ∧ Hid (d2 = d ++ matchD (parts.take j) ((q : Int) + 1)) ∧ Hid (th = hasP (parts.take j) ((q : Int) + 1)) ∧ Hid (d2.length = L2) ∧ Hid (∀ x ∈ d2, x < 256) ∧ Hid (wq.ownsRow W7.heap.size 5 1 (.slice a2 L2 c2) L2 (bv d2)) ∧ Hid (Below W7.heap.size W7 wq)) (fun _ _ s42 _ => pn - (intOf s42).toNat)
      case atStart => exact ⟨0, L, c8, a8, d, false, by omega, by omega, rfl, rfl, by rfl, Lib.hid (by rw [List.take_zero]; exact (List.append_nil d).symm), Lib.hid rfl, HDL, HDB, HO, HB⟩
      case round =>
        clear HO HB
        obtain ⟨j, L2, c2, a2, d2, th, hj, hL2, rfl, rfl, rfl, HD2, HTH, HL2, HB2, HO, HB⟩ := hrel
        rename World => wv
        by_cases hin : j < pn
        · obtain ⟨b, off2, rfl, _, _, hc⟩ := (HV.out.kept (HB7.out.trans (HB.out.mono HB7.out.size))).get hin
          have hgl := getD_some (d := DPrtS.z) (show j < parts.length by rw [HV.out.len]; exact hin)
          obtain ⟨x, hxx⟩ : ∃ x, x = parts.getD j DPrtS.z := ⟨_, rfl⟩
          rw [← hxx] at hc hgl
          have hpo := HUP.out.prt x (List.mem_of_getElem? hgl)
          have hsm := hpo.small
          have HFS := Lib.hid (matchD_succ (n := (q : Int) + 1) hgl)
          have HHS := Lib.hid (hasP_succ (n := (q : Int) + 1) hgl)
          have HXB := Lib.hid hpo.bytes
          obtain ⟨xn, xa, xd, xc, xxs⟩ := x
          have k0 : wv.cell? ⟨b, off2 + j * 2, none⟩ = some (.int .i64 xn) := hc 0 _ rfl
          have k1 : wv.cell? ⟨b, off2 + j * 2 + 1, none⟩ = some (.slice xa xd xc) := hc 1 _ rfl
          have hxd : xd ≤ 262144 := hsm
          have HL3 := Lib.hid (show L2 ≤ L + (j + 1) * 262144 ∧ L2 + xd ≤ L + (j + 1) * 262144 from by omega)
          obtain ⟨bx, hbx⟩ : ∃ bx, bx = wv.heap.size := ⟨_, rfl⟩
          obtain ⟨W3, hW3⟩ : ∃ W3, W3 = wv.alloc (.cells #[.int .i64 xn, .slice xa xd xc] 115) := ⟨_, rfl⟩
          have hb3 : Below wv.heap.size wv W3 := by rw [hW3]; exact (Below.refl _ _).alloc (Nat.le_refl _) _
          have hk3 : W3.heap[bx]? = some (.cells #[.int .i64 xn, .slice xa xd xc] 115 (0, 0)) := by rw [hW3, hbx]; exact heap_alloc_newD wv _
          have d0 := cell_blkD hk3 (i := 0) (u := .int .i64 xn) rfl
          have d1 := cell_blkD hk3 (i := 1) (u := .slice xa xd xc) rfl
          have hb37 := HB.out.trans (hb3.mono HB.out.size)
          have HB3 := Lib.hid hb37
          have HO3 := Lib.hid (own_below HO.out hb3)
          have HXB3 := Lib.hid (HXB.out.kept (HE.out.bel.trans ((HB7.out.trans (hb37.mono HB7.out.size)).mono HE.out.bel.size)))
          have HW3 := Lib.hid hW3
          have HBX := Lib.hid hbx
          have zj : (j : Int) < (pn : Int) := by omega
          have zj0 : (0 : Int) ≤ (j : Int) := by omega
          have wj : IntKind.i64.wrap ((j : Int) + 1) = (j : Int) + 1 := IntWalk.i64_in _ (by omega)
          clear hc hxx hgl hpo hsm hbx hW3 hb3 hk3 HB hb37 HO HXB
          go_upto_region 12 with fail
          rw [← HW3.out, ← HBX.out]
          clear k0 k1
          by_cases e : xn = (q : Int) + 1
          · have HF2 := Lib.hid (show d2 ++ xxs = d ++ matchD (parts.take (j + 1)) ((q : Int) + 1) from by rw [HFS.out, if_pos e, ← List.append_assoc, ← HD2.out])
            have HH2 := Lib.hid (show true = hasP (parts.take (j + 1)) ((q : Int) + 1) from by rw [HHS.out, decide_eq_true e, Bool.or_true])
            clear HFS HHS
            subst e
            go_wp2_with (at_builtin; refine wpList_append_bytes rfl (.tmp 50) (.tmp 52) rfl W7.heap.size _ _ d2 rfl HO3.out _ _ _ xxs rfl HXB3.out (by omega) HB3.out.size ?_)
            intro v5 w5 ho5 hg5
            have HB5 := Lib.hid (HB3.out.grown hg5 HB3.out.size (fun k hk => (HO3.out.lt k hk).1))
            obtain ⟨a5, c5, rfl⟩ := own_sliceD ho5
            have HO5 := Lib.hid ho5
            have HBY := Lib.hid (show ∀ x ∈ d2 ++ xxs, x < 256 from fun x hx => (List.mem_append.1 hx).elim (HB2.out x) (HXB3.out.byte x))
            have HLN := Lib.hid (show (d2 ++ xxs).length = L2 + xd from by rw [List.length_append, HL2.out, HXB3.out.len])
            clear ho5 hg5 HO3 d0 d1
            go_wp2_with fail
            go_roundw
            case rel => exact ⟨j + 1, L2 + xd, c5, a5, d2 ++ xxs, true, by omega, HL3.out.2, by first | rfl | (push_cast; rfl), rfl, by push_cast; rfl, HF2, HH2, HLN, HBY, HO5, HB5⟩
            case measure => simp only [intOf]; omega
          · have HF2 := Lib.hid (show d2 = d ++ matchD (parts.take (j + 1)) ((q : Int) + 1) from by rw [HFS.out, if_neg e, List.append_nil]; exact HD2.out)
            have HH2 := Lib.hid (show th = hasP (parts.take (j + 1)) ((q : Int) + 1) from by rw [HHS.out, decide_eq_false e, Bool.or_false]; exact HTH.out)
            have e2 : (xn == (q : Int) + 1) = false := by simpa using e
            go_wp2_with fail
            go_roundw
            case rel => exact ⟨j + 1, L2, c2, a2, d2, th, hin, HL3.out.1, rfl, rfl, by push_cast; rfl, HF2, HH2, HL2, HB2, HO3, HB3⟩
            case measure => simp only [intOf]; omega
        · have hjn : j = pn := by omega
          have htk : parts.take j = parts := by rw [hjn]; exact List.take_of_length_le (by rw [HV.out.len]; exact Nat.le_refl _)
          rw [htk] at HD2 HTH
          have zjn : ¬ (j : Int) < (pn : Int) := by omega
          have eq1 : ((q + 1 : Nat) : Int) = (q : Int) + 1 := by push_cast; rfl
          have HBW := Lib.hid (HB7.out.trans (HB.out.mono HB7.out.size))
          cases th with
          | true =>
            have HC2 := Lib.hid (show catD parts (q + 1) = some d2 from by
              have h9 := catD_yes HC.out (by rw [eq1]; exact HTH.out.symm)
              rw [eq1, ← HD2.out] at h9
              exact h9)
            clear htk eq1
            go_wp2_with fail
            go_roundw
            case rel => exact ⟨q + 1, L2, c2, a2, d2, by omega, by omega, rfl, by push_cast; rfl, HC2, HL2, HB2, HO, HB⟩
            case measure => simp only [intOf]; omega
          | false =>
            have HNO := Lib.hid (catD_no (l := parts) (k := q) (by rw [eq1]; exact HTH.out.symm) pn hqn)
            clear htk eq1
            have HER := Lib.hid (show comDE σ ⟨uid, ub, uk, pa, pn, pc, parts⟩ (pn : Int) = 4 from by unfold comDE; rw [if_neg HOK.out, show ((pn : Int)).toNat = pn from Int.toNat_natCast _]; show (match catD parts pn with | none => (4 : Int) | some d => _) = 4; rw [HNO.out])
            go_wp2_with fail
            refine (dbad_any 4 wv).mono ?_
            rintro e wE ⟨rfl, hbE⟩
            unfold repA
            have hbe := HBW.out.trans (hbE.mono HBW.out.size)
            have hrb := (hbe.block (w.heap.size + 1) hr0).trans HE.out.rb
            obtain ⟨⟨q0, q1, q2, q3, q4, q5, q6⟩, r0, r1, r2, r3, r4, r5, r6⟩ := rb_cells hrb
            have HST := Lib.hid (HE.out.st.below hbe)
            have HFR := Lib.hid (show Frm (DF S σ) w wE from Frm.ofBelow (HE.out.bel.trans (hbe.mono HE.out.bel.size)))
            have HRB := Lib.hid hrb
            clear hbE hbe hrb
            go_wp2_with fail
            clear q0 q1 q2 q3 q4 q5 q6 r0 r1 r2 r3 r4 r5 r6
            obtain ⟨W5, hW5⟩ : ∃ W5, W5 = setR wE (w.heap.size + 1) (.int .i64 4) (.slice none 0 0) (.int .i64 0) (.int .i64 0) (.int .i64 0) (.slice none 0 0) (.bool false) := ⟨_, rfl⟩
            have hr5 := setR_at0 HRB.out (.int .i64 4) (.slice none 0 0) (.int .i64 0) (.int .i64 0) (.int .i64 0) (.slice none 0 0) (.bool false)
            have hF5 := (Frm.refl (fun b => b = w.heap.size + 1) wE).setR (R := w.heap.size + 1) (.inl rfl) (.int .i64 4) (.slice none 0 0) (.int .i64 0) (.int .i64 0) (.int .i64 0) (.slice none 0 0) (.bool false)
            rw [← hW5] at hr5 hF5
            unfold setR at hW5
            rw [← hW5]
            have hfin := put_done HST.out HRB.out (Nat.le_succ _) HFR.out hF5
            exact bodyPost_ret (ret_rep rfl _ _ (w.heap.size + 1) rfl hr5) rfl (ComDP.no HER.out (by decide) hfin)
    · have hqe : q = pn := by omega
      rw [hqe] at HC
      have zq : ¬ ((q : Int) + 1) ≤ (pn : Int) := by omega
      have HCN := Lib.hid (show catD parts ((pn : Int)).toNat = some d from by rw [Int.toNat_natCast]; exact HC.out)
      have HBW := Lib.hid (HB7.out.trans (HB.out.mono HB7.out.size))
      clear d3
      by_cases hlen : 262144 < L
      case pos =>
        have hlen' : (262144 : Int) < (L : Int) := by omega
        have HER := Lib.hid (show comDE σ ⟨uid, ub, uk, pa, pn, pc, parts⟩ (pn : Int) = 5 from by unfold comDE; rw [if_neg HOK.out]; show (match catD parts ((pn : Int)).toNat with | none => (4 : Int) | some d => _) = 5; rw [HCN.out]; show (if 262144 < d.length then (5 : Int) else _) = 5; rw [if_pos (by rw [HDL.out]; exact hlen)])
        go_wp2_with fail
        refine (dbad_any 5 wr).mono ?_
        rintro e wE ⟨rfl, hbE⟩
        unfold repA
        have hbe := HBW.out.trans (hbE.mono HBW.out.size)
        have hrb := (hbe.block (w.heap.size + 1) hr0).trans HE.out.rb
        obtain ⟨⟨q0, q1, q2, q3, q4, q5, q6⟩, r0, r1, r2, r3, r4, r5, r6⟩ := rb_cells hrb
        have HST := Lib.hid (HE.out.st.below hbe)
        have HFR := Lib.hid (show Frm (DF S σ) w wE from Frm.ofBelow (HE.out.bel.trans (hbe.mono HE.out.bel.size)))
        have HRB := Lib.hid hrb
        clear hbE hbe hrb
        go_wp2_with fail
        clear q0 q1 q2 q3 q4 q5 q6 r0 r1 r2 r3 r4 r5 r6
        obtain ⟨W5, hW5⟩ : ∃ W5, W5 = setR wE (w.heap.size + 1) (.int .i64 5) (.slice none 0 0) (.int .i64 0) (.int .i64 0) (.int .i64 0) (.slice none 0 0) (.bool false) := ⟨_, rfl⟩
        have hr5 := setR_at0 HRB.out (.int .i64 5) (.slice none 0 0) (.int .i64 0) (.int .i64 0) (.int .i64 0) (.slice none 0 0) (.bool false)
        have hF5 := (Frm.refl (fun b => b = w.heap.size + 1) wE).setR (R := w.heap.size + 1) (.inl rfl) (.int .i64 5) (.slice none 0 0) (.int .i64 0) (.int .i64 0) (.int .i64 0) (.slice none 0 0) (.bool false)
        rw [← hW5] at hr5 hF5
        unfold setR at hW5
        rw [← hW5]
        have hfin := put_done HST.out HRB.out (Nat.le_succ _) HFR.out hF5
        exact bodyPost_ret (ret_rep rfl _ _ (w.heap.size + 1) rfl hr5) rfl (ComDP.no HER.out (by decide) hfin)
      have hlen' : ¬ (262144 : Int) < (L : Int) := by omega
      have HSW := Lib.hid (HE.out.st.below HBW.out)
      have HAT := Lib.hid (dat_any HSW.out uk)
      have d2 := cell_blkD (cells_of_below HB.out HK7.out) (i := 2) (u := .string uk) rfl
      have c0 := cell_blkD HSW.out.blk (i := 0) (u := .slice σ.oa σ.objs.length σ.oc) rfl
      have HCD := Lib.hid (show ∀ z : Int, (if atK σ.objs uk = -1 ∧ 512 ≤ σ.objs.length then (9 : Int) else 0) = z → comDE σ ⟨uid, ub, uk, pa, pn, pc, parts⟩ (pn : Int) = z from fun z hz => by
        unfold comDE
        rw [if_neg HOK.out]
        show (match catD parts ((pn : Int)).toNat with | none => (4 : Int) | some d => _) = z
        rw [HCN.out]
        show (if 262144 < d.length then (5 : Int) else _) = z
        rw [if_neg (by rw [HDL.out]; exact hlen)]
        exact hz)
      go_upto_region 20 with fail
      rcases atK_neg (l := σ.objs) (k := uk) with ⟨hk1, hk2⟩ | ⟨jo, hk1, hk2⟩
      · by_cases hfl : 512 ≤ σ.objs.length
        case pos =>
          have hfl' : (512 : Int) ≤ (σ.objs.length : Int) := by omega
          have HE9 := Lib.hid (HCD.out 9 (if_pos ⟨hk1, hfl⟩))
          go_wp2_with fail
          refine HAT.out.mono ?_
          rintro e wy ⟨rfl, rfl⟩
          rw [hk1]
          have HER := HE9
          go_wp2_with fail
          refine (dbad_any 9 wy).mono ?_
          rintro e wE ⟨rfl, hbE⟩
          unfold repA
          have hbe := HBW.out.trans (hbE.mono HBW.out.size)
          have hrb := (hbe.block (w.heap.size + 1) hr0).trans HE.out.rb
          obtain ⟨⟨q0, q1, q2, q3, q4, q5, q6⟩, r0, r1, r2, r3, r4, r5, r6⟩ := rb_cells hrb
          have HST := Lib.hid (HE.out.st.below hbe)
          have HFR := Lib.hid (show Frm (DF S σ) w wE from Frm.ofBelow (HE.out.bel.trans (hbe.mono HE.out.bel.size)))
          have HRB := Lib.hid hrb
          clear hbE hbe hrb
          go_wp2_with fail
          clear q0 q1 q2 q3 q4 q5 q6 r0 r1 r2 r3 r4 r5 r6
          obtain ⟨W5, hW5⟩ : ∃ W5, W5 = setR wE (w.heap.size + 1) (.int .i64 9) (.slice none 0 0) (.int .i64 0) (.int .i64 0) (.int .i64 0) (.slice none 0 0) (.bool false) := ⟨_, rfl⟩
          have hr5 := setR_at0 HRB.out (.int .i64 9) (.slice none 0 0) (.int .i64 0) (.int .i64 0) (.int .i64 0) (.slice none 0 0) (.bool false)
          have hF5 := (Frm.refl (fun b => b = w.heap.size + 1) wE).setR (R := w.heap.size + 1) (.inl rfl) (.int .i64 9) (.slice none 0 0) (.int .i64 0) (.int .i64 0) (.int .i64 0) (.slice none 0 0) (.bool false)
          rw [← hW5] at hr5 hF5
          unfold setR at hW5
          rw [← hW5]
          have hfin := put_done HST.out HRB.out (Nat.le_succ _) HFR.out hF5
          exact bodyPost_ret (ret_rep rfl _ _ (w.heap.size + 1) rfl hr5) rfl (ComDP.no HER.out (by decide) hfin)
        case neg =>
          have hfl' : ¬ (512 : Int) ≤ (σ.objs.length : Int) := by omega
          have HE0 := Lib.hid (HCD.out 0 (if_neg (fun g => hfl g.2)))
          have HNW := Lib.hid (show atK σ.objs uk = -1 → σ.objs.length < 512 from fun _ => by omega)
          go_wp2_with fail
          refine HAT.out.mono ?_
          rintro e wy ⟨rfl, rfl⟩
          rw [hk1]
          go_upto_region 22 with fail
          clear d2 c0 k5
          have HDR := Lib.hid (ddrop_any HSW.out HUL.out (Nat.le_trans hbs (Nat.le_trans HE.out.bel.size HBW.out.size)))
          go_wp2_with fail
          refine HDR.out.mono ?_
          rintro e wd ⟨rfl, ⟨ua', uc', hdst⟩, hgd⟩
          have HDST := Lib.hid hdst
          have hgdk : ∀ {b : Nat} {cs : Array Value} {t : TypeId}, wy.heap[b]? = some (.cells cs t (0, 0)) → t ≠ 50 → wd.heap[b]? = some (.cells cs t (0, 0)) := fun {b cs t} hb ht => (hgd.block b (Array.getElem?_eq_some_iff.1 hb).1 (fun e => by
            have e1 : b = S := Option.some.inj e
            rw [e1, HSW.out.blk] at hb
            simp at hb
            exact ht hb.2.symm)).trans hb
          have hkd := hgdk (cells_of_below HB.out HK7.out) (by decide)
          have hrd := hgdk (cells_of_below HBW.out HE.out.rb) (by decide)
          obtain ⟨a9, c9, e9, hbd, _⟩ := BytesAt.ofOwn (HO.out.kept hgd (by
            cases hv : (Value.slice a8 L c8).ownBlock with
            | none => exact .inl rfl
            | some b =>
              refine .inr fun e => ?_
              have e1 : b = S := Option.some.inj e
              obtain ⟨cu, g2⟩ := own_blk_ty HO.out (b := b) (by
                cases a8 with
                | none => cases hv
                | some x => exact hv)
              rw [e1, HSW.out.blk] at g2
              simp at g2)) HDB.out (by omega)
          obtain ⟨ea, _, ec⟩ := Value.slice.inj e9
          rw [← ea, ← ec] at hbd
          have d2 := cell_blkD hkd (i := 2) (u := .string uk) rfl
          have hbsd : base ≤ wd.heap.size := Nat.le_trans hbs (Nat.le_trans HE.out.bel.size (Nat.le_trans HBW.out.size hgd.size))
          have HPT := Lib.hid (dput_any hdst uk hbd hver hbsd (by omega) HNW.out)
          have HFD := Lib.hid (show Frm (DF S σ) w wd from ⟨hgd.os.trans (HE.out.bel.trans (HBW.out.mono HE.out.bel.size)).os, hgd.tape.trans (HE.out.bel.trans (HBW.out.mono HE.out.bel.size)).tape, hgd.output.trans (HE.out.bel.trans (HBW.out.mono HE.out.bel.size)).output, Nat.le_trans (HE.out.bel.trans (HBW.out.mono HE.out.bel.size)).size hgd.size, fun b hb hf => (hgd.block b (Nat.lt_of_lt_of_le hb (HE.out.bel.trans (HBW.out.mono HE.out.bel.size)).size) (fun e => hf (.inl (Option.some.inj e)))).trans ((HE.out.bel.trans (HBW.out.mono HE.out.bel.size)).block b hb)⟩)
          have HRD := Lib.hid hrd
          clear hdst hgd hgdk hkd hrd e9 ea ec hbd
          go_wp2_with fail
          refine HPT.out.mono ?_
          rintro e wp ⟨rfl, oa', oc', da', dc', hst, hfr, hfb⟩
          have HST := Lib.hid hst
          have HFR := Lib.hid (show Frm (DF S σ) w wp from HFD.out.trans hfr (fun b hb => .inl (by
            rcases hb with g | g
            · exact .inl g
            · exact .inr (.inl g))))
          have hrb : wp.heap[w.heap.size + 1]? = some (.cells zrep 36 (0, 0)) := hfr.at HRD.out (fun hb => by
            have h8 : DF S { σ with ua := ua', uc := uc', ups := outK σ.ups i } (w.heap.size + 1) := by
              rcases hb with g | g
              · exact .inl g
              · exact .inr (.inl g)
            obtain ⟨cs', t', g, gt⟩ := HDST.out.ty h8
            rw [HRD.out] at g
            simp at g
            exact rep_notD (g.2 ▸ gt))
          have HRB := Lib.hid hrb
          obtain ⟨⟨q0, q1, q2, q3, q4, q5, q6⟩, r0, r1, r2, r3, r4, r5, r6⟩ := rb_cells hrb
          clear hst hfr hrb d2
          unfold rep
          go_wp2_with fail
          clear q0 q1 q2 q3 q4 q5 q6 r0 r1 r2 r3 r4 r5 r6
          obtain ⟨W5, hW5⟩ : ∃ W5, W5 = setR wp (w.heap.size + 1) (.int .i64 0) (.slice none 0 0) (.int .i64 (σ.ver + 1)) (.int .i64 σ.now) (.int .i64 0) (.slice none 0 0) (.bool false) := ⟨_, rfl⟩
          have hr5 := setR_at0 HRB.out (.int .i64 0) (.slice none 0 0) (.int .i64 (σ.ver + 1)) (.int .i64 σ.now) (.int .i64 0) (.slice none 0 0) (.bool false)
          have hF5 := (Frm.refl (fun b => b = w.heap.size + 1) wp).setR (R := w.heap.size + 1) (.inl rfl) (.int .i64 0) (.slice none 0 0) (.int .i64 (σ.ver + 1)) (.int .i64 σ.now) (.int .i64 0) (.slice none 0 0) (.bool false)
          rw [← hW5] at hr5 hF5
          unfold setR at hW5
          rw [← hW5]
          have hfin := put_done HST.out HRB.out (Nat.le_succ _) HFR.out hF5
          exact bodyPost_ret (ret_rep rfl _ _ (w.heap.size + 1) rfl hr5) rfl ⟨hfin.2, fun e => absurd HE0.out e, fun _ => ⟨d, HCN.out, rfl, ua', uc', oa', oc', da', dc', by rw [HDL.out]; exact hfin.1, fun b hb => Nat.le_trans HFD.out.size (hfb b hb)⟩⟩
      · have HE0 := Lib.hid (HCD.out 0 (if_neg (fun g => by rw [hk1] at g; have := g.1; omega)))
        have HNW := Lib.hid (show atK σ.objs uk = -1 → σ.objs.length < 512 from fun g => by rw [hk1] at g; omega)
        have zjo : ¬ (jo : Int) < 0 := by omega
        go_wp2_with fail
        refine HAT.out.mono ?_
        rintro e wy ⟨rfl, rfl⟩
        rw [hk1]
        go_upto_region 22 with fail
        clear d2 c0 k5
        have HDR := Lib.hid (ddrop_any HSW.out HUL.out (Nat.le_trans hbs (Nat.le_trans HE.out.bel.size HBW.out.size)))
        go_wp2_with fail
        refine HDR.out.mono ?_
        rintro e wd ⟨rfl, ⟨ua', uc', hdst⟩, hgd⟩
        have HDST := Lib.hid hdst
        have hgdk : ∀ {b : Nat} {cs : Array Value} {t : TypeId}, wy.heap[b]? = some (.cells cs t (0, 0)) → t ≠ 50 → wd.heap[b]? = some (.cells cs t (0, 0)) := fun {b cs t} hb ht => (hgd.block b (Array.getElem?_eq_some_iff.1 hb).1 (fun e => by
          have e1 : b = S := Option.some.inj e
          rw [e1, HSW.out.blk] at hb
          simp at hb
          exact ht hb.2.symm)).trans hb
        have hkd := hgdk (cells_of_below HB.out HK7.out) (by decide)
        have hrd := hgdk (cells_of_below HBW.out HE.out.rb) (by decide)
        obtain ⟨a9, c9, e9, hbd, _⟩ := BytesAt.ofOwn (HO.out.kept hgd (by
          cases hv : (Value.slice a8 L c8).ownBlock with
          | none => exact .inl rfl
          | some b =>
            refine .inr fun e => ?_
            have e1 : b = S := Option.some.inj e
            obtain ⟨cu, g2⟩ := own_blk_ty HO.out (b := b) (by
              cases a8 with
              | none => cases hv
              | some x => exact hv)
            rw [e1, HSW.out.blk] at g2
            simp at g2)) HDB.out (by omega)
        obtain ⟨ea, _, ec⟩ := Value.slice.inj e9
        rw [← ea, ← ec] at hbd
        have d2 := cell_blkD hkd (i := 2) (u := .string uk) rfl
        have hbsd : base ≤ wd.heap.size := Nat.le_trans hbs (Nat.le_trans HE.out.bel.size (Nat.le_trans HBW.out.size hgd.size))
        have HPT := Lib.hid (dput_any hdst uk hbd hver hbsd (by omega) HNW.out)
        have HFD := Lib.hid (show Frm (DF S σ) w wd from ⟨hgd.os.trans (HE.out.bel.trans (HBW.out.mono HE.out.bel.size)).os, hgd.tape.trans (HE.out.bel.trans (HBW.out.mono HE.out.bel.size)).tape, hgd.output.trans (HE.out.bel.trans (HBW.out.mono HE.out.bel.size)).output, Nat.le_trans (HE.out.bel.trans (HBW.out.mono HE.out.bel.size)).size hgd.size, fun b hb hf => (hgd.block b (Nat.lt_of_lt_of_le hb (HE.out.bel.trans (HBW.out.mono HE.out.bel.size)).size) (fun e => hf (.inl (Option.some.inj e)))).trans ((HE.out.bel.trans (HBW.out.mono HE.out.bel.size)).block b hb)⟩)
        have HRD := Lib.hid hrd
        clear hdst hgd hgdk hkd hrd e9 ea ec hbd
        go_wp2_with fail
        refine HPT.out.mono ?_
        rintro e wp ⟨rfl, oa', oc', da', dc', hst, hfr, hfb⟩
        have HST := Lib.hid hst
        have HFR := Lib.hid (show Frm (DF S σ) w wp from HFD.out.trans hfr (fun b hb => .inl (by
          rcases hb with g | g
          · exact .inl g
          · exact .inr (.inl g))))
        have hrb : wp.heap[w.heap.size + 1]? = some (.cells zrep 36 (0, 0)) := hfr.at HRD.out (fun hb => by
          have h8 : DF S { σ with ua := ua', uc := uc', ups := outK σ.ups i } (w.heap.size + 1) := by
            rcases hb with g | g
            · exact .inl g
            · exact .inr (.inl g)
          obtain ⟨cs', t', g, gt⟩ := HDST.out.ty h8
          rw [HRD.out] at g
          simp at g
          exact rep_notD (g.2 ▸ gt))
        have HRB := Lib.hid hrb
        obtain ⟨⟨q0, q1, q2, q3, q4, q5, q6⟩, r0, r1, r2, r3, r4, r5, r6⟩ := rb_cells hrb
        clear hst hfr hrb d2
        unfold rep
        go_wp2_with fail
        clear q0 q1 q2 q3 q4 q5 q6 r0 r1 r2 r3 r4 r5 r6
        obtain ⟨W5, hW5⟩ : ∃ W5, W5 = setR wp (w.heap.size + 1) (.int .i64 0) (.slice none 0 0) (.int .i64 (σ.ver + 1)) (.int .i64 σ.now) (.int .i64 0) (.slice none 0 0) (.bool false) := ⟨_, rfl⟩
        have hr5 := setR_at0 HRB.out (.int .i64 0) (.slice none 0 0) (.int .i64 (σ.ver + 1)) (.int .i64 σ.now) (.int .i64 0) (.slice none 0 0) (.bool false)
        have hF5 := (Frm.refl (fun b => b = w.heap.size + 1) wp).setR (R := w.heap.size + 1) (.inl rfl) (.int .i64 0) (.slice none 0 0) (.int .i64 (σ.ver + 1)) (.int .i64 σ.now) (.int .i64 0) (.slice none 0 0) (.bool false)
        rw [← hW5] at hr5 hF5
        unfold setR at hW5
        rw [← hW5]
        have hfin := put_done HST.out HRB.out (Nat.le_succ _) HFR.out hF5
        exact bodyPost_ret (ret_rep rfl _ _ (w.heap.size + 1) rfl hr5) rfl ⟨hfin.2, fun e => absurd HE0.out e, fun _ => ⟨d, HCN.out, rfl, ua', uc', oa', oc', da', dc', by rw [HDL.out]; exact hfin.1, fun b hb => Nat.le_trans HFD.out.size (hfb b hb)⟩⟩
end Go.Proofs.Ytodoklnohedolaa
end PkUD3_0
section PkUD3_1
/- The document's Do, what its walks share. -/
namespace Go.Proofs.Ytodoklnohedolaa
open Go.RowKit
set_option linter.unusedVariables false

theorem DEnt.drewN {w W : World} {S base : Nat} {σ : DSto} {cs : Array Value} (h : DEnt w W S base σ cs) (k : Nat) : DEnt w (W.drewN k) S base σ cs :=
  ⟨h.st.drewN k, h.cb, h.rb, h.sz, ⟨h.bel.os, h.bel.tape, h.bel.output, h.bel.size, h.bel.block⟩⟩
theorem openK_neg {l : List DUpl} {k : Int} : (openK l k = -1 ∧ l.findIdx? (fun u => decide (u.id = k)) = none) ∨ ∃ j : Nat, openK l k = (j : Int) ∧ l.findIdx? (fun u => decide (u.id = k)) = some j := by
  unfold openK
  cases l.findIdx? (fun u => decide (u.id = k)) with
  | none => exact .inl ⟨rfl, rfl⟩
  | some j => exact .inr ⟨j, rfl, rfl⟩
theorem find_at {α : Type} {p : α → Bool} {l : List α} {j : Nat} (h : l.findIdx? p = some j) : ∃ x, l[j]? = some x ∧ p x = true ∧ j < l.length := by
  obtain ⟨h1, h2, _⟩ := List.findIdx?_eq_some_iff_getElem.1 h
  exact ⟨l[j], List.getElem?_eq_getElem h1, h2, h1⟩
/-- an errno, or nothing turned: the form of what a call answers -/
def NoD (w : World) (S base : Nat) (σ : DSto) (x : Int) (e : Ending) (w' : World) : Prop := e = .returned (rep0 x) ∧ DStAt w' S base σ ∧ Frm (DF S σ) w w'
theorem done9 {w W1 w1 w5 : World} {S base R : Nat} {σ σ' : DSto} {cs : Array Value} (hb : Below w.heap.size w W1) (hE : DStAt W1 S base σ) (hR : W1.heap[R]? = some (.cells cs 36 (0, 0))) (hRw : w.heap.size ≤ R) (hf : Frm (DF S σ) W1 w1) (hst : DStAt w1 S base σ') (h5 : Frm (fun b => b = R) w1 w5) : DStAt w5 S base σ' ∧ Frm (DF S σ) w w5 := by
  have hR1 : w1.heap[R]? = some (.cells cs 36 (0, 0)) := hf.at hR (fun hd => by
    obtain ⟨cs', t', g, gt⟩ := hE.ty hd
    rw [hR] at g
    simp at g
    exact rep_notD (g.2 ▸ gt))
  exact ⟨hst.frmT hR1 rep_notD h5, ((Frm.ofBelow hb).trans hf (fun i e => .inl e)).trans h5 (fun i e => .inr (by rw [e]; exact hRw))⟩
theorem rb_kept {W1 w1 : World} {S base R : Nat} {σ : DSto} {cs : Array Value} (hE : DStAt W1 S base σ) (hR : W1.heap[R]? = some (.cells cs 36 (0, 0))) (hf : Frm (DF S σ) W1 w1) : w1.heap[R]? = some (.cells cs 36 (0, 0)) := hf.at hR (fun hd => by
    obtain ⟨cs', t', g, gt⟩ := hE.ty hd
    rw [hR] at g
    simp at g
    exact rep_notD (g.2 ▸ gt))
/-- the kinds of an upload -/
def Do8 (w : World) (S base : Nat) (σ : DSto) (id nn : Int) (n : Nat) (xs : List Nat) (e : Ending) (w' : World) : Prop :=
  match σ.ups.findIdx? (fun u => decide (u.id = id)) with
  | none => NoD w S base σ 7 e w'
  | some j => ∀ u, σ.ups[j]? = some u → PrtDP w S base σ j u nn n xs e w'
def Do9 (w : World) (S base : Nat) (σ : DSto) (id nn : Int) (e : Ending) (w' : World) : Prop :=
  match σ.ups.findIdx? (fun u => decide (u.id = id)) with
  | none => NoD w S base σ 7 e w'
  | some j => ∀ u, σ.ups[j]? = some u → ComDP w S base σ j u nn e w'
def Do10 (w : World) (S base : Nat) (σ : DSto) (id : Int) (e : Ending) (w' : World) : Prop :=
  match σ.ups.findIdx? (fun u => decide (u.id = id)) with
  | none => NoD w S base σ 7 e w'
  | some j => e = .returned (rep0 0) ∧ (∃ ua uc, DStAt w' S base { σ with ua := ua, uc := uc, ups := outK σ.ups j }) ∧ Frm (DF S σ) w w'
theorem PrtDP.shape {w w' : World} {S base : Nat} {σ : DSto} {i : Nat} {u : DUpl} {nn : Int} {n : Nat} {xs : List Nat} {e : Ending} (h : PrtDP w S base σ i u nn n xs e w') : ∃ er, e = .returned (rep0 er) := by
  rcases Classical.em (prtDE σ u nn n = 0) with g | g
  · exact ⟨_, (h.2.2 g).1⟩
  · exact ⟨_, (h.2.1 g).1⟩
theorem PrtDP.out {w W1 w1 w5 : World} {S base R : Nat} {σ : DSto} {i : Nat} {u : DUpl} {nn : Int} {n : Nat} {xs : List Nat} {e : Ending} {cs : Array Value} (h : PrtDP W1 S base σ i u nn n xs e w1) (hb : Below w.heap.size w W1) (hE : DStAt W1 S base σ) (hR : W1.heap[R]? = some (.cells cs 36 (0, 0))) (hRw : w.heap.size ≤ R) (h5 : Frm (fun b => b = R) w1 w5) : PrtDP w S base σ i u nn n xs e w5 := by
  rcases Classical.em (prtDE σ u nn n = 0) with g | g
  · obtain ⟨he, ua, uc, pa, pn, pc, da, dc, hst, hfb⟩ := h.2.2 g
    have hd := done9 hb hE hR hRw h.1 hst h5
    exact ⟨hd.2, fun e0 => absurd g e0, fun _ => ⟨he, ua, uc, pa, pn, pc, da, dc, hd.1, fun b hb' => Nat.le_trans hb.size (hfb b hb')⟩⟩
  · obtain ⟨he, hst⟩ := h.2.1 g
    have hd := done9 hb hE hR hRw h.1 hst h5
    exact ⟨hd.2, fun _ => ⟨he, hd.1⟩, fun e0 => absurd e0 g⟩
theorem ComDP.shape {w w' : World} {S base : Nat} {σ : DSto} {i : Nat} {u : DUpl} {nn : Int} {e : Ending} (h : ComDP w S base σ i u nn e w') : ∃ er v b, e = .returned (rep er (.slice none 0 0) v b 0 (.slice none 0 0) false) := by
  rcases Classical.em (comDE σ u nn = 0) with g | g
  · obtain ⟨d, _, he, _⟩ := h.2.2 g
    exact ⟨_, _, _, he⟩
  · exact ⟨_, 0, 0, (h.2.1 g).1⟩
theorem ComDP.out {w W1 w1 w5 : World} {S base R : Nat} {σ : DSto} {i : Nat} {u : DUpl} {nn : Int} {e : Ending} {cs : Array Value} (h : ComDP W1 S base σ i u nn e w1) (hb : Below w.heap.size w W1) (hE : DStAt W1 S base σ) (hR : W1.heap[R]? = some (.cells cs 36 (0, 0))) (hRw : w.heap.size ≤ R) (h5 : Frm (fun b => b = R) w1 w5) : ComDP w S base σ i u nn e w5 := by
  rcases Classical.em (comDE σ u nn = 0) with g | g
  · obtain ⟨d, hc, he, ua, uc, oa, oc, da, dc, hst, hfb⟩ := h.2.2 g
    have hd := done9 hb hE hR hRw h.1 hst h5
    exact ⟨hd.2, fun e0 => absurd g e0, fun _ => ⟨d, hc, he, ua, uc, oa, oc, da, dc, hd.1, fun b hb' => Nat.le_trans hb.size (hfb b hb')⟩⟩
  · obtain ⟨he, hst⟩ := h.2.1 g
    have hd := done9 hb hE hR hRw h.1 hst h5
    exact ⟨hd.2, fun _ => ⟨he, hd.1⟩, fun e0 => absurd e0 g⟩
end Go.Proofs.Ytodoklnohedolaa
end PkUD3_1
section PkUD3_2
/- The document's Do: get, piece, delete, create: what comes of them. -/
namespace Go.Proofs.Ytodoklnohedolaa
open Go.RowKit
set_option linter.unusedVariables false

theorem size_u8D (w : World) : (Go.sizeOf 5).run Try.prog w = .ok 1 w := by kernel_rfl
set_option maxRecDepth 100000 in
theorem slice_runD (a : Option Addr) (n c i m : Nat) (him : i + m ≤ c) (w : World) :
    (Instr.slice 28 (.slice a n c) (some (.int .i64 (i : Int))) (some (.int .i64 ((i : Int) + (m : Int)))) none).run Try.prog w = .ok (.slice (if c = i then a else a.map (·.add i)) m (c - i)) w := by
  have ht' : Try.prog.underlying 28 = some (.slice (Try.prog.elem 28)) := by simp [Program.elem, Try.underlying28]
  have he : Try.prog.elem 28 = 5 := by simp [Program.elem, Try.underlying28]
  rw [run_slice_lh w 28 _ _ _ ht' .i64 .i64 _ _ (by omega) (by omega) (by omega), he, size_u8D]
  have e1 : ((i : Int) + (m : Int)).toNat = i + m := by omega
  simp only [Result.andThen, sliced, Int.toNat_natCast, e1, Nat.mul_one]
  congr 2
  omega
theorem BytesAt.subD {w : World} {b off n c : Nat} {xs : List Nat} (h : BytesAt w (some ⟨b, off, none⟩) n c xs) (i m : Nat) (him : i + m ≤ n) (hm : 0 < m) : BytesAt w (some ⟨b, off + i, none⟩) m (c - i) ((xs.drop i).take m) := by
  have hl := h.len
  have hc := h.cap
  have hr := h.reach
  have hcm := h.capm
  refine ⟨by simp; omega, by omega, fun x hx => h.byte x (List.mem_of_mem_drop (List.mem_of_mem_take hx)), by omega, by omega, (fun e => by cases e), fun _ => ?_⟩
  obtain ⟨b', off', ha, hlt, hcell⟩ := h.cells (by omega)
  cases ha
  refine ⟨b, off + i, rfl, hlt, fun k hk => ?_⟩
  rw [Nat.add_assoc, hcell (i + k) (by omega)]
  have e : ((xs.drop i).take m).getD k 0 = xs.getD (i + k) 0 := by
    simp [List.getD, hk]
  rw [e]
theorem BytesAt.subAnyD {w : World} {a : Option Addr} {n c : Nat} {xs : List Nat} (h : BytesAt w a n c xs) (i m : Nat) (him : i + m ≤ n) : BytesAt w (if c = i then a else a.map (·.add i)) m (c - i) ((xs.drop i).take m) := by
  have hc := h.cap
  have hcm := h.capm
  rcases Nat.eq_zero_or_pos m with h0 | hp
  · subst h0
    rw [List.take_zero]
    refine BytesAt.empty _ _ _ (by omega) (fun e => ?_)
    split at e
    · omega
    · have hn : a = none := by cases a with | none => rfl | some _ => simp at e
      have := h.nl hn
      omega
  · obtain ⟨b, off, rfl, _, _⟩ := h.cells (by omega)
    rw [if_neg (by omega)]
    have h4 : (⟨b, off, none⟩ : Addr).add i = ⟨b, off + i, none⟩ := by unfold Addr.add; split <;> simp_all
    simp only [Option.map_some, h4]
    exact h.subD i m him hp
/-- an object's bytes are answered -/
def GetOk (w : World) (S base : Nat) (σ : DSto) (n : Nat) (xs : List Nat) (ver born : Int) (e : Ending) (w' : World) : Prop :=
  ∃ da dc, e = .returned (rep 0 (.slice da n dc) ver born 0 (.slice none 0 0) false) ∧ BytesAt w' da n dc xs ∧ DStAt w' S base σ ∧ Frm (DF S σ) w w'
theorem row_keptR {w w' : World} {base n c N k R : Nat} {e : TypeId} {a : Option Addr} {xs : List Value} {cs : Array Value} {t : TypeId} {fr : Nat × Nat} (h : w.ownsRow base e k (.slice a n c) N xs) (hR : w.heap[R]? = some (.cells cs t fr)) (ht : t ≠ e) (hf : Frm (fun b => b = R) w w') : w'.ownsRow base e k (.slice a n c) N xs :=
  own_same h fun b hb => hf.block b (own_blk_lt h hb).2 fun e1 => by
    obtain ⟨cu, g⟩ := own_blk_ty h hb
    rw [e1, hR] at g
    simp at g
    exact ht g.2.1
theorem getOk_mk {w wB w5 : World} {S base R n : Nat} {σ : DSto} {ta : Option Addr} {tc base' : Nat} {xs : List Nat} {ver born : Int} {cs : Array Value} (ho : wB.ownsRow base' 5 1 (.slice ta n tc) n (bv xs)) (hb : ∀ x ∈ xs, x < 256) (hn : n ≤ 140737488351232) (hR : wB.heap[R]? = some (.cells cs 36 (0, 0))) (hf : Frm (fun b => b = R) wB w5) (hd : DStAt w5 S base σ ∧ Frm (DF S σ) w w5) : GetOk w S base σ n xs ver born (.returned (rep 0 (.slice ta n tc) ver born 0 (.slice none 0 0) false)) w5 := by
  obtain ⟨a, c, e, hby, _⟩ := BytesAt.ofOwn (row_keptR ho hR (by decide) hf) hb hn
  obtain ⟨e1, _, e2⟩ := Value.slice.inj e
  rw [← e1, ← e2] at hby
  exact ⟨ta, tc, rfl, hby, hd.1, hd.2⟩
def Do3 (w : World) (S base : Nat) (σ : DSto) (ky : ByteArray) (e : Ending) (w' : World) : Prop :=
  match σ.objs.findIdx? (fun o => decide (o.key = ky)) with
  | none => NoD w S base σ 7 e w'
  | some j => ∀ o, σ.objs[j]? = some o → GetOk w S base σ o.dn o.data o.ver o.born e w'
def pieDE (n : Nat) (at_ nn : Int) : Int := if at_ < 0 ∨ nn < 0 ∨ (n : Int) < at_ ∨ (n : Int) - at_ < nn then 2 else 0
def Do4 (w : World) (S base : Nat) (σ : DSto) (ky : ByteArray) (at_ nn : Int) (e : Ending) (w' : World) : Prop :=
  match σ.objs.findIdx? (fun o => decide (o.key = ky)) with
  | none => NoD w S base σ 7 e w'
  | some j => ∀ o, σ.objs[j]? = some o → (pieDE o.dn at_ nn ≠ 0 → NoD w S base σ 2 e w') ∧ (pieDE o.dn at_ nn = 0 → GetOk w S base σ nn.toNat ((o.data.drop at_.toNat).take nn.toNat) o.ver o.born e w')
/-- the object of a key -/
def objD (σ : DSto) (ky : ByteArray) : Option DObj := match σ.objs.findIdx? (fun o => decide (o.key = ky)) with | none => none | some j => σ.objs[j]?
def dVer (σ : DSto) (ky : ByteArray) : Int := match objD σ ky with | none => 0 | some o => o.ver
def dHad (σ : DSto) (ky : ByteArray) : Nat := match objD σ ky with | none => 0 | some o => o.dn
def putDE (σ : DSto) (ki : Int) (ky : ByteArray) (vr : Int) (n : Nat) : Int :=
  if isKeyB ky = false then 1 else if ki = 2 ∧ vr ≠ dVer σ ky then 8 else if 262144 < n then 5
  else if ((objD σ ky).isNone = true ∧ 512 ≤ σ.objs.length) ∨ 4194304 < ((osum σ.objs + usum σ.ups : Nat) : Int) - (dHad σ ky : Int) + (n : Int) then 9 else 0
def Do1 (w : World) (S base : Nat) (σ : DSto) (ki : Int) (ky : ByteArray) (vr : Int) (n : Nat) (xs : List Nat) (e : Ending) (w' : World) : Prop :=
  (putDE σ ki ky vr n ≠ 0 → NoD w S base σ (putDE σ ki ky vr n) e w') ∧
  (putDE σ ki ky vr n = 0 → e = .returned (rep 0 (.slice none 0 0) (σ.ver + 1) σ.now 0 (.slice none 0 0) false) ∧ (∃ oa oc da dc, DStAt w' S base { σ with oa := oa, oc := oc, objs := putL σ.objs ⟨ky, da, n, dc, xs, σ.ver + 1, σ.now⟩, ver := σ.ver + 1 } ∧ (∀ b, blkOf da = some b → w.heap.size ≤ b)) ∧ Frm (DF S σ) w w')
theorem Do1.no {w w' : World} {S base : Nat} {σ : DSto} {ki : Int} {ky : ByteArray} {vr : Int} {n : Nat} {xs : List Nat} {x : Int} (h : putDE σ ki ky vr n = x) (hx : x ≠ 0) (Z : DStAt w' S base σ ∧ Frm (DF S σ) w w') : Do1 w S base σ ki ky vr n xs (.returned (rep0 x)) w' :=
  ⟨fun _ => by rw [h]; exact ⟨rfl, Z⟩, fun e => absurd (h.symm.trans e) hx⟩
def Do6 (w : World) (S base : Nat) (σ : DSto) (ky : ByteArray) (e : Ending) (w' : World) : Prop :=
  match σ.objs.findIdx? (fun o => decide (o.key = ky)) with
  | none => NoD w S base σ 7 e w'
  | some j => e = .returned (rep0 0) ∧ (∃ oa oc, DStAt w' S base { σ with oa := oa, oc := oc, objs := outK σ.objs j }) ∧ Frm (DF S σ) w w'
def Do7 (w : World) (S base : Nat) (σ : DSto) (ky : ByteArray) (e : Ending) (w' : World) : Prop :=
  (isKeyB ky = false → NoD w S base σ 1 e w') ∧ (isKeyB ky = true → 512 ≤ σ.ups.length → NoD w S base σ 9 e w') ∧
  (isKeyB ky = true → σ.ups.length < 512 → e = .returned (rep 0 (.slice none 0 0) 0 σ.now (σ.id + 1) (.slice none 0 0) false) ∧ (∃ ua uc, DStAt w' S base { σ with ua := ua, uc := uc, id := σ.id + 1, ups := σ.ups ++ [⟨σ.id + 1, σ.now, ky, none, 0, 0, []⟩] }) ∧ Frm (DF S σ) w w')
theorem ownBlk (a : Option Addr) (n c : Nat) : (Value.slice a n c).ownBlock = blkOf a := by cases a <;> rfl
/-- the uploads' row has grown, where it was or anew, and is laid -/
theorem DStAt.upsNew {w w' : World} {S base : Nat} {σ : DSto} (h : DStAt w S base σ) (hg : w.grownBy w' (blkOf σ.ua)) {a : Option Addr} {c N : Nat} {us : List DUpl} (hr : w'.ownsRow base 85 4 (.slice a N c) N (DUplS.flat us)) (hN : N = us.length) (hu : ∀ u ∈ us, u ∈ σ.ups ∨ (u.pn = 0 ∧ u.pa = none ∧ u.pc = 0 ∧ u.parts = [])) (hl : us.length ≤ 512) : DStAt (w'.setCell ⟨S, 1, none⟩ (.slice a N c)) S base { σ with ua := a, uc := c, ups := us } := by
  subst hN
  have hS : blkOf σ.ua ≠ some S := fun e => by
    obtain ⟨cu, g⟩ := own_blk_ty h.urow e
    rw [h.blk] at g
    simp at g
  have hblk : w'.heap[S]? = _ := (hg.block S (Array.getElem?_eq_some_iff.1 h.blk).1 (fun e => hS e.symm)).trans h.blk
  have hset := heap_setCell_same w' S 1 _ _ (.slice a us.length c) hblk
  have hoth : ∀ b, b ≠ S → (w'.setCell ⟨S, 1, none⟩ (.slice a us.length c)).heap[b]? = w'.heap[b]? := fun b hb => heap_setCell_other w' ⟨S, 1, none⟩ b _ hb
  have hrow : ∀ {n c' N k : Nat} {e : TypeId} {a' : Option Addr} {xs : List Value}, w.ownsRow base e k (.slice a' n c') N xs → e ≠ 85 → e ≠ 50 → (w'.setCell ⟨S, 1, none⟩ (.slice a us.length c)).ownsRow base e k (.slice a' n c') N xs := fun {n c' N k e a' xs} hx h1 h2 => own_same hx fun b hb => by
    obtain ⟨cu, g⟩ := own_blk_ty hx hb
    refine (hoth b fun e1 => ?_).trans (hg.block b (own_blk_lt hx hb).2 fun e1 => ?_)
    · rw [e1, h.blk] at g; simp at g; exact h2 g.2.symm
    · obtain ⟨cu2, g2⟩ := own_blk_ty h.urow e1.symm
      rw [g] at g2; simp at g2; exact h1 g2.2
  refine ⟨by rw [hset]; simp, hrow h.orow (by decide) (by decide), own_same hr (fun b hb => hoth b fun e1 => ?_), fun o ho => ⟨hrow (h.obj o ho).row (by decide) (by decide), (h.obj o ho).byte, (h.obj o ho).len, (h.obj o ho).small⟩, fun u hm => ?_, h.of, hl⟩
  · obtain ⟨cu, g⟩ := own_blk_ty hr hb
    rw [e1, hblk] at g
    simp at g
  · rcases hu u hm with g | ⟨g1, g2, g3, g4⟩
    · exact ⟨hrow (h.upl u g).row (by decide) (by decide), (h.upl u g).len, (h.upl u g).few, fun p hp => ⟨hrow ((h.upl u g).prt p hp).row (by decide) (by decide), ((h.upl u g).prt p hp).byte, ((h.upl u g).prt p hp).len, ((h.upl u g).prt p hp).small⟩⟩
    · refine ⟨?_, by rw [g4, g1]; rfl, by rw [g1]; omega, fun p hp => by rw [g4] at hp; cases hp⟩
      rw [g1, g2, g3, g4]
      exact World.ownsRow_nil _ _ _ _
end Go.Proofs.Ytodoklnohedolaa
end PkUD3_2
section PkUD3_3
/- What a run of an upload leaves in the document's store, plainly: every object is its data, every part its piece. -/
namespace Go.Proofs.Ytodoklnohedolaa
open Go.RowKit
set_option linter.unusedVariables false

theorem matchD_nil {l : List DPrt} {n : Int} (h : ∀ p ∈ l, p.n ≠ n) : matchD l n = [] := by
  unfold matchD
  rw [List.flatMap_eq_nil_iff]
  intro p hp
  rw [if_neg (h p hp)]
theorem matchD_piece {pc : Int → List Nat} {n : Int} : ∀ {l : List DPrt}, (∀ p ∈ l, p.data = pc p.n) → l.Pairwise (fun a b => a.n ≠ b.n) → hasP l n = true → matchD l n = pc n
  | [], _, _, h => by cases h
  | a :: r, hp, hd, hh => by
    rw [List.pairwise_cons] at hd
    have e : matchD (a :: r) n = (if a.n = n then a.data else []) ++ matchD r n := rfl
    rw [e]
    by_cases h : a.n = n
    · rw [if_pos h, matchD_nil (fun p hpr he => hd.1 p hpr (h.trans he.symm)), List.append_nil, hp a List.mem_cons_self, h]
    · rw [if_neg h, List.nil_append]
      refine matchD_piece (fun p hpr => hp p (List.mem_cons_of_mem _ hpr)) hd.2 ?_
      unfold hasP at hh ⊢
      rw [List.any_cons, Bool.or_eq_true] at hh
      rcases hh with g | g
      · exact absurd (of_decide_eq_true g) h
      · exact g
/-- the piece of a number -/
def pieceD (D : List Nat) (s : Nat) (n : Int) : List Nat := (D.drop ((n.toNat - 1) * s)).take s
theorem catD_piece {l : List DPrt} {D : List Nat} {s : Nat} (hp : ∀ p ∈ l, p.data = pieceD D s p.n) (hd : l.Pairwise fun a b => a.n ≠ b.n) : ∀ (k : Nat) (d : List Nat), catD l k = some d → d = D.take (k * s)
  | 0, d, h => by
    unfold catD at h
    cases h
    rw [Nat.zero_mul, List.take_zero]
  | k + 1, d, h => by
    unfold catD at h
    cases hk : catD l k with
    | none => rw [hk] at h; cases h
    | some d' =>
      rw [hk] at h
      simp only at h
      split at h
      · cases h
        rename_i hh
        rw [catD_piece hp hd k d' hk, matchD_piece hp hd hh]
        unfold pieceD
        have e : ((k + 1 : Nat) : Int).toNat - 1 = k := by omega
        rw [e, Nat.add_mul, Nat.one_mul, List.take_add]
      · cases h
/-- an upload under way: its parts are pieces, told apart -/
structure UplIn (K : ByteArray) (D : List Nat) (s P : Nat) (u : DUpl) : Prop where
  key : u.key = K
  pcs : ∀ p ∈ u.parts, p.data = pieceD D s p.n ∧ 1 ≤ p.n ∧ p.n ≤ (P : Int)
  dif : u.parts.Pairwise fun a b => a.n ≠ b.n
/-- the store of a run -/
structure RunS (K : ByteArray) (D : List Nat) (s P c : Nat) (σ : DSto) : Prop where
  obj : ∀ o ∈ σ.objs, o.key = K ∧ o.data = D ∧ 1 ≤ o.ver
  upl : ∀ u ∈ σ.ups, UplIn K D s P u
  one : σ.objs.length ≤ 1
  ver : 0 ≤ σ.ver ∧ σ.ver ≤ c
  ids : 0 ≤ σ.id ∧ σ.id ≤ c
theorem runS_new (K : ByteArray) (D : List Nat) (s P : Nat) {σ : DSto} (h1 : σ.objs = []) (h2 : σ.ups = []) (h3 : σ.ver = 0) (h4 : σ.id = 0) : RunS K D s P 0 σ :=
  ⟨(fun o h => by rw [h1] at h; cases h), (fun u h => by rw [h2] at h; cases h), by rw [h1]; exact Nat.zero_le _, by rw [h3]; decide, by rw [h4]; decide⟩
/-- a complete that is done: the data, whole -/
theorem com_data {K : ByteArray} {D : List Nat} {s P : Nat} {u : DUpl} (h : UplIn K D s P u) (hD : D.length ≤ P * s) {d : List Nat} (hc : catD u.parts P = some d) : d = D := by
  rw [catD_piece (fun p hp => (h.pcs p hp).1) h.dif P d hc, List.take_of_length_le hD]
theorem putL_one {K : ByteArray} {l : List DObj} {o : DObj} (h1 : l.length ≤ 1) (hk : ∀ x ∈ l, x.key = K) (ho : o.key = K) : putL l o = [o] := by
  unfold putL
  match l, h1, hk with
  | [], _, _ => rfl
  | [x], _, hk =>
    have e : x.key = o.key := (hk x List.mem_cons_self).trans ho.symm
    simp [List.findIdx?_cons, e]
theorem RunS.put {K : ByteArray} {D : List Nat} {s P c : Nat} {σ : DSto} (h : RunS K D s P c σ) {oa : Option Addr} {oc : Nat} {da : Option Addr} {dn dc : Nat} {b : Int} {ups' : List DUpl} {ua : Option Addr} {uc : Nat} (hu : ∀ u ∈ ups', u ∈ σ.ups) :
    RunS K D s P (c + 1) { σ with ua := ua, uc := uc, ups := ups', oa := oa, oc := oc, objs := putL σ.objs ⟨K, da, dn, dc, D, σ.ver + 1, b⟩, ver := σ.ver + 1 } := by
  have hp : putL σ.objs ⟨K, da, dn, dc, D, σ.ver + 1, b⟩ = [⟨K, da, dn, dc, D, σ.ver + 1, b⟩] := putL_one h.one (fun x hx => (h.obj x hx).1) rfl
  obtain ⟨hv0, hv1⟩ := h.ver
  obtain ⟨hi0, hi1⟩ := h.ids
  refine ⟨fun o ho => ?_, fun u h1 => h.upl u (hu u h1), ?_, ?_, ?_⟩
  · simp only [hp] at ho
    rw [List.mem_singleton.1 ho]
    exact ⟨rfl, rfl, by show 1 ≤ σ.ver + 1; omega⟩
  · simp only [hp]; exact Nat.le_refl _
  · show 0 ≤ σ.ver + 1 ∧ σ.ver + 1 ≤ ((c + 1 : Nat) : Int); omega
  · show 0 ≤ σ.id ∧ σ.id ≤ ((c + 1 : Nat) : Int); omega
end Go.Proofs.Ytodoklnohedolaa
end PkUD3_3
section PkUD3_4
/- A run of an upload, plainly: what holds of it at each round, and what a reply makes of it.
   n: the calls made; wSum W f: the ticks that f failures may make it wait. -/
namespace Go.Proofs.Ytodoklnohedolaa
open Go.RowKit
set_option linter.unusedVariables false

def wSum (W f : Nat) : Nat := W * (2 ^ f - 1)
theorem wSum_succ (W f : Nat) : wSum W (f + 1) = wSum W f + W * 2 ^ f := by
  unfold wSum
  have h : 1 ≤ 2 ^ f := Nat.one_le_two_pow
  rw [← Nat.mul_add, Nat.pow_succ]
  congr 1
  omega
theorem wSum_le {W f : Nat} (hW : W ≤ 3) (hf : f ≤ 7) : wSum W f ≤ 381 := by
  unfold wSum
  have h : 2 ^ f ≤ 2 ^ 7 := Nat.pow_le_pow_right (by decide) hf
  calc W * (2 ^ f - 1) ≤ 3 * (2 ^ 7 - 1) := Nat.mul_le_mul hW (by omega)
    _ ≤ 381 := by decide
/-- how many calls it has made, by where it stands -/
def callsOk (P n : Nat) (st nx : Int) (f : Nat) : Prop :=
  (st = 0 → n ≤ f) ∧ (st = 1 → (n : Int) ≤ nx + f) ∧ (st = 2 → n ≤ 1 + P + 2 * f) ∧ (st = 3 → n ≤ P + 2 * f) ∧ (st = 4 → n ≤ 2 + P + 2 * f) ∧ (st = 5 → n ≤ 3 + P + 2 * f)
structure RnU (K : ByteArray) (da : Option Addr) (dn dc s P T W : Nat) (D : List Nat) (n : Nat) (objs : List DObj) (u : UG) : Prop where
  eq : u.key = K ∧ u.da = da ∧ u.dn = dn ∧ u.dc = dc ∧ u.sz = (s : Int) ∧ u.pt = (P : Int) ∧ u.tr = (T : Int) ∧ u.wt = (W : Int)
  st : 0 ≤ u.st ∧ u.st ≤ 5
  nx : 1 ≤ u.nx ∧ u.nx ≤ (P : Int) + 1 ∧ (u.st ≤ 1 → u.nx ≤ (P : Int))
  ff : u.f ≤ T ∧ (u.st ≤ 3 → u.f < T)
  calls : callsOk P n u.st u.nx u.f
  rdy : u.rd ≤ (wSum W u.f : Nat)
  told : u.told = false
  over : (u.st = 5 → u.state = 1 ∨ u.state = 2) ∧ (u.st ≠ 5 → u.state = 0)
  done : u.state = 1 → ∃ o, objs = [o] ∧ o.key = K ∧ o.data = D ∧ o.born = u.born
  fail : u.state ≠ 1 → u.born = 0
variable {K : ByteArray} {da : Option Addr} {dn dc s P T W n : Nat} {D : List Nat} {objs : List DObj} {u : UG}
theorem give_ok (he : u.key = K ∧ u.da = da ∧ u.dn = dn ∧ u.dc = dc ∧ u.sz = (s : Int) ∧ u.pt = (P : Int) ∧ u.tr = (T : Int) ∧ u.wt = (W : Int)) (hx : 1 ≤ u.nx ∧ u.nx ≤ (P : Int) + 1) (hf : u.f ≤ T) (hn : n ≤ 2 + P + 2 * u.f) (hr : u.rd ≤ (wSum W u.f : Nat)) (ht : u.told = false) (h0 : u.state = 0) (hb : u.born = 0) : RnU K da dn dc s P T W D n objs u.give := by
  unfold UG.give
  split
  · refine ⟨he, by simp, ⟨hx.1, hx.2, ?_⟩, ⟨hf, ?_⟩, ?_, hr, ht, ⟨?_, fun _ => h0⟩, ?_, fun _ => hb⟩
    · intro h; simp at h
    · intro h; simp at h
    · unfold callsOk; simp; omega
    · intro h; simp at h
    · intro h; simp [h0] at h
  · unfold UG.ends
    refine ⟨he, by simp, ⟨hx.1, hx.2, ?_⟩, ⟨hf, ?_⟩, ?_, hr, ht, ⟨fun _ => .inr rfl, ?_⟩, ?_, fun _ => hb⟩
    · intro h; simp at h
    · intro h; simp at h
    · unfold callsOk; simp; omega
    · intro h; simp at h
    · intro h; simp at h
theorem fail_ok (he : u.key = K ∧ u.da = da ∧ u.dn = dn ∧ u.dc = dc ∧ u.sz = (s : Int) ∧ u.pt = (P : Int) ∧ u.tr = (T : Int) ∧ u.wt = (W : Int)) (hst : 0 ≤ u.st ∧ u.st ≤ 3) (hx : 1 ≤ u.nx ∧ u.nx ≤ (P : Int) + 1 ∧ (u.st ≤ 1 → u.nx ≤ (P : Int))) (hf : u.f < T) (hc : callsOk P n u.st u.nx (u.f + 1)) (hn : n ≤ 2 + P + 2 * u.f) (hr : u.rd ≤ (wSum W u.f : Nat)) (ht : u.told = false) (h0 : u.state = 0) (hb : u.born = 0) {p : Bool} {now : Nat} (hw : now ≤ wSum W u.f) : RnU K da dn dc s P T W D n objs (u.failF p now) := by
  unfold UG.failF
  split
  · split
    · rename_i h1
      rw [he.2.2.2.2.2.2.1] at h1
      refine ⟨he, ⟨hst.1, by show u.st ≤ 5; omega⟩, hx, ⟨by show u.f + 1 ≤ T; omega, fun _ => by show u.f + 1 < T; omega⟩, hc, ?_, ht, ⟨fun h => ?_, fun _ => h0⟩, fun h => ?_, fun _ => hb⟩
      · show (now : Int) + u.wt * 2 ^ u.f ≤ ((wSum W (u.f + 1) : Nat) : Int)
        rw [wSum_succ, he.2.2.2.2.2.2.2]
        push_cast
        omega
      · exact absurd (show u.st = 5 from h) (by omega)
      · exact absurd (h0.symm.trans (show u.state = 1 from h)) (by decide)
    · refine give_ok he ⟨hx.1, hx.2.1⟩ (by show u.f + 1 ≤ T; omega) (by show n ≤ 2 + P + 2 * (u.f + 1); omega) ?_ ht h0 hb
      show u.rd ≤ ((wSum W (u.f + 1) : Nat) : Int)
      rw [wSum_succ]
      exact Int.le_trans hr (Int.ofNat_le.2 (Nat.le_add_right _ _))
  · exact give_ok he ⟨hx.1, hx.2.1⟩ (by omega) hn hr ht h0 hb
/-- what a reply makes of it: the reply's error, born, ID; `od`: the object of a complete that is done, or of a get -/
theorem take_ok (h : RnU K da dn dc s P T W D n objs u) (hst : u.st ≤ 4) (hP : 1 ≤ P) {er bo io : Int} {same : Bool} {now : Nat} (hw : now ≤ wSum W u.f) {objs' : List DObj} (hd : (u.st = 2 ∨ u.st = 3) → er = 0 → ∃ o, objs' = [o] ∧ o.key = K ∧ o.data = D ∧ o.born = bo) :
    RnU K da dn dc s P T W D (n + 1) objs' (u.takeF er bo io now same) := by
  obtain ⟨he, hs, hx, hf, hc, hr, ht, ho, hdn, hfl⟩ := h
  have HD := Lib.hid hd
  clear hd hdn
  have h0 : u.state = 0 := ho.2 (by omega)
  have hb : u.born = 0 := hfl (by rw [h0]; decide)
  have hu : ({ u with told := false } : UG) = u := by rw [← ht]
  have hdone : (u.st = 2 ∨ u.st = 3) → er = 0 → RnU K da dn dc s P T W D (n + 1) objs' (u.doneF bo) := fun h2 h3 => by
    have HO := Lib.hid (HD.out h2 h3)
    unfold UG.doneF UG.ends
    refine ⟨he, by simp, ⟨hx.1, hx.2.1, ?_⟩, ⟨hf.1, ?_⟩, ?_, hr, ht, ⟨fun _ => .inl rfl, ?_⟩, fun _ => HO.out, ?_⟩
    · intro h; simp at h
    · intro h; simp at h
    · unfold callsOk at hc ⊢; simp; omega
    · intro h; simp at h
    · intro h; simp at h
  have hdone := Lib.hid hdone
  unfold UG.takeF
  simp only [hu]
  unfold callsOk at hc
  have hcs : u.st = 0 ∨ u.st = 1 ∨ u.st = 2 ∨ u.st = 3 ∨ u.st = 4 := by omega
  rcases hcs with h1 | h1 | h1 | h1 | h1
  · rw [if_pos h1]
    unfold UG.createdF
    split
    · refine ⟨he, by simp, ⟨hx.1, hx.2.1, fun _ => hx.2.2 (by omega)⟩, ⟨hf.1, fun _ => hf.2 (by omega)⟩, ?_, hr, ht, ⟨?_, fun _ => h0⟩, fun h => ?_, fun _ => hb⟩
      · unfold callsOk; simp; omega
      · intro h; simp at h
      · exact absurd (h0.symm.trans (show u.state = 1 from h)) (by decide)
    · exact fail_ok he ⟨hs.1, by omega⟩ hx (hf.2 (by omega)) (by unfold callsOk; omega) (by omega) hr ht h0 hb hw
  · rw [if_neg (by omega), if_pos h1]
    unfold UG.broughtF
    have hpt := he.2.2.2.2.2.1
    split
    · split
      · refine ⟨he, by simp, ⟨by show 1 ≤ u.nx + 1; omega, by show u.nx + 1 ≤ (P : Int) + 1; have := hx.2.2 (by omega); omega, ?_⟩, ⟨hf.1, fun _ => hf.2 (by omega)⟩, ?_, hr, ht, ⟨?_, fun _ => h0⟩, fun h => ?_, fun _ => hb⟩
        · intro h; simp at h
        · unfold callsOk; simp; have := hx.2.2 (by omega); omega
        · intro h; simp at h
        · exact absurd (h0.symm.trans (show u.state = 1 from h)) (by decide)
      · rename_i h2
        rw [hpt] at h2
        refine ⟨he, hs, ⟨by show 1 ≤ u.nx + 1; omega, by show u.nx + 1 ≤ (P : Int) + 1; omega, fun _ => by show u.nx + 1 ≤ (P : Int); omega⟩, ⟨hf.1, fun _ => hf.2 (by omega)⟩, ?_, hr, ht, ⟨fun h => ?_, fun _ => h0⟩, fun h => ?_, fun _ => hb⟩
        · unfold callsOk; simp [h1]; omega
        · exact absurd (show u.st = 5 from h) (by omega)
        · exact absurd (h0.symm.trans (show u.state = 1 from h)) (by decide)
    · exact fail_ok he ⟨hs.1, by omega⟩ hx (hf.2 (by omega)) (by unfold callsOk; omega) (by have := hx.2.2 (by omega); omega) hr ht h0 hb hw
  · rw [if_neg (by omega), if_neg (by omega), if_pos h1]
    unfold UG.completedF
    split
    · exact hdone.out (.inl h1) ‹_›
    · split
      · exact fail_ok (u := { u with st := 3 }) he (by simp) ⟨hx.1, hx.2.1, by simp⟩ (hf.2 (by omega)) (by unfold callsOk; simp; omega) (by show n + 1 ≤ 2 + P + 2 * u.f; omega) hr ht h0 hb hw
      · split
        · exact fail_ok (u := { u with st := 3, gone := true }) he (by simp) ⟨hx.1, hx.2.1, by simp⟩ (hf.2 (by omega)) (by unfold callsOk; simp; omega) (by show n + 1 ≤ 2 + P + 2 * u.f; omega) hr ht h0 hb hw
        · exact fail_ok he ⟨hs.1, by omega⟩ hx (hf.2 (by omega)) (by unfold callsOk; omega) (by omega) hr ht h0 hb hw
  · rw [if_neg (by omega), if_neg (by omega), if_neg (by omega), if_pos h1]
    unfold UG.lookedF
    split
    · rename_i h2
      exact hdone.out (.inr h1) h2.1
    · split
      · refine ⟨he, by simp, ⟨hx.1, hx.2.1, ?_⟩, ⟨hf.1, fun _ => hf.2 (by omega)⟩, ?_, hr, ht, ⟨?_, fun _ => h0⟩, fun h => ?_, fun _ => hb⟩
        · intro h; simp at h
        · unfold callsOk; simp; omega
        · intro h; simp at h
        · exact absurd (h0.symm.trans (show u.state = 1 from h)) (by decide)
      · exact fail_ok he ⟨hs.1, by omega⟩ hx (hf.2 (by omega)) (by unfold callsOk; omega) (by omega) hr ht h0 hb hw
  · rw [if_neg (by omega), if_neg (by omega), if_neg (by omega), if_neg (by omega), if_pos h1]
    unfold UG.ends
    refine ⟨he, by simp, ⟨hx.1, hx.2.1, ?_⟩, ⟨hf.1, ?_⟩, ?_, hr, ht, ⟨fun _ => .inr rfl, ?_⟩, ?_, fun _ => hb⟩
    · intro h; simp at h
    · intro h; simp at h
    · unfold callsOk; simp; omega
    · intro h; simp at h
    · intro h; simp at h
end Go.Proofs.Ytodoklnohedolaa
end PkUD3_4
section PkUD3_5
/- The document's Do: part, complete, abort. Written by gensddo.py. -/
namespace Go.Proofs.Ytodoklnohedolaa
open Go.RowKit
set_option linter.unusedVariables false
set_option linter.unusedSimpArgs false

set_option maxRecDepth 100000 in
set_option maxHeartbeats 16000000 in
theorem ddo_8 {w : World} {S base : Nat} {σ : DSto} (h : DStAt w S base σ) {vr at_ nn id : Int} {ky : ByteArray} {a : Option Addr} {n c : Nat} {xs : List Nat} (hx : BytesAt w a n c xs) (hbs : base ≤ w.heap.size) (hfew : ∀ j u, σ.ups.findIdx? (fun u => decide (u.id = id)) = some j → σ.ups[j]? = some u → 1 ≤ nn → nn ≤ 32 → (prtF u.parts nn).length < 32) :
    Calls Try.prog 21 #[.pointer (some ⟨S, 0, none⟩), .agg #[.int .i64 8, .string ky, .slice a n c, .int .i64 vr, .int .i64 at_, .int .i64 nn, .int .i64 id]] w (Do8 w S base σ id nn n xs) := by
  have HE := Lib.hid (dent_mk h #[.int .i64 8, .string ky, .slice a n c, .int .i64 vr, .int .i64 at_, .int .i64 nn, .int .i64 id])
  have hSl : S < w.heap.size := (Array.getElem?_eq_some_iff.1 h.blk).1
  clear h
  go_enter Try.func21, Try.ntmps21
  go_upto_region 1 with fail
  obtain ⟨W0, hW0⟩ : ∃ W0, W0 = (w.alloc (.cells #[.int .i64 8, .string ky, .slice a n c, .int .i64 vr, .int .i64 at_, .int .i64 nn, .int .i64 id] 30)).alloc (.cells zrep 36) := ⟨_, rfl⟩
  rw [← hW0] at HE
  unfold zrep at hW0
  rw [← hW0]
  clear hW0
  obtain ⟨ai, hai⟩ : ∃ ai, ai = atK σ.objs ky := ⟨_, rfl⟩
  obtain ⟨oi, hoi⟩ : ∃ oi, oi = openK σ.ups id := ⟨_, rfl⟩
  have HAT := Lib.hid (fun k => dat_any (HE.out.st.drewN k) ky)
  have HOP := Lib.hid (fun k => dopen_any (HE.out.st.drewN k) id)
  rw [← hai] at HAT
  rw [← hoi] at HOP
  have k1 := cell_blkD HE.out.cb (i := 1) (u := .string ky) rfl
  have k6 := cell_blkD HE.out.cb (i := 6) (u := .int .i64 id) rfl
  go_quiet ((first | (go_at_call 17; exact Calls.quiet_of_same (HAT.out _)) | (go_at_call 40; exact Calls.quiet_of_same (HOP.out _))))
  rename Nat => nq
  clear k1 k6 HAT HOP
  have HE1 := Lib.hid (HE.out.drewN nq)
  obtain ⟨W1, hW1⟩ : ∃ W1, W1 = W0.drewN nq := ⟨_, rfl⟩
  rw [← hW1] at HE1
  rw [← hW1]
  clear HE hW1
  have HE := HE1
  clear HE1
  have hz0 := HE.out.sz
  have hk0 : w.heap.size < W1.heap.size := by omega
  have hr0 : w.heap.size + 1 < W1.heap.size := by omega
  have hS0 : S < W1.heap.size := by omega
  have HZ0 := Lib.hid hz0
  clear hz0
  have HR0 := Lib.hid (Below.refl W1.heap.size W1)
  have k0 := cell_blkD HE.out.cb (i := 0) (u := .int .i64 8) rfl
  have HAI := Lib.hid hai
  have HOI := Lib.hid hoi
  clear hai hoi
  rcases openK_neg (l := σ.ups) (k := id) with ⟨ho1, ho2⟩ | ⟨jo, ho1, ho2⟩
  · have hoi := HOI.out
    rw [ho1] at hoi
    clear HOI
    subst hoi
    have HNO := Lib.hid (show ∀ e w', NoD w S base σ 7 e w' → Do8 w S base σ id nn n xs e w' from fun e w' h => by unfold Do8; rw [ho2]; exact h)
    clear ho1 ho2
    go_wp2_with fail
    refine (dbad_any 7 W1).mono ?_
    rintro e wE ⟨rfl, hbE⟩
    unfold repA
    have hbe := HR0.out.trans (hbE.mono HR0.out.size)
    have HRB := Lib.hid ((hbe.block (w.heap.size + 1) hr0).trans HE.out.rb)
    have HST := Lib.hid (HE.out.st.below hbe)
    have HFR := Lib.hid (show Frm (DF S σ) w wE from Frm.ofBelow (HE.out.bel.trans (hbe.mono HE.out.bel.size)))
    obtain ⟨⟨q0, q1, q2, q3, q4, q5, q6⟩, r0, r1, r2, r3, r4, r5, r6⟩ := rb_cells HRB.out
    clear hbE hbe
    go_wp2_with fail
    clear q0 q1 q2 q3 q4 q5 q6 r0 r1 r2 r3 r4 r5 r6
    obtain ⟨W5, hW5⟩ : ∃ W5, W5 = setR wE (w.heap.size + 1) (.int .i64 7) (.slice none 0 0) (.int .i64 0) (.int .i64 0) (.int .i64 0) (.slice none 0 0) (.bool false) := ⟨_, rfl⟩
    have hr5 := setR_at0 HRB.out (.int .i64 7) (.slice none 0 0) (.int .i64 0) (.int .i64 0) (.int .i64 0) (.slice none 0 0) (.bool false)
    have hF5 := (Frm.refl (fun b => b = w.heap.size + 1) wE).setR (R := w.heap.size + 1) (.inl rfl) (.int .i64 7) (.slice none 0 0) (.int .i64 0) (.int .i64 0) (.int .i64 0) (.slice none 0 0) (.bool false)
    rw [← hW5] at hr5 hF5
    unfold setR at hW5
    rw [← hW5]
    have hfin := put_done HST.out HRB.out (Nat.le_succ _) HFR.out hF5
    exact bodyPost_ret (ret_rep rfl _ _ (w.heap.size + 1) rfl hr5) rfl (HNO.out _ _ ⟨rfl, hfin⟩)
  · have hoi := HOI.out
    rw [ho1] at hoi
    clear HOI
    subst hoi
    obtain ⟨u, hu, _, hul⟩ := find_at ho2
    have HO2 := Lib.hid ho2
    have HU := Lib.hid hu
    have zjo : ¬ (jo : Int) < 0 := by omega
    clear ho1 ho2 hu
    have k1 := cell_blkD HE.out.cb (i := 1) (u := .string ky) rfl
    have k2 := cell_blkD HE.out.cb (i := 2) (u := .slice a n c) rfl
    have k3 := cell_blkD HE.out.cb (i := 3) (u := .int .i64 vr) rfl
    have k4 := cell_blkD HE.out.cb (i := 4) (u := .int .i64 at_) rfl
    have k5 := cell_blkD HE.out.cb (i := 5) (u := .int .i64 nn) rfl
    have k6 := cell_blkD HE.out.cb (i := 6) (u := .int .i64 id) rfl
    have HP := Lib.hid (dpart_any (ki := 8) (ky := ky) (vr := vr) (at_ := at_) (nn := nn) (id := id) HE.out.st HU.out (hx.kept HE.out.bel) (Nat.le_trans hbs HE.out.bel.size) (hfew jo u HO2.out HU.out))
    go_wp2_with fail
    refine HP.out.mono ?_
    rintro e w1 hq
    obtain ⟨er, rfl⟩ := hq.shape
    have HQ := Lib.hid hq
    have HRB := Lib.hid (rb_kept HE.out.st HE.out.rb hq.1)
    obtain ⟨⟨q0, q1, q2, q3, q4, q5, q6⟩, r0, r1, r2, r3, r4, r5, r6⟩ := rb_cells HRB.out
    clear hq k0 k1 k2 k3 k4 k5 k6
    unfold rep0
    go_wp2_with fail
    clear q0 q1 q2 q3 q4 q5 q6 r0 r1 r2 r3 r4 r5 r6
    obtain ⟨W5, hW5⟩ : ∃ W5, W5 = setR w1 (w.heap.size + 1) (.int .i64 er) (.slice none 0 0) (.int .i64 0) (.int .i64 0) (.int .i64 0) (.slice none 0 0) (.bool false) := ⟨_, rfl⟩
    have hr5 := setR_at0 HRB.out (.int .i64 er) (.slice none 0 0) (.int .i64 0) (.int .i64 0) (.int .i64 0) (.slice none 0 0) (.bool false)
    have hF5 := (Frm.refl (fun b => b = w.heap.size + 1) w1).setR (R := w.heap.size + 1) (.inl rfl) (.int .i64 er) (.slice none 0 0) (.int .i64 0) (.int .i64 0) (.int .i64 0) (.slice none 0 0) (.bool false)
    rw [← hW5] at hr5 hF5
    unfold setR at hW5
    rw [← hW5]
    exact bodyPost_ret (ret_rep rfl _ _ (w.heap.size + 1) rfl hr5) rfl (by
      unfold Do8
      rw [HO2.out]
      intro u' hu'
      rw [HU.out] at hu'
      cases hu'
      exact HQ.out.out HE.out.bel HE.out.st HE.out.rb (Nat.le_succ _) hF5)
set_option maxRecDepth 100000 in
set_option maxHeartbeats 16000000 in
theorem ddo_9 {w : World} {S base : Nat} {σ : DSto} (h : DStAt w S base σ) {vr at_ nn id : Int} {ky : ByteArray} {a : Option Addr} {n c : Nat} (hbs : base ≤ w.heap.size) (hver : 0 ≤ σ.ver ∧ σ.ver ≤ 1000000000) :
    Calls Try.prog 21 #[.pointer (some ⟨S, 0, none⟩), .agg #[.int .i64 9, .string ky, .slice a n c, .int .i64 vr, .int .i64 at_, .int .i64 nn, .int .i64 id]] w (Do9 w S base σ id nn) := by
  have HE := Lib.hid (dent_mk h #[.int .i64 9, .string ky, .slice a n c, .int .i64 vr, .int .i64 at_, .int .i64 nn, .int .i64 id])
  have hSl : S < w.heap.size := (Array.getElem?_eq_some_iff.1 h.blk).1
  clear h
  go_enter Try.func21, Try.ntmps21
  go_upto_region 1 with fail
  obtain ⟨W0, hW0⟩ : ∃ W0, W0 = (w.alloc (.cells #[.int .i64 9, .string ky, .slice a n c, .int .i64 vr, .int .i64 at_, .int .i64 nn, .int .i64 id] 30)).alloc (.cells zrep 36) := ⟨_, rfl⟩
  rw [← hW0] at HE
  unfold zrep at hW0
  rw [← hW0]
  clear hW0
  obtain ⟨ai, hai⟩ : ∃ ai, ai = atK σ.objs ky := ⟨_, rfl⟩
  obtain ⟨oi, hoi⟩ : ∃ oi, oi = openK σ.ups id := ⟨_, rfl⟩
  have HAT := Lib.hid (fun k => dat_any (HE.out.st.drewN k) ky)
  have HOP := Lib.hid (fun k => dopen_any (HE.out.st.drewN k) id)
  rw [← hai] at HAT
  rw [← hoi] at HOP
  have k1 := cell_blkD HE.out.cb (i := 1) (u := .string ky) rfl
  have k6 := cell_blkD HE.out.cb (i := 6) (u := .int .i64 id) rfl
  go_quiet ((first | (go_at_call 17; exact Calls.quiet_of_same (HAT.out _)) | (go_at_call 40; exact Calls.quiet_of_same (HOP.out _))))
  rename Nat => nq
  clear k1 k6 HAT HOP
  have HE1 := Lib.hid (HE.out.drewN nq)
  obtain ⟨W1, hW1⟩ : ∃ W1, W1 = W0.drewN nq := ⟨_, rfl⟩
  rw [← hW1] at HE1
  rw [← hW1]
  clear HE hW1
  have HE := HE1
  clear HE1
  have hz0 := HE.out.sz
  have hk0 : w.heap.size < W1.heap.size := by omega
  have hr0 : w.heap.size + 1 < W1.heap.size := by omega
  have hS0 : S < W1.heap.size := by omega
  have HZ0 := Lib.hid hz0
  clear hz0
  have HR0 := Lib.hid (Below.refl W1.heap.size W1)
  have k0 := cell_blkD HE.out.cb (i := 0) (u := .int .i64 9) rfl
  have HAI := Lib.hid hai
  have HOI := Lib.hid hoi
  clear hai hoi
  rcases openK_neg (l := σ.ups) (k := id) with ⟨ho1, ho2⟩ | ⟨jo, ho1, ho2⟩
  · have hoi := HOI.out
    rw [ho1] at hoi
    clear HOI
    subst hoi
    have HNO := Lib.hid (show ∀ e w', NoD w S base σ 7 e w' → Do9 w S base σ id nn e w' from fun e w' h => by unfold Do9; rw [ho2]; exact h)
    clear ho1 ho2
    go_wp2_with fail
    refine (dbad_any 7 W1).mono ?_
    rintro e wE ⟨rfl, hbE⟩
    unfold repA
    have hbe := HR0.out.trans (hbE.mono HR0.out.size)
    have HRB := Lib.hid ((hbe.block (w.heap.size + 1) hr0).trans HE.out.rb)
    have HST := Lib.hid (HE.out.st.below hbe)
    have HFR := Lib.hid (show Frm (DF S σ) w wE from Frm.ofBelow (HE.out.bel.trans (hbe.mono HE.out.bel.size)))
    obtain ⟨⟨q0, q1, q2, q3, q4, q5, q6⟩, r0, r1, r2, r3, r4, r5, r6⟩ := rb_cells HRB.out
    clear hbE hbe
    go_wp2_with fail
    clear q0 q1 q2 q3 q4 q5 q6 r0 r1 r2 r3 r4 r5 r6
    obtain ⟨W5, hW5⟩ : ∃ W5, W5 = setR wE (w.heap.size + 1) (.int .i64 7) (.slice none 0 0) (.int .i64 0) (.int .i64 0) (.int .i64 0) (.slice none 0 0) (.bool false) := ⟨_, rfl⟩
    have hr5 := setR_at0 HRB.out (.int .i64 7) (.slice none 0 0) (.int .i64 0) (.int .i64 0) (.int .i64 0) (.slice none 0 0) (.bool false)
    have hF5 := (Frm.refl (fun b => b = w.heap.size + 1) wE).setR (R := w.heap.size + 1) (.inl rfl) (.int .i64 7) (.slice none 0 0) (.int .i64 0) (.int .i64 0) (.int .i64 0) (.slice none 0 0) (.bool false)
    rw [← hW5] at hr5 hF5
    unfold setR at hW5
    rw [← hW5]
    have hfin := put_done HST.out HRB.out (Nat.le_succ _) HFR.out hF5
    exact bodyPost_ret (ret_rep rfl _ _ (w.heap.size + 1) rfl hr5) rfl (HNO.out _ _ ⟨rfl, hfin⟩)
  · have hoi := HOI.out
    rw [ho1] at hoi
    clear HOI
    subst hoi
    obtain ⟨u, hu, _, hul⟩ := find_at ho2
    have HO2 := Lib.hid ho2
    have HU := Lib.hid hu
    have zjo : ¬ (jo : Int) < 0 := by omega
    clear ho1 ho2 hu
    have k1 := cell_blkD HE.out.cb (i := 1) (u := .string ky) rfl
    have k2 := cell_blkD HE.out.cb (i := 2) (u := .slice a n c) rfl
    have k3 := cell_blkD HE.out.cb (i := 3) (u := .int .i64 vr) rfl
    have k4 := cell_blkD HE.out.cb (i := 4) (u := .int .i64 at_) rfl
    have k5 := cell_blkD HE.out.cb (i := 5) (u := .int .i64 nn) rfl
    have k6 := cell_blkD HE.out.cb (i := 6) (u := .int .i64 id) rfl
    have HP := Lib.hid (dcom_any (ki := 9) (ky := ky) (vr := vr) (at_ := at_) (nn := nn) (id := id) (a := a) (n := n) (c := c) HE.out.st HU.out (Nat.le_trans hbs HE.out.bel.size) hver)
    go_wp2_with fail
    refine HP.out.mono ?_
    rintro e w1 hq
    obtain ⟨er, v9, b9, rfl⟩ := hq.shape
    have HQ := Lib.hid hq
    have HRB := Lib.hid (rb_kept HE.out.st HE.out.rb hq.1)
    obtain ⟨⟨q0, q1, q2, q3, q4, q5, q6⟩, r0, r1, r2, r3, r4, r5, r6⟩ := rb_cells HRB.out
    clear hq k0 k1 k2 k3 k4 k5 k6
    unfold rep
    go_wp2_with fail
    clear q0 q1 q2 q3 q4 q5 q6 r0 r1 r2 r3 r4 r5 r6
    obtain ⟨W5, hW5⟩ : ∃ W5, W5 = setR w1 (w.heap.size + 1) (.int .i64 er) (.slice none 0 0) (.int .i64 v9) (.int .i64 b9) (.int .i64 0) (.slice none 0 0) (.bool false) := ⟨_, rfl⟩
    have hr5 := setR_at0 HRB.out (.int .i64 er) (.slice none 0 0) (.int .i64 v9) (.int .i64 b9) (.int .i64 0) (.slice none 0 0) (.bool false)
    have hF5 := (Frm.refl (fun b => b = w.heap.size + 1) w1).setR (R := w.heap.size + 1) (.inl rfl) (.int .i64 er) (.slice none 0 0) (.int .i64 v9) (.int .i64 b9) (.int .i64 0) (.slice none 0 0) (.bool false)
    rw [← hW5] at hr5 hF5
    unfold setR at hW5
    rw [← hW5]
    exact bodyPost_ret (ret_rep rfl _ _ (w.heap.size + 1) rfl hr5) rfl (by
      unfold Do9
      rw [HO2.out]
      intro u' hu'
      rw [HU.out] at hu'
      cases hu'
      exact HQ.out.out HE.out.bel HE.out.st HE.out.rb (Nat.le_succ _) hF5)
set_option maxRecDepth 100000 in
set_option maxHeartbeats 16000000 in
theorem ddo_10 {w : World} {S base : Nat} {σ : DSto} (h : DStAt w S base σ) {vr at_ nn id : Int} {ky : ByteArray} {a : Option Addr} {n c : Nat} (hbs : base ≤ w.heap.size) :
    Calls Try.prog 21 #[.pointer (some ⟨S, 0, none⟩), .agg #[.int .i64 10, .string ky, .slice a n c, .int .i64 vr, .int .i64 at_, .int .i64 nn, .int .i64 id]] w (Do10 w S base σ id) := by
  have HE := Lib.hid (dent_mk h #[.int .i64 10, .string ky, .slice a n c, .int .i64 vr, .int .i64 at_, .int .i64 nn, .int .i64 id])
  have hSl : S < w.heap.size := (Array.getElem?_eq_some_iff.1 h.blk).1
  clear h
  go_enter Try.func21, Try.ntmps21
  go_upto_region 1 with fail
  obtain ⟨W0, hW0⟩ : ∃ W0, W0 = (w.alloc (.cells #[.int .i64 10, .string ky, .slice a n c, .int .i64 vr, .int .i64 at_, .int .i64 nn, .int .i64 id] 30)).alloc (.cells zrep 36) := ⟨_, rfl⟩
  rw [← hW0] at HE
  unfold zrep at hW0
  rw [← hW0]
  clear hW0
  obtain ⟨ai, hai⟩ : ∃ ai, ai = atK σ.objs ky := ⟨_, rfl⟩
  obtain ⟨oi, hoi⟩ : ∃ oi, oi = openK σ.ups id := ⟨_, rfl⟩
  have HAT := Lib.hid (fun k => dat_any (HE.out.st.drewN k) ky)
  have HOP := Lib.hid (fun k => dopen_any (HE.out.st.drewN k) id)
  rw [← hai] at HAT
  rw [← hoi] at HOP
  have k1 := cell_blkD HE.out.cb (i := 1) (u := .string ky) rfl
  have k6 := cell_blkD HE.out.cb (i := 6) (u := .int .i64 id) rfl
  go_quiet ((first | (go_at_call 17; exact Calls.quiet_of_same (HAT.out _)) | (go_at_call 40; exact Calls.quiet_of_same (HOP.out _))))
  rename Nat => nq
  clear k1 k6 HAT HOP
  have HE1 := Lib.hid (HE.out.drewN nq)
  obtain ⟨W1, hW1⟩ : ∃ W1, W1 = W0.drewN nq := ⟨_, rfl⟩
  rw [← hW1] at HE1
  rw [← hW1]
  clear HE hW1
  have HE := HE1
  clear HE1
  have hz0 := HE.out.sz
  have hk0 : w.heap.size < W1.heap.size := by omega
  have hr0 : w.heap.size + 1 < W1.heap.size := by omega
  have hS0 : S < W1.heap.size := by omega
  have HZ0 := Lib.hid hz0
  clear hz0
  have HR0 := Lib.hid (Below.refl W1.heap.size W1)
  have k0 := cell_blkD HE.out.cb (i := 0) (u := .int .i64 10) rfl
  have HAI := Lib.hid hai
  have HOI := Lib.hid hoi
  clear hai hoi
  rcases openK_neg (l := σ.ups) (k := id) with ⟨ho1, ho2⟩ | ⟨jo, ho1, ho2⟩
  · have hoi := HOI.out
    rw [ho1] at hoi
    clear HOI
    subst hoi
    have HNO := Lib.hid (show ∀ e w', NoD w S base σ 7 e w' → Do10 w S base σ id e w' from fun e w' h => by unfold Do10; rw [ho2]; exact h)
    clear ho1 ho2
    go_wp2_with fail
    refine (dbad_any 7 W1).mono ?_
    rintro e wE ⟨rfl, hbE⟩
    unfold repA
    have hbe := HR0.out.trans (hbE.mono HR0.out.size)
    have HRB := Lib.hid ((hbe.block (w.heap.size + 1) hr0).trans HE.out.rb)
    have HST := Lib.hid (HE.out.st.below hbe)
    have HFR := Lib.hid (show Frm (DF S σ) w wE from Frm.ofBelow (HE.out.bel.trans (hbe.mono HE.out.bel.size)))
    obtain ⟨⟨q0, q1, q2, q3, q4, q5, q6⟩, r0, r1, r2, r3, r4, r5, r6⟩ := rb_cells HRB.out
    clear hbE hbe
    go_wp2_with fail
    clear q0 q1 q2 q3 q4 q5 q6 r0 r1 r2 r3 r4 r5 r6
    obtain ⟨W5, hW5⟩ : ∃ W5, W5 = setR wE (w.heap.size + 1) (.int .i64 7) (.slice none 0 0) (.int .i64 0) (.int .i64 0) (.int .i64 0) (.slice none 0 0) (.bool false) := ⟨_, rfl⟩
    have hr5 := setR_at0 HRB.out (.int .i64 7) (.slice none 0 0) (.int .i64 0) (.int .i64 0) (.int .i64 0) (.slice none 0 0) (.bool false)
    have hF5 := (Frm.refl (fun b => b = w.heap.size + 1) wE).setR (R := w.heap.size + 1) (.inl rfl) (.int .i64 7) (.slice none 0 0) (.int .i64 0) (.int .i64 0) (.int .i64 0) (.slice none 0 0) (.bool false)
    rw [← hW5] at hr5 hF5
    unfold setR at hW5
    rw [← hW5]
    have hfin := put_done HST.out HRB.out (Nat.le_succ _) HFR.out hF5
    exact bodyPost_ret (ret_rep rfl _ _ (w.heap.size + 1) rfl hr5) rfl (HNO.out _ _ ⟨rfl, hfin⟩)
  · have hoi := HOI.out
    rw [ho1] at hoi
    clear HOI
    subst hoi
    obtain ⟨u, hu, _, hul⟩ := find_at ho2
    have HO2 := Lib.hid ho2
    have HU := Lib.hid hu
    have zjo : ¬ (jo : Int) < 0 := by omega
    clear ho1 ho2 hu
    have HP := Lib.hid (ddrop_any HE.out.st hul (Nat.le_trans hbs HE.out.bel.size))
    go_wp2_with fail
    refine HP.out.mono ?_
    rintro e w1 ⟨rfl, ⟨ua', uc', hdst⟩, hgd⟩
    have hf1 : Frm (DF S σ) W1 w1 := ⟨hgd.os, hgd.tape, hgd.output, hgd.size, fun b hb hf => hgd.block b hb (fun e => hf (.inl (Option.some.inj e)))⟩
    have HRB := Lib.hid (rb_kept HE.out.st HE.out.rb hf1)
    have HF1 := Lib.hid hf1
    have HST := Lib.hid hdst
    obtain ⟨⟨q0, q1, q2, q3, q4, q5, q6⟩, r0, r1, r2, r3, r4, r5, r6⟩ := rb_cells HRB.out
    clear hdst hgd hf1
    go_wp2_with fail
    clear q0 q1 q2 q3 q4 q5 q6 r0 r1 r2 r3 r4 r5 r6
    obtain ⟨W5, hW5⟩ : ∃ W5, W5 = setR w1 (w.heap.size + 1) (.int .i64 0) (.slice none 0 0) (.int .i64 0) (.int .i64 0) (.int .i64 0) (.slice none 0 0) (.bool false) := ⟨_, rfl⟩
    have hr5 := setR_at0 HRB.out (.int .i64 0) (.slice none 0 0) (.int .i64 0) (.int .i64 0) (.int .i64 0) (.slice none 0 0) (.bool false)
    have hF5 := (Frm.refl (fun b => b = w.heap.size + 1) w1).setR (R := w.heap.size + 1) (.inl rfl) (.int .i64 0) (.slice none 0 0) (.int .i64 0) (.int .i64 0) (.int .i64 0) (.slice none 0 0) (.bool false)
    rw [← hW5] at hr5 hF5
    unfold setR at hW5
    rw [← hW5]
    have hfin := done9 HE.out.bel HE.out.st HE.out.rb (Nat.le_succ _) HF1.out HST.out hF5
    exact bodyPost_ret (ret_rep rfl _ _ (w.heap.size + 1) rfl hr5) rfl (by
      unfold Do10
      rw [HO2.out]
      exact ⟨rfl, ⟨ua', uc', hfin.1⟩, hfin.2⟩)
end Go.Proofs.Ytodoklnohedolaa
end PkUD3_5
section PkUD3_6
/- The document's Do: get, range. Written by gensddo.py. -/
namespace Go.Proofs.Ytodoklnohedolaa
open Go.RowKit
set_option linter.unusedVariables false
set_option linter.unusedSimpArgs false

set_option maxRecDepth 100000 in
set_option maxHeartbeats 16000000 in
theorem ddo_3 {w : World} {S base : Nat} {σ : DSto} (h : DStAt w S base σ) {vr at_ nn id : Int} {ky : ByteArray} {a : Option Addr} {n c : Nat}  :
    Calls Try.prog 21 #[.pointer (some ⟨S, 0, none⟩), .agg #[.int .i64 3, .string ky, .slice a n c, .int .i64 vr, .int .i64 at_, .int .i64 nn, .int .i64 id]] w (Do3 w S base σ ky) := by
  have HE := Lib.hid (dent_mk h #[.int .i64 3, .string ky, .slice a n c, .int .i64 vr, .int .i64 at_, .int .i64 nn, .int .i64 id])
  have hSl : S < w.heap.size := (Array.getElem?_eq_some_iff.1 h.blk).1
  clear h
  go_enter Try.func21, Try.ntmps21
  go_upto_region 1 with fail
  obtain ⟨W0, hW0⟩ : ∃ W0, W0 = (w.alloc (.cells #[.int .i64 3, .string ky, .slice a n c, .int .i64 vr, .int .i64 at_, .int .i64 nn, .int .i64 id] 30)).alloc (.cells zrep 36) := ⟨_, rfl⟩
  rw [← hW0] at HE
  unfold zrep at hW0
  rw [← hW0]
  clear hW0
  obtain ⟨ai, hai⟩ : ∃ ai, ai = atK σ.objs ky := ⟨_, rfl⟩
  obtain ⟨oi, hoi⟩ : ∃ oi, oi = openK σ.ups id := ⟨_, rfl⟩
  have HAT := Lib.hid (fun k => dat_any (HE.out.st.drewN k) ky)
  have HOP := Lib.hid (fun k => dopen_any (HE.out.st.drewN k) id)
  rw [← hai] at HAT
  rw [← hoi] at HOP
  have k1 := cell_blkD HE.out.cb (i := 1) (u := .string ky) rfl
  have k6 := cell_blkD HE.out.cb (i := 6) (u := .int .i64 id) rfl
  go_quiet ((first | (go_at_call 17; exact Calls.quiet_of_same (HAT.out _)) | (go_at_call 40; exact Calls.quiet_of_same (HOP.out _))))
  rename Nat => nq
  clear k1 k6 HAT HOP
  have HE1 := Lib.hid (HE.out.drewN nq)
  obtain ⟨W1, hW1⟩ : ∃ W1, W1 = W0.drewN nq := ⟨_, rfl⟩
  rw [← hW1] at HE1
  rw [← hW1]
  clear HE hW1
  have HE := HE1
  clear HE1
  have hz0 := HE.out.sz
  have hk0 : w.heap.size < W1.heap.size := by omega
  have hr0 : w.heap.size + 1 < W1.heap.size := by omega
  have hS0 : S < W1.heap.size := by omega
  have HZ0 := Lib.hid hz0
  clear hz0
  have HR0 := Lib.hid (Below.refl W1.heap.size W1)
  have k0 := cell_blkD HE.out.cb (i := 0) (u := .int .i64 3) rfl
  have HAI := Lib.hid hai
  have HOI := Lib.hid hoi
  clear hai hoi
  rcases atK_neg (l := σ.objs) (k := ky) with ⟨ho1, ho2⟩ | ⟨jo, ho1, ho2⟩
  · have hai := HAI.out
    rw [ho1] at hai
    clear HAI
    subst hai
    have HNO := Lib.hid (show ∀ e w', NoD w S base σ 7 e w' → Do3 w S base σ ky e w' from fun e w' h => by unfold Do3; rw [ho2]; exact h)
    clear ho1 ho2
    go_wp2_with fail
    refine (dbad_any 7 W1).mono ?_
    rintro e wE ⟨rfl, hbE⟩
    unfold repA
    have hbe := HR0.out.trans (hbE.mono HR0.out.size)
    have HRB := Lib.hid ((hbe.block (w.heap.size + 1) hr0).trans HE.out.rb)
    have HST := Lib.hid (HE.out.st.below hbe)
    have HFR := Lib.hid (show Frm (DF S σ) w wE from Frm.ofBelow (HE.out.bel.trans (hbe.mono HE.out.bel.size)))
    obtain ⟨⟨q0, q1, q2, q3, q4, q5, q6⟩, r0, r1, r2, r3, r4, r5, r6⟩ := rb_cells HRB.out
    clear hbE hbe
    go_wp2_with fail
    clear q0 q1 q2 q3 q4 q5 q6 r0 r1 r2 r3 r4 r5 r6
    obtain ⟨W5, hW5⟩ : ∃ W5, W5 = setR wE (w.heap.size + 1) (.int .i64 7) (.slice none 0 0) (.int .i64 0) (.int .i64 0) (.int .i64 0) (.slice none 0 0) (.bool false) := ⟨_, rfl⟩
    have hr5 := setR_at0 HRB.out (.int .i64 7) (.slice none 0 0) (.int .i64 0) (.int .i64 0) (.int .i64 0) (.slice none 0 0) (.bool false)
    have hF5 := (Frm.refl (fun b => b = w.heap.size + 1) wE).setR (R := w.heap.size + 1) (.inl rfl) (.int .i64 7) (.slice none 0 0) (.int .i64 0) (.int .i64 0) (.int .i64 0) (.slice none 0 0) (.bool false)
    rw [← hW5] at hr5 hF5
    unfold setR at hW5
    rw [← hW5]
    have hfin := put_done HST.out HRB.out (Nat.le_succ _) HFR.out hF5
    exact bodyPost_ret (ret_rep rfl _ _ (w.heap.size + 1) rfl hr5) rfl (HNO.out _ _ ⟨rfl, hfin⟩)
  · have hai := HAI.out
    rw [ho1] at hai
    clear HAI
    subst hai
    obtain ⟨o, hu, _, hul⟩ := find_at ho2
    have HO2 := Lib.hid ho2
    have HU := Lib.hid hu
    have zjo : ¬ (jo : Int) < 0 := by omega
    clear ho1 ho2 hu
    have hoo := HE.out.st.obj o (List.mem_of_getElem? HU.out)
    have HOO := Lib.hid hoo
    have HV0 := Lib.hid HE.out.st.objs
    obtain ⟨gb, off, hga, hgl, _, hgc⟩ := HV0.out.get hul
    have hgd : σ.objs.getD jo DObjS.z = o := by rw [List.getD_eq_getElem?_getD, HU.out]; rfl
    rw [hgd] at hgc
    obtain ⟨yk, ya, yn, yc, yd, yv, yb⟩ := o
    have v0 : W1.cell? ⟨gb, off + jo * 4, none⟩ = some (.string yk) := hgc 0 _ rfl
    have v1 : W1.cell? ⟨gb, off + jo * 4 + 1, none⟩ = some (.slice ya yn yc) := hgc 1 _ rfl
    have v2 : W1.cell? ⟨gb, off + jo * 4 + 2, none⟩ = some (.int .i64 yv) := hgc 2 _ rfl
    have v3 : W1.cell? ⟨gb, off + jo * 4 + 3, none⟩ = some (.int .i64 yb) := hgc 3 _ rfl
    have c0 := cell_blkD HE.out.st.blk (i := 0) (u := .slice σ.oa σ.objs.length σ.oc) rfl
    rw [hga] at c0
    obtain ⟨m9, hm9⟩ : ∃ m9, m9 = σ.objs.length := ⟨_, rfl⟩
    obtain ⟨uc9, huc9⟩ : ∃ uc9, uc9 = σ.oc := ⟨_, rfl⟩
    rw [← hm9, ← huc9] at c0
    rw [← hm9] at hul
    have zi : (jo : Int) < (m9 : Int) := by omega
    have zi0 : (0 : Int) ≤ (jo : Int) := by omega
    obtain ⟨b8, hb8⟩ : ∃ b8, b8 = W1.heap.size := ⟨_, rfl⟩
    obtain ⟨W7, hW7⟩ : ∃ W7, W7 = W1.alloc (.cells #[.string yk, .slice ya yn yc, .int .i64 yv, .int .i64 yb] 56) := ⟨_, rfl⟩
    have HB7 := Lib.hid (show Below W1.heap.size W1 W7 from by rw [hW7]; exact (Below.refl _ _).alloc (Nat.le_refl _) _)
    have HK7 := Lib.hid (show W7.heap[b8]? = some (.cells #[.string yk, .slice ya yn yc, .int .i64 yv, .int .i64 yb] 56 (0, 0)) from by rw [hW7, hb8]; exact heap_alloc_newD W1 _)
    have HW7 := Lib.hid hW7
    have HBE8 := Lib.hid hb8
    clear hm9 huc9 hgc hgd hga hgl hW7 hoo hb8
    go_upto_region 22 with fail
    rw [← HW7.out, ← HBE8.out]
    clear v0 v1 v2 v3 c0 k0
    have HYB := Lib.hid (show BytesAt W7 ya yn yc yd from (ObjOk.bytes HOO.out).kept HB7.out)
    have k0 := cell_blkD (cells_of_below HB7.out HE.out.cb) (i := 0) (u := .int .i64 3) rfl
    have HRW := Lib.hid (cells_of_below HB7.out HE.out.rb)
    have HSTW := Lib.hid (HE.out.st.below HB7.out)
    have HFRW := Lib.hid (show Frm (DF S σ) w W7 from Frm.ofBelow (HE.out.bel.trans (HB7.out.mono HE.out.bel.size)))
    have HSB := HYB
    have HTW := Lib.hid (twin_any HSB.out.drew)
    have x1 := cell_blkD HK7.out (i := 1) (u := .slice ya yn yc) rfl
    have x2 := cell_blkD HK7.out (i := 2) (u := .int .i64 yv) rfl
    have x3 := cell_blkD HK7.out (i := 3) (u := .int .i64 yb) rfl
    go_upto_region 26 with fail
    go_region_law (go_simp; go_at_call 45; refine HTW.out.mono ?_; rintro e wB ⟨vB, rfl, hoB, _, hbB⟩; obtain ⟨ta, tc, rfl⟩ := own_sliceD hoB; have HBB := Lib.hid (show Below W7.heap.size W7 wB from ((Below.refl W7.heap.size W7).drew).trans hbB); have HOB := Lib.hid hoB; have z2 := cell_blkD (cells_of_below HBB.out HK7.out) (i := 2) (u := .int .i64 yv) rfl; have z3 := cell_blkD (cells_of_below HBB.out HK7.out) (i := 3) (u := .int .i64 yb) rfl; have HRB := Lib.hid (cells_of_below HBB.out HRW.out); obtain ⟨⟨q0, q1, q2, q3, q4, q5, q6⟩, r0, r1, r2, r3, r4, r5, r6⟩ := rb_cells HRB.out; clear hoB hbB)
    all_goals
      clear x1 x2 x3 z2 z3 q0 q1 q2 q3 q4 q5 q6 r0 r1 r2 r3 r4 r5 r6
      have HST := Lib.hid (HSTW.out.below HBB.out)
      have HFR := Lib.hid (HFRW.out.below HBB.out)
      go_wp2_with fail
      obtain ⟨W5, hW5⟩ : ∃ W5, W5 = setR wB (w.heap.size + 1) (.int .i64 0) (.slice ta yn tc) (.int .i64 yv) (.int .i64 yb) (.int .i64 0) (.slice none 0 0) (.bool false) := ⟨_, rfl⟩
      have hr5 := setR_at0 HRB.out (.int .i64 0) (.slice ta yn tc) (.int .i64 yv) (.int .i64 yb) (.int .i64 0) (.slice none 0 0) (.bool false)
      have hF5 := (Frm.refl (fun b => b = w.heap.size + 1) wB).setR (R := w.heap.size + 1) (.inl rfl) (.int .i64 0) (.slice ta yn tc) (.int .i64 yv) (.int .i64 yb) (.int .i64 0) (.slice none 0 0) (.bool false)
      rw [← hW5] at hr5 hF5
      unfold setR at hW5
      rw [← hW5]
      have hfin := put_done HST.out HRB.out (Nat.le_succ _) HFR.out hF5
      have hget := getOk_mk (n := yn) (xs := yd) (ver := yv) (born := yb) HOB.out HSB.out.byte HSB.out.reach HRB.out hF5 hfin
      exact bodyPost_ret (ret_rep rfl _ _ (w.heap.size + 1) rfl hr5) rfl (by
        unfold Do3
        rw [HO2.out]
        intro u' hu'
        rw [HU.out] at hu'
        cases hu'
        exact hget)
set_option maxRecDepth 100000 in
set_option maxHeartbeats 16000000 in
theorem ddo_4 {w : World} {S base : Nat} {σ : DSto} (h : DStAt w S base σ) {vr at_ nn id : Int} {ky : ByteArray} {a : Option Addr} {n c : Nat}  :
    Calls Try.prog 21 #[.pointer (some ⟨S, 0, none⟩), .agg #[.int .i64 4, .string ky, .slice a n c, .int .i64 vr, .int .i64 at_, .int .i64 nn, .int .i64 id]] w (Do4 w S base σ ky at_ nn) := by
  have HE := Lib.hid (dent_mk h #[.int .i64 4, .string ky, .slice a n c, .int .i64 vr, .int .i64 at_, .int .i64 nn, .int .i64 id])
  have hSl : S < w.heap.size := (Array.getElem?_eq_some_iff.1 h.blk).1
  clear h
  go_enter Try.func21, Try.ntmps21
  go_upto_region 1 with fail
  obtain ⟨W0, hW0⟩ : ∃ W0, W0 = (w.alloc (.cells #[.int .i64 4, .string ky, .slice a n c, .int .i64 vr, .int .i64 at_, .int .i64 nn, .int .i64 id] 30)).alloc (.cells zrep 36) := ⟨_, rfl⟩
  rw [← hW0] at HE
  unfold zrep at hW0
  rw [← hW0]
  clear hW0
  obtain ⟨ai, hai⟩ : ∃ ai, ai = atK σ.objs ky := ⟨_, rfl⟩
  obtain ⟨oi, hoi⟩ : ∃ oi, oi = openK σ.ups id := ⟨_, rfl⟩
  have HAT := Lib.hid (fun k => dat_any (HE.out.st.drewN k) ky)
  have HOP := Lib.hid (fun k => dopen_any (HE.out.st.drewN k) id)
  rw [← hai] at HAT
  rw [← hoi] at HOP
  have k1 := cell_blkD HE.out.cb (i := 1) (u := .string ky) rfl
  have k6 := cell_blkD HE.out.cb (i := 6) (u := .int .i64 id) rfl
  go_quiet ((first | (go_at_call 17; exact Calls.quiet_of_same (HAT.out _)) | (go_at_call 40; exact Calls.quiet_of_same (HOP.out _))))
  rename Nat => nq
  clear k1 k6 HAT HOP
  have HE1 := Lib.hid (HE.out.drewN nq)
  obtain ⟨W1, hW1⟩ : ∃ W1, W1 = W0.drewN nq := ⟨_, rfl⟩
  rw [← hW1] at HE1
  rw [← hW1]
  clear HE hW1
  have HE := HE1
  clear HE1
  have hz0 := HE.out.sz
  have hk0 : w.heap.size < W1.heap.size := by omega
  have hr0 : w.heap.size + 1 < W1.heap.size := by omega
  have hS0 : S < W1.heap.size := by omega
  have HZ0 := Lib.hid hz0
  clear hz0
  have HR0 := Lib.hid (Below.refl W1.heap.size W1)
  have k0 := cell_blkD HE.out.cb (i := 0) (u := .int .i64 4) rfl
  have HAI := Lib.hid hai
  have HOI := Lib.hid hoi
  clear hai hoi
  rcases atK_neg (l := σ.objs) (k := ky) with ⟨ho1, ho2⟩ | ⟨jo, ho1, ho2⟩
  · have hai := HAI.out
    rw [ho1] at hai
    clear HAI
    subst hai
    have HNO := Lib.hid (show ∀ e w', NoD w S base σ 7 e w' → Do4 w S base σ ky at_ nn e w' from fun e w' h => by unfold Do4; rw [ho2]; exact h)
    clear ho1 ho2
    go_wp2_with fail
    refine (dbad_any 7 W1).mono ?_
    rintro e wE ⟨rfl, hbE⟩
    unfold repA
    have hbe := HR0.out.trans (hbE.mono HR0.out.size)
    have HRB := Lib.hid ((hbe.block (w.heap.size + 1) hr0).trans HE.out.rb)
    have HST := Lib.hid (HE.out.st.below hbe)
    have HFR := Lib.hid (show Frm (DF S σ) w wE from Frm.ofBelow (HE.out.bel.trans (hbe.mono HE.out.bel.size)))
    obtain ⟨⟨q0, q1, q2, q3, q4, q5, q6⟩, r0, r1, r2, r3, r4, r5, r6⟩ := rb_cells HRB.out
    clear hbE hbe
    go_wp2_with fail
    clear q0 q1 q2 q3 q4 q5 q6 r0 r1 r2 r3 r4 r5 r6
    obtain ⟨W5, hW5⟩ : ∃ W5, W5 = setR wE (w.heap.size + 1) (.int .i64 7) (.slice none 0 0) (.int .i64 0) (.int .i64 0) (.int .i64 0) (.slice none 0 0) (.bool false) := ⟨_, rfl⟩
    have hr5 := setR_at0 HRB.out (.int .i64 7) (.slice none 0 0) (.int .i64 0) (.int .i64 0) (.int .i64 0) (.slice none 0 0) (.bool false)
    have hF5 := (Frm.refl (fun b => b = w.heap.size + 1) wE).setR (R := w.heap.size + 1) (.inl rfl) (.int .i64 7) (.slice none 0 0) (.int .i64 0) (.int .i64 0) (.int .i64 0) (.slice none 0 0) (.bool false)
    rw [← hW5] at hr5 hF5
    unfold setR at hW5
    rw [← hW5]
    have hfin := put_done HST.out HRB.out (Nat.le_succ _) HFR.out hF5
    exact bodyPost_ret (ret_rep rfl _ _ (w.heap.size + 1) rfl hr5) rfl (HNO.out _ _ ⟨rfl, hfin⟩)
  · have hai := HAI.out
    rw [ho1] at hai
    clear HAI
    subst hai
    obtain ⟨o, hu, _, hul⟩ := find_at ho2
    have HO2 := Lib.hid ho2
    have HU := Lib.hid hu
    have zjo : ¬ (jo : Int) < 0 := by omega
    clear ho1 ho2 hu
    have hoo := HE.out.st.obj o (List.mem_of_getElem? HU.out)
    have HOO := Lib.hid hoo
    have HV0 := Lib.hid HE.out.st.objs
    obtain ⟨gb, off, hga, hgl, _, hgc⟩ := HV0.out.get hul
    have hgd : σ.objs.getD jo DObjS.z = o := by rw [List.getD_eq_getElem?_getD, HU.out]; rfl
    rw [hgd] at hgc
    obtain ⟨yk, ya, yn, yc, yd, yv, yb⟩ := o
    have v0 : W1.cell? ⟨gb, off + jo * 4, none⟩ = some (.string yk) := hgc 0 _ rfl
    have v1 : W1.cell? ⟨gb, off + jo * 4 + 1, none⟩ = some (.slice ya yn yc) := hgc 1 _ rfl
    have v2 : W1.cell? ⟨gb, off + jo * 4 + 2, none⟩ = some (.int .i64 yv) := hgc 2 _ rfl
    have v3 : W1.cell? ⟨gb, off + jo * 4 + 3, none⟩ = some (.int .i64 yb) := hgc 3 _ rfl
    have c0 := cell_blkD HE.out.st.blk (i := 0) (u := .slice σ.oa σ.objs.length σ.oc) rfl
    rw [hga] at c0
    obtain ⟨m9, hm9⟩ : ∃ m9, m9 = σ.objs.length := ⟨_, rfl⟩
    obtain ⟨uc9, huc9⟩ : ∃ uc9, uc9 = σ.oc := ⟨_, rfl⟩
    rw [← hm9, ← huc9] at c0
    rw [← hm9] at hul
    have zi : (jo : Int) < (m9 : Int) := by omega
    have zi0 : (0 : Int) ≤ (jo : Int) := by omega
    obtain ⟨b8, hb8⟩ : ∃ b8, b8 = W1.heap.size := ⟨_, rfl⟩
    obtain ⟨W7, hW7⟩ : ∃ W7, W7 = W1.alloc (.cells #[.string yk, .slice ya yn yc, .int .i64 yv, .int .i64 yb] 56) := ⟨_, rfl⟩
    have HB7 := Lib.hid (show Below W1.heap.size W1 W7 from by rw [hW7]; exact (Below.refl _ _).alloc (Nat.le_refl _) _)
    have HK7 := Lib.hid (show W7.heap[b8]? = some (.cells #[.string yk, .slice ya yn yc, .int .i64 yv, .int .i64 yb] 56 (0, 0)) from by rw [hW7, hb8]; exact heap_alloc_newD W1 _)
    have HW7 := Lib.hid hW7
    have HBE8 := Lib.hid hb8
    clear hm9 huc9 hgc hgd hga hgl hW7 hoo hb8
    go_upto_region 22 with fail
    rw [← HW7.out, ← HBE8.out]
    clear v0 v1 v2 v3 c0 k0
    have HYB := Lib.hid (show BytesAt W7 ya yn yc yd from (ObjOk.bytes HOO.out).kept HB7.out)
    have k0 := cell_blkD (cells_of_below HB7.out HE.out.cb) (i := 0) (u := .int .i64 4) rfl
    have k4 := cell_blkD (cells_of_below HB7.out HE.out.cb) (i := 4) (u := .int .i64 at_) rfl
    have k5 := cell_blkD (cells_of_below HB7.out HE.out.cb) (i := 5) (u := .int .i64 nn) rfl
    have x1 := cell_blkD HK7.out (i := 1) (u := .slice ya yn yc) rfl
    have hyr := HYB.out.reach
    have hyc := HYB.out.cap
    have hycm := HYB.out.capm
    by_cases h1 : at_ < 0
    case pos =>
      have HPE := Lib.hid (show pieDE yn at_ nn = 2 from by unfold pieDE; rw [if_pos (.inl h1)])
      go_wp2_with fail
      refine (dbad_any 2 W7).mono ?_
      rintro e wE ⟨rfl, hbE⟩
      unfold repA
      have hbe := HB7.out.trans (hbE.mono HB7.out.size)
      have HRB := Lib.hid ((hbe.block (w.heap.size + 1) hr0).trans HE.out.rb)
      have HST := Lib.hid (HE.out.st.below hbe)
      have HFR := Lib.hid (show Frm (DF S σ) w wE from Frm.ofBelow (HE.out.bel.trans (hbe.mono HE.out.bel.size)))
      obtain ⟨⟨q0, q1, q2, q3, q4, q5, q6⟩, r0, r1, r2, r3, r4, r5, r6⟩ := rb_cells HRB.out
      clear hbE hbe
      go_wp2_with fail
      clear q0 q1 q2 q3 q4 q5 q6 r0 r1 r2 r3 r4 r5 r6
      obtain ⟨W5, hW5⟩ : ∃ W5, W5 = setR wE (w.heap.size + 1) (.int .i64 2) (.slice none 0 0) (.int .i64 0) (.int .i64 0) (.int .i64 0) (.slice none 0 0) (.bool false) := ⟨_, rfl⟩
      have hr5 := setR_at0 HRB.out (.int .i64 2) (.slice none 0 0) (.int .i64 0) (.int .i64 0) (.int .i64 0) (.slice none 0 0) (.bool false)
      have hF5 := (Frm.refl (fun b => b = w.heap.size + 1) wE).setR (R := w.heap.size + 1) (.inl rfl) (.int .i64 2) (.slice none 0 0) (.int .i64 0) (.int .i64 0) (.int .i64 0) (.slice none 0 0) (.bool false)
      rw [← hW5] at hr5 hF5
      unfold setR at hW5
      rw [← hW5]
      have hfin := put_done HST.out HRB.out (Nat.le_succ _) HFR.out hF5
      exact bodyPost_ret (ret_rep rfl _ _ (w.heap.size + 1) rfl hr5) rfl (by
        unfold Do4
        rw [HO2.out]
        intro u' hu'
        rw [HU.out] at hu'
        cases hu'
        exact ⟨fun _ => ⟨rfl, hfin⟩, fun e0 => by have h2 : pieDE yn at_ nn = 2 := HPE.out; rw [e0] at h2; cases h2⟩)
    by_cases h2 : nn < 0
    case pos =>
      have HPE := Lib.hid (show pieDE yn at_ nn = 2 from by unfold pieDE; rw [if_pos (.inr (.inl h2))])
      go_wp2_with fail
      refine (dbad_any 2 W7).mono ?_
      rintro e wE ⟨rfl, hbE⟩
      unfold repA
      have hbe := HB7.out.trans (hbE.mono HB7.out.size)
      have HRB := Lib.hid ((hbe.block (w.heap.size + 1) hr0).trans HE.out.rb)
      have HST := Lib.hid (HE.out.st.below hbe)
      have HFR := Lib.hid (show Frm (DF S σ) w wE from Frm.ofBelow (HE.out.bel.trans (hbe.mono HE.out.bel.size)))
      obtain ⟨⟨q0, q1, q2, q3, q4, q5, q6⟩, r0, r1, r2, r3, r4, r5, r6⟩ := rb_cells HRB.out
      clear hbE hbe
      go_wp2_with fail
      clear q0 q1 q2 q3 q4 q5 q6 r0 r1 r2 r3 r4 r5 r6
      obtain ⟨W5, hW5⟩ : ∃ W5, W5 = setR wE (w.heap.size + 1) (.int .i64 2) (.slice none 0 0) (.int .i64 0) (.int .i64 0) (.int .i64 0) (.slice none 0 0) (.bool false) := ⟨_, rfl⟩
      have hr5 := setR_at0 HRB.out (.int .i64 2) (.slice none 0 0) (.int .i64 0) (.int .i64 0) (.int .i64 0) (.slice none 0 0) (.bool false)
      have hF5 := (Frm.refl (fun b => b = w.heap.size + 1) wE).setR (R := w.heap.size + 1) (.inl rfl) (.int .i64 2) (.slice none 0 0) (.int .i64 0) (.int .i64 0) (.int .i64 0) (.slice none 0 0) (.bool false)
      rw [← hW5] at hr5 hF5
      unfold setR at hW5
      rw [← hW5]
      have hfin := put_done HST.out HRB.out (Nat.le_succ _) HFR.out hF5
      exact bodyPost_ret (ret_rep rfl _ _ (w.heap.size + 1) rfl hr5) rfl (by
        unfold Do4
        rw [HO2.out]
        intro u' hu'
        rw [HU.out] at hu'
        cases hu'
        exact ⟨fun _ => ⟨rfl, hfin⟩, fun e0 => by have h2 : pieDE yn at_ nn = 2 := HPE.out; rw [e0] at h2; cases h2⟩)
    by_cases h3 : (yn : Int) < at_
    case pos =>
      have HPE := Lib.hid (show pieDE yn at_ nn = 2 from by unfold pieDE; rw [if_pos (.inr (.inr (.inl h3)))])
      go_wp2_with fail
      refine (dbad_any 2 W7).mono ?_
      rintro e wE ⟨rfl, hbE⟩
      unfold repA
      have hbe := HB7.out.trans (hbE.mono HB7.out.size)
      have HRB := Lib.hid ((hbe.block (w.heap.size + 1) hr0).trans HE.out.rb)
      have HST := Lib.hid (HE.out.st.below hbe)
      have HFR := Lib.hid (show Frm (DF S σ) w wE from Frm.ofBelow (HE.out.bel.trans (hbe.mono HE.out.bel.size)))
      obtain ⟨⟨q0, q1, q2, q3, q4, q5, q6⟩, r0, r1, r2, r3, r4, r5, r6⟩ := rb_cells HRB.out
      clear hbE hbe
      go_wp2_with fail
      clear q0 q1 q2 q3 q4 q5 q6 r0 r1 r2 r3 r4 r5 r6
      obtain ⟨W5, hW5⟩ : ∃ W5, W5 = setR wE (w.heap.size + 1) (.int .i64 2) (.slice none 0 0) (.int .i64 0) (.int .i64 0) (.int .i64 0) (.slice none 0 0) (.bool false) := ⟨_, rfl⟩
      have hr5 := setR_at0 HRB.out (.int .i64 2) (.slice none 0 0) (.int .i64 0) (.int .i64 0) (.int .i64 0) (.slice none 0 0) (.bool false)
      have hF5 := (Frm.refl (fun b => b = w.heap.size + 1) wE).setR (R := w.heap.size + 1) (.inl rfl) (.int .i64 2) (.slice none 0 0) (.int .i64 0) (.int .i64 0) (.int .i64 0) (.slice none 0 0) (.bool false)
      rw [← hW5] at hr5 hF5
      unfold setR at hW5
      rw [← hW5]
      have hfin := put_done HST.out HRB.out (Nat.le_succ _) HFR.out hF5
      exact bodyPost_ret (ret_rep rfl _ _ (w.heap.size + 1) rfl hr5) rfl (by
        unfold Do4
        rw [HO2.out]
        intro u' hu'
        rw [HU.out] at hu'
        cases hu'
        exact ⟨fun _ => ⟨rfl, hfin⟩, fun e0 => by have h2 : pieDE yn at_ nn = 2 := HPE.out; rw [e0] at h2; cases h2⟩)
    have wsb : IntKind.i64.wrap ((yn : Int) - at_) = (yn : Int) - at_ := IntWalk.i64_in _ (by omega)
    by_cases h4 : (yn : Int) - at_ < nn
    case pos =>
      have HPE := Lib.hid (show pieDE yn at_ nn = 2 from by unfold pieDE; rw [if_pos (.inr (.inr (.inr h4)))])
      go_wp2_with fail
      refine (dbad_any 2 W7).mono ?_
      rintro e wE ⟨rfl, hbE⟩
      unfold repA
      have hbe := HB7.out.trans (hbE.mono HB7.out.size)
      have HRB := Lib.hid ((hbe.block (w.heap.size + 1) hr0).trans HE.out.rb)
      have HST := Lib.hid (HE.out.st.below hbe)
      have HFR := Lib.hid (show Frm (DF S σ) w wE from Frm.ofBelow (HE.out.bel.trans (hbe.mono HE.out.bel.size)))
      obtain ⟨⟨q0, q1, q2, q3, q4, q5, q6⟩, r0, r1, r2, r3, r4, r5, r6⟩ := rb_cells HRB.out
      clear hbE hbe
      go_wp2_with fail
      clear q0 q1 q2 q3 q4 q5 q6 r0 r1 r2 r3 r4 r5 r6
      obtain ⟨W5, hW5⟩ : ∃ W5, W5 = setR wE (w.heap.size + 1) (.int .i64 2) (.slice none 0 0) (.int .i64 0) (.int .i64 0) (.int .i64 0) (.slice none 0 0) (.bool false) := ⟨_, rfl⟩
      have hr5 := setR_at0 HRB.out (.int .i64 2) (.slice none 0 0) (.int .i64 0) (.int .i64 0) (.int .i64 0) (.slice none 0 0) (.bool false)
      have hF5 := (Frm.refl (fun b => b = w.heap.size + 1) wE).setR (R := w.heap.size + 1) (.inl rfl) (.int .i64 2) (.slice none 0 0) (.int .i64 0) (.int .i64 0) (.int .i64 0) (.slice none 0 0) (.bool false)
      rw [← hW5] at hr5 hF5
      unfold setR at hW5
      rw [← hW5]
      have hfin := put_done HST.out HRB.out (Nat.le_succ _) HFR.out hF5
      exact bodyPost_ret (ret_rep rfl _ _ (w.heap.size + 1) rfl hr5) rfl (by
        unfold Do4
        rw [HO2.out]
        intro u' hu'
        rw [HU.out] at hu'
        cases hu'
        exact ⟨fun _ => ⟨rfl, hfin⟩, fun e0 => by have h2 : pieDE yn at_ nn = 2 := HPE.out; rw [e0] at h2; cases h2⟩)
    have HPE := Lib.hid (show pieDE yn at_ nn = 0 from by unfold pieDE; rw [if_neg (by omega)])
    obtain ⟨p, rfl⟩ : ∃ p : Nat, at_ = (p : Int) := ⟨at_.toNat, by omega⟩
    obtain ⟨m, rfl⟩ : ∃ m : Nat, nn = (m : Int) := ⟨nn.toNat, by omega⟩
    have wad : IntKind.i64.wrap ((p : Int) + (m : Int)) = (p : Int) + (m : Int) := IntWalk.i64_in _ (by omega)
    have hsl := slice_runD ya yn yc p m (by omega)
    obtain ⟨a5, ha5⟩ : ∃ a5, a5 = (if yc = p then (ya : Option Addr) else ya.map (·.add p)) := ⟨_, rfl⟩
    rw [← ha5] at hsl
    have fx := frz_blkD HK7.out 1
    have HSB0 := Lib.hid (show BytesAt W7 a5 m (yc - p) ((yd.drop p).take m) from by rw [ha5]; exact HYB.out.subAnyD p m (by omega))
    obtain ⟨W8, hW8⟩ : ∃ W8, W8 = W7.setCell ⟨b8, 1, none⟩ (.slice a5 m (yc - p)) := ⟨_, rfl⟩
    have HK8 := Lib.hid (show W8.heap[b8]? = some (.cells #[.string yk, .slice a5 m (yc - p), .int .i64 yv, .int .i64 yb] 56 (0, 0)) from by rw [hW8, heap_setCell_same W7 b8 1 _ _ _ HK7.out]; rfl)
    have HB8 := Lib.hid (show Below W1.heap.size W1 W8 from by rw [hW8]; exact HB7.out.setCell (p := ⟨b8, 1, none⟩) (Nat.le_of_eq HBE8.out.symm) _)
    have HRW := Lib.hid (cells_of_below HB8.out HE.out.rb)
    have HSTW := Lib.hid (HE.out.st.below HB8.out)
    have HFRW := Lib.hid (show Frm (DF S σ) w W8 from Frm.ofBelow (HE.out.bel.trans (HB8.out.mono HE.out.bel.size)))
    have HSB := Lib.hid (show BytesAt W8 a5 m (yc - p) ((yd.drop p).take m) from by
      rw [ha5]
      exact (show BytesAt W8 ya yn yc yd from (ObjOk.bytes HOO.out).kept HB8.out).subAnyD p m (by omega))
    have HW8 := Lib.hid hW8
    clear ha5 hW8 h1 h2
    go_upto_region 26 with fail
    rw [← HW8.out]
    clear x1 k0 k4 k5 fx hsl wsb wad
    have HTW := Lib.hid (twin_any HSB.out.drew)
    have x1 := cell_blkD HK8.out (i := 1) (u := .slice a5 m (yc - p)) rfl
    have x2 := cell_blkD HK8.out (i := 2) (u := .int .i64 yv) rfl
    have x3 := cell_blkD HK8.out (i := 3) (u := .int .i64 yb) rfl
    go_region_law (go_simp; go_at_call 45; refine HTW.out.mono ?_; rintro e wB ⟨vB, rfl, hoB, _, hbB⟩; obtain ⟨ta, tc, rfl⟩ := own_sliceD hoB; have HBB := Lib.hid (show Below W8.heap.size W8 wB from ((Below.refl W8.heap.size W8).drew).trans hbB); have HOB := Lib.hid hoB; have z2 := cell_blkD (cells_of_below HBB.out HK8.out) (i := 2) (u := .int .i64 yv) rfl; have z3 := cell_blkD (cells_of_below HBB.out HK8.out) (i := 3) (u := .int .i64 yb) rfl; have HRB := Lib.hid (cells_of_below HBB.out HRW.out); obtain ⟨⟨q0, q1, q2, q3, q4, q5, q6⟩, r0, r1, r2, r3, r4, r5, r6⟩ := rb_cells HRB.out; clear hoB hbB)
    all_goals
      clear x1 x2 x3 z2 z3 q0 q1 q2 q3 q4 q5 q6 r0 r1 r2 r3 r4 r5 r6
      have HST := Lib.hid (HSTW.out.below HBB.out)
      have HFR := Lib.hid (HFRW.out.below HBB.out)
      go_wp2_with fail
      obtain ⟨W5, hW5⟩ : ∃ W5, W5 = setR wB (w.heap.size + 1) (.int .i64 0) (.slice ta m tc) (.int .i64 yv) (.int .i64 yb) (.int .i64 0) (.slice none 0 0) (.bool false) := ⟨_, rfl⟩
      have hr5 := setR_at0 HRB.out (.int .i64 0) (.slice ta m tc) (.int .i64 yv) (.int .i64 yb) (.int .i64 0) (.slice none 0 0) (.bool false)
      have hF5 := (Frm.refl (fun b => b = w.heap.size + 1) wB).setR (R := w.heap.size + 1) (.inl rfl) (.int .i64 0) (.slice ta m tc) (.int .i64 yv) (.int .i64 yb) (.int .i64 0) (.slice none 0 0) (.bool false)
      rw [← hW5] at hr5 hF5
      unfold setR at hW5
      rw [← hW5]
      have hfin := put_done HST.out HRB.out (Nat.le_succ _) HFR.out hF5
      have hget := getOk_mk (n := m) (xs := ((yd.drop p).take m)) (ver := yv) (born := yb) HOB.out HSB.out.byte HSB.out.reach HRB.out hF5 hfin
      exact bodyPost_ret (ret_rep rfl _ _ (w.heap.size + 1) rfl hr5) rfl (by
        unfold Do4
        rw [HO2.out]
        intro u' hu'
        rw [HU.out] at hu'
        cases hu'
        exact ⟨fun e0 => absurd HPE.out e0, fun _ => by rw [Int.toNat_natCast, Int.toNat_natCast]; exact hget⟩)
end Go.Proofs.Ytodoklnohedolaa
end PkUD3_6
section PkUD3_7
/- A region whose order is drawn, in which some operations wait for each other in a chain and turn the world, and all others only read and have known values. -/
namespace Go.Proofs.Ytodoklnohedolaa
open Go.RowKit
set_option linter.unusedVariables false

/-- does operation i wait for operation j -/
def needsB (ops : Array Oper) : Nat → Nat → Nat → Bool
  | 0, _, _ => false
  | f + 1, i, j => match ops[i]? with
    | none => false
    | some o => o.after.any fun (e : Edge) => Region.binds .any e && (e.on == j || needsB ops f e.on j)
/-- what has come up is closed: all that an operation waited for -/
def ClosedB (ops : Array Oper) (L : Nat → Bool) : Prop := ∀ (i : Nat) (o : Oper), ops[i]? = some o → L i = true → ∀ e : Edge, e ∈ o.after → Region.binds .any e = true → L e.on = true
theorem needs_up {ops : Array Oper} {L : Nat → Bool} (h : ClosedB ops L) : ∀ (f i j : Nat), needsB ops f i j = true → L i = true → L j = true
  | 0, _, _, hn, _ => by cases hn
  | f + 1, i, j, hn, hl => by
    unfold needsB at hn
    cases ho : ops[i]? with
    | none => rw [ho] at hn; cases hn
    | some o =>
      rw [ho] at hn
      simp only [Array.any_eq_true] at hn
      obtain ⟨k, hk, he⟩ := hn
      rw [Bool.and_eq_true, Bool.or_eq_true] at he
      have h1 := h i o ho hl _ (Array.getElem_mem hk) he.1
      rcases he.2 with g | g
      · rw [← beq_iff_eq.1 g]; exact h1
      · exact needs_up h f _ j g h1
def bigC : Nat := 1000000
/-- the chain: told apart, each link waits for the one ahead, the last one for all -/
def chainOk (ops : Array Oper) (E : List Nat) (fr : Bool) : Bool :=
  decide (ops.size < bigC) && decide (0 < E.length) && (E.all fun e => decide (e < ops.size)) && decide (E.Nodup) && ((List.range (E.length - 1)).all fun i => needsB ops ops.size (E.getD (i + 1) bigC) (E.getD i bigC)) &&
  (fr || (List.range ops.size).all fun j => E.contains j || needsB ops ops.size (E.getD (E.length - 1) bigC) j)
structure ChI (ops : Array Oper) (E : List Nat) (St : Nat → (Nat → Value) → World → Prop) (vals : Nat → Option Value) (L : Nat → Bool) (v : Nat → Value) (w : World) : Prop where
  cl : ClosedB ops L
  st : ∃ k, k ≤ E.length ∧ (∀ i, i < E.length → (L (E.getD i bigC) = true ↔ i < k)) ∧ St k (fun n => v (E.getD n bigC)) w
  vs : ∀ j x, L j = true → vals j = some x → v j = x
theorem closed_add {ops : Array Oper} {L : Nat → Bool} (h : ClosedB ops L) {i : Nat} {o : Oper} (ho : ops[i]? = some o) (hd : ∀ e : Edge, e ∈ o.after → Region.binds .any e = true → L e.on = true) : ClosedB ops (fun j => L j || decide (j = i)) := by
  intro j o' hj hl e he hb
  show (L e.on || decide (e.on = i)) = true
  have hl' : (L j || decide (j = i)) = true := hl
  rcases Bool.or_eq_true_iff.1 hl' with g | g
  · rw [h j o' hj g e he hb, Bool.true_or]
  · obtain rfl : j = i := by simpa using g
    rw [ho] at hj
    cases hj
    rw [hd e he hb, Bool.true_or]
theorem wp_region_chain {P : Program} {ops : Array Oper} {Q : Exit → Act → World → Prop} {id : Nat} {a : Act} {w : World} (hm : P.follows .mixedOrders = true)
    (hne : ((List.range ops.size).all fun i => (List.range ops.size).all fun j => decide (i = j) || (slotOf ops i == none) || !(slotOf ops i == slotOf ops j)) = true)
    (hac : ((List.range ops.size).all fun i => (ops[i]?).all fun (o : Oper) => o.after.all fun (e : Edge) => !Region.binds .any e || decide (e.on < i)) = true)
    (E : List Nat) (fr : Bool) (hE : chainOk ops E fr = true) (St : Nat → (Nat → Value) → World → Prop) (R : World → Prop) (vals : Nat → Option Value)
    (hv : ((List.range ops.size).all fun j => E.contains j || (vals j).isSome) = true)
    (h0 : ∀ u, St 0 u w.drew) (hR : ∀ k u w1, (fr = false → k < E.length) → k ≤ E.length → St k u w1 → R w1)
    (val : ∀ (j : Nat) (o : Oper), ops[j]? = some o → E.contains j = false → ∀ (v : Nat → Value) (w1 : World) (K : Act → World → Prop), R w1 → (∀ e : Edge, e ∈ o.after → Region.binds .any e = true → ∀ x, vals e.on = some x → v e.on = x) →
      (∀ x, vals j = some x → ∀ a2, a2 = (fill ops a v ops.size).put o.dst x → K a2 w1) →
      if Region.wanted o (yielded ops (fill ops a v ops.size).tmps) = true then Oper.wp P o (fill ops a v ops.size) w1 K Q else K ((fill ops a v ops.size).put o.dst undef) w1)
    (eff : ∀ (i e : Nat) (o : Oper), E[i]? = some e → ops[e]? = some o → ∀ (v : Nat → Value) (w1 : World) (K : Act → World → Prop), St i (fun n => v (E.getD n bigC)) w1 → (∀ e' : Edge, e' ∈ o.after → Region.binds .any e' = true → ∀ x, vals e'.on = some x → v e'.on = x) →
      (∀ x w2, St (i + 1) (fun n => if n = i then x else v (E.getD n bigC)) w2 → (∀ y, vals e = some y → x = y) → ∀ a2, a2 = (fill ops a v ops.size).put o.dst x → K a2 w2) →
      if Region.wanted o (yielded ops (fill ops a v ops.size).tmps) = true then Oper.wp P o (fill ops a v ops.size) w1 K Q else K ((fill ops a v ops.size).put o.dst undef) w1)
    (last : ∀ (v : Nat → Value) (w1 : World), St E.length (fun n => v (E.getD n bigC)) w1 → (∀ j x, j < ops.size → vals j = some x → v j = x) → Q .normal (fill ops a v ops.size) w1) : (Code.region id ops true).wp P Q a w := by
  unfold chainOk at hE
  simp only [Bool.and_eq_true, Bool.or_eq_true, decide_eq_true_eq, List.all_eq_true, List.mem_range] at hE
  obtain ⟨⟨⟨⟨⟨hbig, hpos⟩, hlt⟩, hnd⟩, hch⟩, hla⟩ := hE
  have hgd : ∀ i, i < E.length → E[i]? = some (E.getD i bigC) := fun i hi => by
    rw [List.getElem?_eq_getElem hi, List.getD_eq_getElem?_getD, List.getElem?_eq_getElem hi]; rfl
  have hmem : ∀ i, i < E.length → E.getD i bigC ∈ E := fun i hi => List.mem_of_getElem? (hgd i hi)
  have hinj : ∀ i j, i < E.length → j < E.length → E.getD i bigC = E.getD j bigC → i = j := fun i j hi hj e => by
    have h1 := hgd i hi
    rw [e, ← hgd j hj] at h1
    exact (List.getElem?_inj hi hnd).1 h1
  have hbd : ∀ i, E.length ≤ i → E.getD i bigC = bigC := fun i hi => by rw [List.getD_eq_getElem?_getD, List.getElem?_eq_none hi]; rfl
  refine wp_region_inv hm hne hac (ChI ops E St vals) (fun v => ⟨(fun i o ho h => by cases h), ⟨0, Nat.zero_le _, (fun i hi => ⟨(fun h => by cases h), (fun h => by omega)⟩), h0 _⟩, (fun j x h => by cases h)⟩) ?_ ?_
  · intro j o ho L v w1 K hI hL hdep hK
    have hjs : j < ops.size := (Array.getElem?_eq_some_iff.1 ho).1
    obtain ⟨k, hk, hLk, hSt⟩ := hI.st
    have hcl := closed_add hI.cl ho hdep
    have hdv : ∀ e : Edge, e ∈ o.after → Region.binds .any e = true → ∀ x, vals e.on = some x → v e.on = x := fun e he hb x hx => hI.vs e.on x (hdep e he hb) hx
    cases hc : E.contains j with
    | false =>
      have hnE : ∀ i, i < E.length → E.getD i bigC ≠ j := fun i hi e => by
        have := hmem i hi
        rw [e] at this
        rw [List.contains_iff_mem.2 this] at hc
        cases hc
      have hkl : fr = false → k < E.length := by
        intro hfr
        rcases Nat.lt_or_ge k E.length with g | g
        · exact g
        · exfalso
          have h1 := (hLk (E.length - 1) (by omega)).2 (by omega)
          have h2 := (hla.resolve_left (by rw [hfr]; decide)) j hjs
          have h2' : needsB ops ops.size (E.getD (E.length - 1) bigC) j = true := h2.resolve_left (by rw [hc]; decide)
          have h3 := needs_up hI.cl _ _ _ h2' h1
          rw [hL] at h3
          cases h3
      have hsm := List.all_eq_true.1 hv j (List.mem_range.2 hjs)
      rw [hc, Bool.false_or] at hsm
      refine val j o ho hc v w1 K (hR k _ w1 hkl hk hSt) hdv (fun x hx a2 ha2 => hK x w1 ⟨hcl, ⟨k, hk, fun i hi => ?_, ?_⟩, fun i y hi hy => ?_⟩ a2 ha2)
      · show (L (E.getD i bigC) || decide (E.getD i bigC = j)) = true ↔ i < k
        rw [decide_eq_false (hnE i hi), Bool.or_false]
        exact hLk i hi
      · have : (fun n => upd v j x (E.getD n bigC)) = fun n => v (E.getD n bigC) := by
          funext n
          unfold upd
          rw [if_neg]
          rcases Nat.lt_or_ge n E.length with g | g
          · exact hnE n g
          · rw [hbd n g]; omega
        rw [this]
        exact hSt
      · unfold upd
        by_cases e : i = j
        · rw [if_pos e]
          rw [e, hx] at hy
          exact Option.some.inj hy
        · rw [if_neg e]
          have hi' : (L i || decide (i = j)) = true := hi
          rw [decide_eq_false e, Bool.or_false] at hi'
          exact hI.vs i y hi' hy
    | true =>
      obtain ⟨i, hi, hEi⟩ := List.getElem_of_mem (List.contains_iff_mem.1 hc)
      have hEi' : E.getD i bigC = j := by rw [List.getD_eq_getElem?_getD, List.getElem?_eq_getElem hi, hEi]; rfl
      have hki : k ≤ i := by
        rcases Nat.lt_or_ge i k with g | g
        · have := (hLk i hi).2 g
          rw [hEi', hL] at this
          cases this
        · exact g
      have hkE : k = i := by
        rcases Nat.eq_or_lt_of_le hki with g | g
        · exact g
        · exfalso
          have h2 := hch (i - 1) (by omega)
          rw [show i - 1 + 1 = i by omega, hEi'] at h2
          -- what j waits for has come up
          have h3 : L (E.getD (i - 1) bigC) = true := by
            have hcl2 := needs_up (L := fun y => L y || decide (y = j)) hcl _ _ _ h2 (by simp)
            have hne' : E.getD (i - 1) bigC ≠ j := fun e => by
              rw [← hEi'] at e
              have := hinj _ _ (by omega) hi e
              omega
            have : (L (E.getD (i - 1) bigC) || decide (E.getD (i - 1) bigC = j)) = true := hcl2
            rwa [decide_eq_false hne', Bool.or_false] at this
          have := (hLk (i - 1) (by omega)).1 h3
          omega
      subst hkE
      refine eff k j o (by rw [hgd k hi, hEi']) ho v w1 K hSt hdv (fun x w2 hs hy9 a2 ha2 => hK x w2 ⟨hcl, ⟨k + 1, by omega, fun n hn => ?_, ?_⟩, fun i y hi2 hy => ?_⟩ a2 ha2)
      · show (L (E.getD n bigC) || decide (E.getD n bigC = j)) = true ↔ n < k + 1
        by_cases e : n = k
        · subst e
          rw [hEi', decide_eq_true rfl, Bool.or_true]
          exact ⟨fun _ => by omega, fun _ => rfl⟩
        · rw [decide_eq_false (fun h => e (hinj _ _ hn hi (h.trans hEi'.symm))), Bool.or_false, hLk n hn]
          omega
      · have : (fun n => upd v j x (E.getD n bigC)) = fun n => if n = k then x else v (E.getD n bigC) := by
          funext n
          unfold upd
          by_cases e : n = k
          · rw [if_pos e, e, if_pos hEi']
          · rw [if_neg e, if_neg]
            rcases Nat.lt_or_ge n E.length with g | g
            · exact fun h => e (hinj _ _ g hi (h.trans hEi'.symm))
            · rw [hbd n g]; omega
        rw [this]
        exact hs
      · unfold upd
        by_cases e : i = j
        · rw [if_pos e]
          rw [e] at hy
          exact hy9 y hy
        · rw [if_neg e]
          have hi' : (L i || decide (i = j)) = true := hi2
          rw [decide_eq_false e, Bool.or_false] at hi'
          exact hI.vs i y hi' hy
  · intro L v w1 hI hall
    obtain ⟨k, hk, hLk, hSt⟩ := hI.st
    have hkE : k = E.length := by
      have h1 := (hLk (E.length - 1) (by omega)).1 (hall _ (hlt _ (hmem _ (by omega))))
      omega
    subst hkE
    exact last v w1 hSt (fun j x hj hx => hI.vs j x (hall j hj) hx)
end Go.Proofs.Ytodoklnohedolaa
end PkUD3_7
section PkUD3_8
/- The document's Do: create. Written by gensddo.py. -/
namespace Go.Proofs.Ytodoklnohedolaa
open Go.RowKit
set_option linter.unusedVariables false
set_option linter.unusedSimpArgs false

set_option maxRecDepth 100000 in
set_option maxHeartbeats 16000000 in
theorem ddo_7 {w : World} {S base : Nat} {σ : DSto} (h : DStAt w S base σ) {vr at_ nn id : Int} {ky : ByteArray} {a : Option Addr} {n c : Nat} (hbs : base ≤ w.heap.size) (hidb : 0 ≤ σ.id ∧ σ.id ≤ 1000000000) :
    Calls Try.prog 21 #[.pointer (some ⟨S, 0, none⟩), .agg #[.int .i64 7, .string ky, .slice a n c, .int .i64 vr, .int .i64 at_, .int .i64 nn, .int .i64 id]] w (Do7 w S base σ ky) := by
  have HE := Lib.hid (dent_mk h #[.int .i64 7, .string ky, .slice a n c, .int .i64 vr, .int .i64 at_, .int .i64 nn, .int .i64 id])
  have hSl : S < w.heap.size := (Array.getElem?_eq_some_iff.1 h.blk).1
  clear h
  go_enter Try.func21, Try.ntmps21
  go_upto_region 1 with fail
  obtain ⟨W0, hW0⟩ : ∃ W0, W0 = (w.alloc (.cells #[.int .i64 7, .string ky, .slice a n c, .int .i64 vr, .int .i64 at_, .int .i64 nn, .int .i64 id] 30)).alloc (.cells zrep 36) := ⟨_, rfl⟩
  rw [← hW0] at HE
  unfold zrep at hW0
  rw [← hW0]
  clear hW0
  obtain ⟨ai, hai⟩ : ∃ ai, ai = atK σ.objs ky := ⟨_, rfl⟩
  obtain ⟨oi, hoi⟩ : ∃ oi, oi = openK σ.ups id := ⟨_, rfl⟩
  have HAT := Lib.hid (fun k => dat_any (HE.out.st.drewN k) ky)
  have HOP := Lib.hid (fun k => dopen_any (HE.out.st.drewN k) id)
  rw [← hai] at HAT
  rw [← hoi] at HOP
  have k1 := cell_blkD HE.out.cb (i := 1) (u := .string ky) rfl
  have k6 := cell_blkD HE.out.cb (i := 6) (u := .int .i64 id) rfl
  go_quiet ((first | (go_at_call 17; exact Calls.quiet_of_same (HAT.out _)) | (go_at_call 40; exact Calls.quiet_of_same (HOP.out _))))
  rename Nat => nq
  clear k1 k6 HAT HOP
  have HE1 := Lib.hid (HE.out.drewN nq)
  obtain ⟨W1, hW1⟩ : ∃ W1, W1 = W0.drewN nq := ⟨_, rfl⟩
  rw [← hW1] at HE1
  rw [← hW1]
  clear HE hW1
  have HE := HE1
  clear HE1
  have hz0 := HE.out.sz
  have hk0 : w.heap.size < W1.heap.size := by omega
  have hr0 : w.heap.size + 1 < W1.heap.size := by omega
  have hS0 : S < W1.heap.size := by omega
  have HZ0 := Lib.hid hz0
  clear hz0
  have HR0 := Lib.hid (Below.refl W1.heap.size W1)
  have k0 := cell_blkD HE.out.cb (i := 0) (u := .int .i64 7) rfl
  have HAI := Lib.hid hai
  have HOI := Lib.hid hoi
  clear hai hoi
  by_cases hkey : isKeyB ky = false
  case pos =>
    have k1 := cell_blkD HE.out.cb (i := 1) (u := .string ky) rfl
    go_wp2_with fail
    refine (dkey_any ky W1).mono ?_
    rintro e wk ⟨rfl, rfl⟩
    rw [hkey]
    go_wp2_with fail
    refine (dbad_any 1 wk).mono ?_
    rintro e wE ⟨rfl, hbE⟩
    unfold repA
    have hbe := HR0.out.trans (hbE.mono HR0.out.size)
    have HRB := Lib.hid ((hbe.block (w.heap.size + 1) hr0).trans HE.out.rb)
    have HST := Lib.hid (HE.out.st.below hbe)
    have HFR := Lib.hid (show Frm (DF S σ) w wE from Frm.ofBelow (HE.out.bel.trans (hbe.mono HE.out.bel.size)))
    obtain ⟨⟨q0, q1, q2, q3, q4, q5, q6⟩, r0, r1, r2, r3, r4, r5, r6⟩ := rb_cells HRB.out
    clear hbE hbe
    go_wp2_with fail
    clear q0 q1 q2 q3 q4 q5 q6 r0 r1 r2 r3 r4 r5 r6
    obtain ⟨W5, hW5⟩ : ∃ W5, W5 = setR wE (w.heap.size + 1) (.int .i64 1) (.slice none 0 0) (.int .i64 0) (.int .i64 0) (.int .i64 0) (.slice none 0 0) (.bool false) := ⟨_, rfl⟩
    have hr5 := setR_at0 HRB.out (.int .i64 1) (.slice none 0 0) (.int .i64 0) (.int .i64 0) (.int .i64 0) (.slice none 0 0) (.bool false)
    have hF5 := (Frm.refl (fun b => b = w.heap.size + 1) wE).setR (R := w.heap.size + 1) (.inl rfl) (.int .i64 1) (.slice none 0 0) (.int .i64 0) (.int .i64 0) (.int .i64 0) (.slice none 0 0) (.bool false)
    rw [← hW5] at hr5 hF5
    unfold setR at hW5
    rw [← hW5]
    have hfin := put_done HST.out HRB.out (Nat.le_succ _) HFR.out hF5
    exact bodyPost_ret (ret_rep rfl _ _ (w.heap.size + 1) rfl hr5) rfl ⟨fun _ => ⟨rfl, hfin⟩, fun e0 => absurd hkey (by rw [e0]; decide), fun e0 => absurd hkey (by rw [e0]; decide)⟩
  have hkey' : isKeyB ky = true := by simpa using hkey
  have k1 := cell_blkD HE.out.cb (i := 1) (u := .string ky) rfl
  have c1 := cell_blkD HE.out.st.blk (i := 1) (u := .slice σ.ua σ.ups.length σ.uc) rfl
  have huf := HE.out.st.uf
  by_cases hful : 512 ≤ σ.ups.length
  case pos =>
    have hful' : (512 : Int) ≤ (σ.ups.length : Int) := by omega
    go_wp2_with fail
    refine (dkey_any ky W1).mono ?_
    rintro e wk ⟨rfl, rfl⟩
    rw [hkey']
    go_wp2_with fail
    refine (dbad_any 9 wk).mono ?_
    rintro e wE ⟨rfl, hbE⟩
    unfold repA
    have hbe := HR0.out.trans (hbE.mono HR0.out.size)
    have HRB := Lib.hid ((hbe.block (w.heap.size + 1) hr0).trans HE.out.rb)
    have HST := Lib.hid (HE.out.st.below hbe)
    have HFR := Lib.hid (show Frm (DF S σ) w wE from Frm.ofBelow (HE.out.bel.trans (hbe.mono HE.out.bel.size)))
    obtain ⟨⟨q0, q1, q2, q3, q4, q5, q6⟩, r0, r1, r2, r3, r4, r5, r6⟩ := rb_cells HRB.out
    clear hbE hbe
    go_wp2_with fail
    clear q0 q1 q2 q3 q4 q5 q6 r0 r1 r2 r3 r4 r5 r6
    obtain ⟨W5, hW5⟩ : ∃ W5, W5 = setR wE (w.heap.size + 1) (.int .i64 9) (.slice none 0 0) (.int .i64 0) (.int .i64 0) (.int .i64 0) (.slice none 0 0) (.bool false) := ⟨_, rfl⟩
    have hr5 := setR_at0 HRB.out (.int .i64 9) (.slice none 0 0) (.int .i64 0) (.int .i64 0) (.int .i64 0) (.slice none 0 0) (.bool false)
    have hF5 := (Frm.refl (fun b => b = w.heap.size + 1) wE).setR (R := w.heap.size + 1) (.inl rfl) (.int .i64 9) (.slice none 0 0) (.int .i64 0) (.int .i64 0) (.int .i64 0) (.slice none 0 0) (.bool false)
    rw [← hW5] at hr5 hF5
    unfold setR at hW5
    rw [← hW5]
    have hfin := put_done HST.out HRB.out (Nat.le_succ _) HFR.out hF5
    exact bodyPost_ret (ret_rep rfl _ _ (w.heap.size + 1) rfl hr5) rfl ⟨fun e0 => absurd e0 hkey, fun _ _ => ⟨rfl, hfin⟩, fun _ e0 => by omega⟩
  have hful' : ¬ (512 : Int) ≤ (σ.ups.length : Int) := by omega
  obtain ⟨i1, hi1⟩ : ∃ i1, i1 = σ.id + 1 := ⟨_, rfl⟩
  obtain ⟨now, hnow⟩ : ∃ now, now = σ.now := ⟨_, rfl⟩
  have c3 : W1.cell? ⟨S, 3, none⟩ = some (.int .i64 σ.id) := cell_blkD HE.out.st.blk (i := 3) rfl
  have f3 := frz_blkD HE.out.st.blk 3
  have wid : IntKind.i64.wrap (σ.id + 1) = i1 := by rw [hi1]; exact IntWalk.i64_in _ (by omega)
  obtain ⟨W2, hW2⟩ : ∃ W2, W2 = W1.setCell ⟨S, 3, none⟩ (.int .i64 i1) := ⟨_, rfl⟩
  have HS2 := Lib.hid (show DStAt W2 S base { σ with id := i1 } from by rw [hW2]; exact HE.out.st.idLaid i1)
  have HF2 := Lib.hid (show Frm (fun b => b = S) W1 W2 from by rw [hW2]; exact (Frm.refl (fun b => b = S) W1).set (.inl rfl) _ _)
  have HB2 := Lib.hid (HF2.out.at HE.out.cb (fun e => by have h1 := HE.out.cb; rw [e, HE.out.st.blk] at h1; simp at h1))
  have HR2 := Lib.hid (HF2.out.at HE.out.rb (fun e => by have h1 := HE.out.rb; rw [e, HE.out.st.blk] at h1; simp at h1))
  have HW2 := Lib.hid hW2
  have HII := Lib.hid (And.intro hi1 hnow)
  have hz2 : base ≤ W2.heap.size := Nat.le_trans hbs (Nat.le_trans HE.out.bel.size HF2.out.size)
  clear hW2 hi1
  go_wp2_with fail
  refine (dkey_any ky W1).mono ?_
  rintro e wk ⟨rfl, hwk⟩
  rw [hwk, hkey']
  clear hwk wk
  go_upto_region 49 with fail
  rw [← HW2.out]
  clear c1 c3 f3 k1 k0
  have hS2 : S < W2.heap.size := (Array.getElem?_eq_some_iff.1 HS2.out.blk).1
  have hB2 : w.heap.size < W2.heap.size := (Array.getElem?_eq_some_iff.1 HB2.out).1
  have HI0 := Lib.hid (Below.refl W2.heap.size W2).drew
  have HNOW := Lib.hid hnow
  have hnSB : blkOf σ.ua ≠ some S ∧ blkOf σ.ua ≠ some w.heap.size := ⟨fun e => by
    obtain ⟨cu, g2⟩ := own_blk_ty HS2.out.urow e
    rw [HS2.out.blk] at g2; simp at g2, fun e => by
    obtain ⟨cu, g2⟩ := own_blk_ty HS2.out.urow e
    rw [HB2.out] at g2; simp at g2⟩
  clear hnow
  refine wp_region_chain (by kernel_rfl) (by kernel_rfl) (by kernel_rfl) [16, 17, 20] false (by kernel_rfl) (fun k u y => match k with
      | 0 => Below W2.heap.size W2 y
      | 1 => Below W2.heap.size W2 y ∧ ∃ g, u 0 = .slice (some ⟨g, 0, none⟩) 1 1 ∧ VecAt DUplS y (some ⟨g, 0, none⟩) 1 1 [(⟨i1, now, ky, none, 0, 0, []⟩ : DUpl)]
      | 2 => ∃ WA, Below W2.heap.size W2 WA ∧ WA.grownBy y (blkOf σ.ua) ∧ ∃ aD cD, u 1 = .slice aD (σ.ups.length + 1) cD ∧ y.ownsRow base 85 4 (.slice aD (σ.ups.length + 1) cD) (σ.ups.length + 1) (DUplS.flat (σ.ups ++ [(⟨i1, now, ky, none, 0, 0, []⟩ : DUpl)]))
      | _ => (∃ a c, DStAt y S base { σ with id := i1, ua := a, uc := c, ups := σ.ups ++ [(⟨i1, now, ky, none, 0, 0, []⟩ : DUpl)] }) ∧ Frm (DF S σ) W1 y) (fun y => y.heap[S]? = W2.heap[S]? ∧ y.heap[w.heap.size]? = W2.heap[w.heap.size]?) (fun j_9 => match j_9 with | 0 => some ((.pointer (some ⟨S, 0, none⟩))) | 1 => some ((.pointer (some ⟨S, 0, none⟩))) | 2 => some ((.pointer (some ⟨S, 0, none⟩))) | 3 => some ((.pointer (some ⟨S, 1, none⟩))) | 4 => some (.slice σ.ua σ.ups.length σ.uc) | 5 => some ((.pointer (some ⟨S, 0, none⟩))) | 6 => some ((.pointer (some ⟨S, 0, none⟩))) | 7 => some ((.pointer (some ⟨S, 3, none⟩))) | 8 => some (.int .i64 i1) | 9 => some ((.pointer (some ⟨S, 0, none⟩))) | 10 => some ((.pointer (some ⟨S, 0, none⟩))) | 11 => some ((.pointer (some ⟨S, 4, none⟩))) | 12 => some (.int .i64 now) | 13 => some ((.pointer (some ⟨w.heap.size, 1, none⟩))) | 14 => some (.string ky) | 15 => some (.agg #[.int .i64 i1, .int .i64 now, .string ky, .slice none 0 0]) | 16 => none | 17 => none | 18 => some ((.pointer (some ⟨S, 0, none⟩))) | 19 => some ((.pointer (some ⟨S, 1, none⟩))) | 20 => none | _ => none) (by rfl) (fun u => HI0.out) (fun k u y hk9 _ hs => by
      have hk : k < 3 := hk9 rfl
      clear hk9
      match k, hk, hs with
      | 0, _, hs => exact ⟨hs.block S hS2, hs.block _ hB2⟩
      | 1, _, hs => exact ⟨hs.1.block S hS2, hs.1.block _ hB2⟩
      | 2, _, hs =>
        obtain ⟨WA, hbA, hgA, _⟩ := hs
        exact ⟨(hgA.block S (Nat.lt_of_lt_of_le hS2 hbA.size) (fun e => hnSB.1 e.symm)).trans (hbA.block S hS2), (hgA.block _ (Nat.lt_of_lt_of_le hB2 hbA.size) (fun e => hnSB.2 e.symm)).trans (hbA.block _ hB2)⟩) ?_ ?_ ?_
  · intro i9 o ho hc9 V w9 K hR9 hdep hK
    have HR9 := Lib.hid hR9
    simp only [fill, slotOf, List.size_toArray, List.length_cons, List.length_nil, Nat.reduceAdd, List.getElem?_toArray, List.getElem?_cons_zero, List.getElem?_cons_succ, Option.bind_some, Act.put, List.setIfInBounds_toArray, List.set_cons_zero, List.set_cons_succ] at hK ⊢
    have hin9 : i9 < 21 := (Array.getElem?_eq_some_iff.1 ho).1
    have hcs : i9 = 0 ∨ i9 = 1 ∨ i9 = 2 ∨ i9 = 3 ∨ i9 = 4 ∨ i9 = 5 ∨ i9 = 6 ∨ i9 = 7 ∨ i9 = 8 ∨ i9 = 9 ∨ i9 = 10 ∨ i9 = 11 ∨ i9 = 12 ∨ i9 = 13 ∨ i9 = 14 ∨ i9 = 15 ∨ i9 = 16 ∨ i9 = 17 ∨ i9 = 18 ∨ i9 = 19 ∨ i9 = 20 := by omega
    clear hin9
    rcases hcs with rfl | rfl | rfl | rfl | rfl | rfl | rfl | rfl | rfl | rfl | rfl | rfl | rfl | rfl | rfl | rfl | rfl | rfl | rfl | rfl | rfl
    · obtain rfl := Option.some.inj ho.symm
      clear hdep ho hR9 hc9
      try simp only [fill, slotOf, List.size_toArray, List.length_cons, List.length_nil, Nat.reduceAdd, List.getElem?_toArray, List.getElem?_cons_zero, List.getElem?_cons_succ, Option.bind_some, Act.put, List.setIfInBounds_toArray, List.set_cons_zero, List.set_cons_succ] at hK ⊢
      go_simp
      exact hK ((.pointer (some ⟨S, 0, none⟩))) rfl _ rfl
    · obtain rfl := Option.some.inj ho.symm
      clear hdep ho hR9 hc9
      try simp only [fill, slotOf, List.size_toArray, List.length_cons, List.length_nil, Nat.reduceAdd, List.getElem?_toArray, List.getElem?_cons_zero, List.getElem?_cons_succ, Option.bind_some, Act.put, List.setIfInBounds_toArray, List.set_cons_zero, List.set_cons_succ] at hK ⊢
      go_simp
      exact hK ((.pointer (some ⟨S, 0, none⟩))) rfl _ rfl
    · obtain rfl := Option.some.inj ho.symm
      have d1 : V 1 = (.pointer (some ⟨S, 0, none⟩)) := hdep ⟨1, .data⟩ (by simp) rfl _ rfl
      clear hdep ho hR9 hc9
      try simp only [fill, slotOf, List.size_toArray, List.length_cons, List.length_nil, Nat.reduceAdd, List.getElem?_toArray, List.getElem?_cons_zero, List.getElem?_cons_succ, Option.bind_some, Act.put, List.setIfInBounds_toArray, List.set_cons_zero, List.set_cons_succ] at hK ⊢
      rw [d1] at hK ⊢
      go_simp
      exact hK ((.pointer (some ⟨S, 0, none⟩))) rfl _ rfl
    · obtain rfl := Option.some.inj ho.symm
      have d2 : V 2 = (.pointer (some ⟨S, 0, none⟩)) := hdep ⟨2, .data⟩ (by simp) rfl _ rfl
      clear hdep ho hR9 hc9
      try simp only [fill, slotOf, List.size_toArray, List.length_cons, List.length_nil, Nat.reduceAdd, List.getElem?_toArray, List.getElem?_cons_zero, List.getElem?_cons_succ, Option.bind_some, Act.put, List.setIfInBounds_toArray, List.set_cons_zero, List.set_cons_succ] at hK ⊢
      rw [d2] at hK ⊢
      go_simp
      exact hK ((.pointer (some ⟨S, 1, none⟩))) rfl _ rfl
    · obtain rfl := Option.some.inj ho.symm
      have d3 : V 3 = (.pointer (some ⟨S, 1, none⟩)) := hdep ⟨3, .data⟩ (by simp) rfl _ rfl
      have u0 := cell_blkD (HR9.out.1.trans HS2.out.blk) (i := 1) (u := .slice σ.ua σ.ups.length σ.uc) rfl
      clear hdep ho hR9 hc9
      try simp only [fill, slotOf, List.size_toArray, List.length_cons, List.length_nil, Nat.reduceAdd, List.getElem?_toArray, List.getElem?_cons_zero, List.getElem?_cons_succ, Option.bind_some, Act.put, List.setIfInBounds_toArray, List.set_cons_zero, List.set_cons_succ] at hK ⊢
      rw [d3] at hK ⊢
      go_simp
      exact hK (.slice σ.ua σ.ups.length σ.uc) rfl _ rfl
    · obtain rfl := Option.some.inj ho.symm
      clear hdep ho hR9 hc9
      try simp only [fill, slotOf, List.size_toArray, List.length_cons, List.length_nil, Nat.reduceAdd, List.getElem?_toArray, List.getElem?_cons_zero, List.getElem?_cons_succ, Option.bind_some, Act.put, List.setIfInBounds_toArray, List.set_cons_zero, List.set_cons_succ] at hK ⊢
      go_simp
      exact hK ((.pointer (some ⟨S, 0, none⟩))) rfl _ rfl
    · obtain rfl := Option.some.inj ho.symm
      have d5 : V 5 = (.pointer (some ⟨S, 0, none⟩)) := hdep ⟨5, .data⟩ (by simp) rfl _ rfl
      clear hdep ho hR9 hc9
      try simp only [fill, slotOf, List.size_toArray, List.length_cons, List.length_nil, Nat.reduceAdd, List.getElem?_toArray, List.getElem?_cons_zero, List.getElem?_cons_succ, Option.bind_some, Act.put, List.setIfInBounds_toArray, List.set_cons_zero, List.set_cons_succ] at hK ⊢
      rw [d5] at hK ⊢
      go_simp
      exact hK ((.pointer (some ⟨S, 0, none⟩))) rfl _ rfl
    · obtain rfl := Option.some.inj ho.symm
      have d6 : V 6 = (.pointer (some ⟨S, 0, none⟩)) := hdep ⟨6, .data⟩ (by simp) rfl _ rfl
      clear hdep ho hR9 hc9
      try simp only [fill, slotOf, List.size_toArray, List.length_cons, List.length_nil, Nat.reduceAdd, List.getElem?_toArray, List.getElem?_cons_zero, List.getElem?_cons_succ, Option.bind_some, Act.put, List.setIfInBounds_toArray, List.set_cons_zero, List.set_cons_succ] at hK ⊢
      rw [d6] at hK ⊢
      go_simp
      exact hK ((.pointer (some ⟨S, 3, none⟩))) rfl _ rfl
    · obtain rfl := Option.some.inj ho.symm
      have d7 : V 7 = (.pointer (some ⟨S, 3, none⟩)) := hdep ⟨7, .data⟩ (by simp) rfl _ rfl
      have u0 := cell_blkD (HR9.out.1.trans HS2.out.blk) (i := 3) (u := .int .i64 i1) rfl
      clear hdep ho hR9 hc9
      try simp only [fill, slotOf, List.size_toArray, List.length_cons, List.length_nil, Nat.reduceAdd, List.getElem?_toArray, List.getElem?_cons_zero, List.getElem?_cons_succ, Option.bind_some, Act.put, List.setIfInBounds_toArray, List.set_cons_zero, List.set_cons_succ] at hK ⊢
      rw [d7] at hK ⊢
      go_simp
      exact hK (.int .i64 i1) rfl _ rfl
    · obtain rfl := Option.some.inj ho.symm
      clear hdep ho hR9 hc9
      try simp only [fill, slotOf, List.size_toArray, List.length_cons, List.length_nil, Nat.reduceAdd, List.getElem?_toArray, List.getElem?_cons_zero, List.getElem?_cons_succ, Option.bind_some, Act.put, List.setIfInBounds_toArray, List.set_cons_zero, List.set_cons_succ] at hK ⊢
      go_simp
      exact hK ((.pointer (some ⟨S, 0, none⟩))) rfl _ rfl
    · obtain rfl := Option.some.inj ho.symm
      have d9 : V 9 = (.pointer (some ⟨S, 0, none⟩)) := hdep ⟨9, .data⟩ (by simp) rfl _ rfl
      clear hdep ho hR9 hc9
      try simp only [fill, slotOf, List.size_toArray, List.length_cons, List.length_nil, Nat.reduceAdd, List.getElem?_toArray, List.getElem?_cons_zero, List.getElem?_cons_succ, Option.bind_some, Act.put, List.setIfInBounds_toArray, List.set_cons_zero, List.set_cons_succ] at hK ⊢
      rw [d9] at hK ⊢
      go_simp
      exact hK ((.pointer (some ⟨S, 0, none⟩))) rfl _ rfl
    · obtain rfl := Option.some.inj ho.symm
      have d10 : V 10 = (.pointer (some ⟨S, 0, none⟩)) := hdep ⟨10, .data⟩ (by simp) rfl _ rfl
      clear hdep ho hR9 hc9
      try simp only [fill, slotOf, List.size_toArray, List.length_cons, List.length_nil, Nat.reduceAdd, List.getElem?_toArray, List.getElem?_cons_zero, List.getElem?_cons_succ, Option.bind_some, Act.put, List.setIfInBounds_toArray, List.set_cons_zero, List.set_cons_succ] at hK ⊢
      rw [d10] at hK ⊢
      go_simp
      exact hK ((.pointer (some ⟨S, 4, none⟩))) rfl _ rfl
    · obtain rfl := Option.some.inj ho.symm
      have d11 : V 11 = (.pointer (some ⟨S, 4, none⟩)) := hdep ⟨11, .data⟩ (by simp) rfl _ rfl
      have u0 : w9.cell? ⟨S, 4, none⟩ = some (.int .i64 now) := by rw [HNOW.out]; exact cell_blkD (HR9.out.1.trans HS2.out.blk) (i := 4) rfl
      clear hdep ho hR9 hc9
      try simp only [fill, slotOf, List.size_toArray, List.length_cons, List.length_nil, Nat.reduceAdd, List.getElem?_toArray, List.getElem?_cons_zero, List.getElem?_cons_succ, Option.bind_some, Act.put, List.setIfInBounds_toArray, List.set_cons_zero, List.set_cons_succ] at hK ⊢
      rw [d11] at hK ⊢
      go_simp
      exact hK (.int .i64 now) rfl _ rfl
    · obtain rfl := Option.some.inj ho.symm
      clear hdep ho hR9 hc9
      try simp only [fill, slotOf, List.size_toArray, List.length_cons, List.length_nil, Nat.reduceAdd, List.getElem?_toArray, List.getElem?_cons_zero, List.getElem?_cons_succ, Option.bind_some, Act.put, List.setIfInBounds_toArray, List.set_cons_zero, List.set_cons_succ] at hK ⊢
      go_simp
      exact hK ((.pointer (some ⟨w.heap.size, 1, none⟩))) rfl _ rfl
    · obtain rfl := Option.some.inj ho.symm
      have d13 : V 13 = (.pointer (some ⟨w.heap.size, 1, none⟩)) := hdep ⟨13, .data⟩ (by simp) rfl _ rfl
      have u0 := cell_blkD (HR9.out.2.trans HB2.out) (i := 1) (u := .string ky) rfl
      clear hdep ho hR9 hc9
      try simp only [fill, slotOf, List.size_toArray, List.length_cons, List.length_nil, Nat.reduceAdd, List.getElem?_toArray, List.getElem?_cons_zero, List.getElem?_cons_succ, Option.bind_some, Act.put, List.setIfInBounds_toArray, List.set_cons_zero, List.set_cons_succ] at hK ⊢
      rw [d13] at hK ⊢
      go_simp
      exact hK (.string ky) rfl _ rfl
    · obtain rfl := Option.some.inj ho.symm
      have d8 : V 8 = .int .i64 i1 := hdep ⟨8, .data⟩ (by simp) rfl _ rfl
      have d12 : V 12 = .int .i64 now := hdep ⟨12, .data⟩ (by simp) rfl _ rfl
      have d14 : V 14 = .string ky := hdep ⟨14, .data⟩ (by simp) rfl _ rfl
      clear hdep ho hR9 hc9
      try simp only [fill, slotOf, List.size_toArray, List.length_cons, List.length_nil, Nat.reduceAdd, List.getElem?_toArray, List.getElem?_cons_zero, List.getElem?_cons_succ, Option.bind_some, Act.put, List.setIfInBounds_toArray, List.set_cons_zero, List.set_cons_succ] at hK ⊢
      rw [d8, d12, d14] at hK ⊢
      go_simp
      exact hK (.agg #[.int .i64 i1, .int .i64 now, .string ky, .slice none 0 0]) rfl _ rfl
    · cases hc9
    · cases hc9
    · obtain rfl := Option.some.inj ho.symm
      have d0 : V 0 = (.pointer (some ⟨S, 0, none⟩)) := hdep ⟨0, .data⟩ (by simp) rfl _ rfl
      clear hdep ho hR9 hc9
      try simp only [fill, slotOf, List.size_toArray, List.length_cons, List.length_nil, Nat.reduceAdd, List.getElem?_toArray, List.getElem?_cons_zero, List.getElem?_cons_succ, Option.bind_some, Act.put, List.setIfInBounds_toArray, List.set_cons_zero, List.set_cons_succ] at hK ⊢
      rw [d0] at hK ⊢
      go_simp
      exact hK ((.pointer (some ⟨S, 0, none⟩))) rfl _ rfl
    · obtain rfl := Option.some.inj ho.symm
      have d18 : V 18 = (.pointer (some ⟨S, 0, none⟩)) := hdep ⟨18, .data⟩ (by simp) rfl _ rfl
      clear hdep ho hR9 hc9
      try simp only [fill, slotOf, List.size_toArray, List.length_cons, List.length_nil, Nat.reduceAdd, List.getElem?_toArray, List.getElem?_cons_zero, List.getElem?_cons_succ, Option.bind_some, Act.put, List.setIfInBounds_toArray, List.set_cons_zero, List.set_cons_succ] at hK ⊢
      rw [d18] at hK ⊢
      go_simp
      exact hK ((.pointer (some ⟨S, 1, none⟩))) rfl _ rfl
    · cases hc9
  · intro i9 j9 o he9 ho V w9 K hS9 hdep hK
    simp only [fill, slotOf, List.size_toArray, List.length_cons, List.length_nil, Nat.reduceAdd, List.getElem?_toArray, List.getElem?_cons_zero, List.getElem?_cons_succ, Option.bind_some, Act.put, List.setIfInBounds_toArray, List.set_cons_zero, List.set_cons_succ] at hK ⊢
    have hin9 : i9 < 3 := (List.getElem?_eq_some_iff.1 he9).1
    have hcs : i9 = 0 ∨ i9 = 1 ∨ i9 = 2 := by omega
    clear hin9
    rcases hcs with rfl | rfl | rfl
    · obtain rfl := Option.some.inj he9.symm
      obtain rfl := Option.some.inj ho.symm
      have d15 : V 15 = .agg #[.int .i64 i1, .int .i64 now, .string ky, .slice none 0 0] := hdep ⟨15, .data⟩ (by simp) rfl _ rfl
      have hs : Below W2.heap.size W2 w9 := hS9
      have HVA := Lib.hid (vec_oneS DUplS w9 (⟨i1, now, ky, none, 0, 0, []⟩ : DUpl) (fun _ => trivial) 85 (cs := #[.int .i64 i1, .int .i64 now, .string ky, .slice none 0 0]) rfl)
      have HS9 := Lib.hid hs
      clear hdep ho he9 hS9 hs
      try simp only [fill, slotOf, List.size_toArray, List.length_cons, List.length_nil, Nat.reduceAdd, List.getElem?_toArray, List.getElem?_cons_zero, List.getElem?_cons_succ, Option.bind_some, Act.put, List.setIfInBounds_toArray, List.set_cons_zero, List.set_cons_succ] at hK ⊢
      rw [d15] at hK ⊢
      go_simp
      exact hK (.slice (some ⟨w9.heap.size, 0, none⟩) 1 1) _ ⟨HS9.out.alloc HS9.out.size _, _, rfl, HVA.out⟩ (fun y h => by cases h) _ rfl
    · obtain rfl := Option.some.inj he9.symm
      obtain rfl := Option.some.inj ho.symm
      have d4 : V 4 = .slice σ.ua σ.ups.length σ.uc := hdep ⟨4, .data⟩ (by simp) rfl _ rfl
      have hs : Below W2.heap.size W2 w9 ∧ ∃ g, V 16 = .slice (some ⟨g, 0, none⟩) 1 1 ∧ VecAt DUplS w9 (some ⟨g, 0, none⟩) 1 1 [(⟨i1, now, ky, none, 0, 0, []⟩ : DUpl)] := hS9
      obtain ⟨hb9, g9, e9, hv9⟩ := hs
      have hu9 := (HS2.out.below hb9).urow
      clear hdep ho he9 hS9
      try simp only [fill, slotOf, List.size_toArray, List.length_cons, List.length_nil, Nat.reduceAdd, List.getElem?_toArray, List.getElem?_cons_zero, List.getElem?_cons_succ, Option.bind_some, Act.put, List.setIfInBounds_toArray, List.set_cons_zero, List.set_cons_succ] at hK ⊢
      refine step_append_dup (by first | rfl | kernel_rfl) (.tmp 274) (.tmp 286) rfl base (.slice σ.ua σ.ups.length σ.uc) σ.ups.length σ.ups (by exact d4) hu9 (some ⟨g9, 0, none⟩) 1 1 [(⟨i1, now, ky, none, 0, 0, []⟩ : DUpl)] (by exact e9) hv9 (by omega) (Nat.le_trans hz2 hb9.size) (fun v' w' h1 h2 => ?_)
      obtain ⟨aD, cD, rfl⟩ := own_sliceD h1
      rw [ownBlk] at h2
      exact hK _ w' ⟨w9, hb9, h2, aD, cD, rfl, h1⟩ (fun y h => by cases h) _ rfl
    · obtain rfl := Option.some.inj he9.symm
      obtain rfl := Option.some.inj ho.symm
      have d19 : V 19 = (.pointer (some ⟨S, 1, none⟩)) := hdep ⟨19, .data⟩ (by simp) rfl _ rfl
      have HR9 := Lib.hid (show w9.heap[S]? = W2.heap[S]? from by
        obtain ⟨WA, hbA, hgA, _⟩ := (show ∃ WA, Below W2.heap.size W2 WA ∧ WA.grownBy w9 (blkOf σ.ua) ∧ ∃ aD cD, V 17 = .slice aD (σ.ups.length + 1) cD ∧ w9.ownsRow base 85 4 (.slice aD (σ.ups.length + 1) cD) (σ.ups.length + 1) (DUplS.flat (σ.ups ++ [(⟨i1, now, ky, none, 0, 0, []⟩ : DUpl)])) from hS9)
        exact (hgA.block S (Nat.lt_of_lt_of_le hS2 hbA.size) (fun e => hnSB.1 e.symm)).trans (hbA.block S hS2))
      have hs : ∃ WA, Below W2.heap.size W2 WA ∧ WA.grownBy w9 (blkOf σ.ua) ∧ ∃ aD cD, V 17 = .slice aD (σ.ups.length + 1) cD ∧ w9.ownsRow base 85 4 (.slice aD (σ.ups.length + 1) cD) (σ.ups.length + 1) (DUplS.flat (σ.ups ++ [(⟨i1, now, ky, none, 0, 0, []⟩ : DUpl)])) := hS9
      obtain ⟨WA, hbA, hgA, aD, cD, e17, hoD⟩ := hs
      have hsA := HS2.out.below hbA
      have hDN := hsA.upsNew (us := σ.ups ++ [(⟨i1, now, ky, none, 0, 0, []⟩ : DUpl)]) hgA hoD (by rw [List.length_append]; rfl) (fun u hu => (List.mem_append.1 hu).imp (fun g => g) (fun g => by rw [List.mem_singleton.1 g]; exact ⟨rfl, rfl, rfl, rfl⟩)) (by rw [List.length_append, List.length_singleton]; omega)
      have HDN := Lib.hid hDN
      have HFN := Lib.hid (show Frm (DF S σ) W1 (w9.setCell ⟨S, 1, none⟩ (.slice aD (σ.ups.length + 1) cD)) from Frm.set (p := S) (F := DF S σ) (((HF2.out.imp (fun b e => .inl e)).below hbA).trans (F' := fun b => blkOf σ.ua = some b) ⟨hgA.os, hgA.tape, hgA.output, hgA.size, fun b hb hf => hgA.block b hb (fun e => hf e.symm)⟩ (fun b hb => .inl (.inr (.inr (.inl hb))))) (.inl (.inl rfl)) _ _)
      have u1 := cell_blkD (HR9.out.trans HS2.out.blk) (i := 1) (u := .slice σ.ua σ.ups.length σ.uc) rfl
      have f1 := frz_blkD (HR9.out.trans HS2.out.blk) 1
      clear hdep ho he9 hS9 hDN hsA hbA hgA hoD
      try simp only [fill, slotOf, List.size_toArray, List.length_cons, List.length_nil, Nat.reduceAdd, List.getElem?_toArray, List.getElem?_cons_zero, List.getElem?_cons_succ, Option.bind_some, Act.put, List.setIfInBounds_toArray, List.set_cons_zero, List.set_cons_succ] at hK ⊢
      rw [e17, d19] at hK ⊢
      go_simp
      exact hK undef _ ⟨⟨_, _, HDN.out⟩, HFN.out⟩ (fun y h => by cases h) _ rfl
  · intro V WN hS9 hv9
    have HS9 := Lib.hid (show (∃ a c, DStAt WN S base { σ with id := i1, ua := a, uc := c, ups := σ.ups ++ [(⟨i1, now, ky, none, 0, 0, []⟩ : DUpl)] }) ∧ Frm (DF S σ) W1 WN from hS9)
    clear hS9 hv9
    simp only [fill, slotOf, List.size_toArray, List.length_cons, List.length_nil, Nat.reduceAdd, List.getElem?_toArray, List.getElem?_cons_zero, List.getElem?_cons_succ, Option.bind_some, Act.put, List.setIfInBounds_toArray, List.set_cons_zero, List.set_cons_succ]
    obtain ⟨ua', uc', hdst⟩ := HS9.out.1
    have HFN := Lib.hid HS9.out.2
    have HSTN := Lib.hid hdst
    clear hdst HS9
    go_upto_region 50 with fail
    have c3 := cell_blkD HSTN.out.blk (i := 3) (u := .int .i64 i1) rfl
    have c4 : WN.cell? ⟨S, 4, none⟩ = some (.int .i64 now) := by rw [HII.out.2]; exact cell_blkD HSTN.out.blk (i := 4) rfl
    have HRB := Lib.hid (rb_kept HE.out.st HE.out.rb HFN.out)
    obtain ⟨⟨q0, q1, q2, q3, q4, q5, q6⟩, r0, r1, r2, r3, r4, r5, r6⟩ := rb_cells HRB.out
    go_region
    clear c3 c4 q0 q1 q2 q3 q4 q5 q6 r0 r1 r2 r3 r4 r5 r6
    go_wp2_with fail
    obtain ⟨W5, hW5⟩ : ∃ W5, W5 = setR WN (w.heap.size + 1) (.int .i64 0) (.slice none 0 0) (.int .i64 0) (.int .i64 now) (.int .i64 i1) (.slice none 0 0) (.bool false) := ⟨_, rfl⟩
    have hr5 := setR_at0 HRB.out (.int .i64 0) (.slice none 0 0) (.int .i64 0) (.int .i64 now) (.int .i64 i1) (.slice none 0 0) (.bool false)
    have hF5 := (Frm.refl (fun b => b = w.heap.size + 1) WN).setR (R := w.heap.size + 1) (.inl rfl) (.int .i64 0) (.slice none 0 0) (.int .i64 0) (.int .i64 now) (.int .i64 i1) (.slice none 0 0) (.bool false)
    rw [← hW5] at hr5 hF5
    unfold setR at hW5
    rw [← hW5]
    have hfin := done9 HE.out.bel HE.out.st HE.out.rb (Nat.le_succ _) HFN.out HSTN.out hF5.drew
    obtain ⟨hi1, hnow⟩ := HII.out
    subst hi1 hnow
    exact bodyPost_ret (ret_rep rfl _ _ (w.heap.size + 1) rfl (show W5.drew.heap[w.heap.size + 1]? = _ from hr5)) rfl ⟨fun e0 => absurd e0 hkey, fun _ e0 => absurd e0 hful, fun _ _ => ⟨rfl, ⟨_, _, hfin.1⟩, hfin.2⟩⟩
end Go.Proofs.Ytodoklnohedolaa
end PkUD3_8
section PkUD3_9
/- The calls of an upload's run, done by the document's store. -/
namespace Go.Proofs.Ytodoklnohedolaa
open Go.RowKit
set_option linter.unusedVariables false

theorem DStAt.lo2 {W : World} {S base : Nat} {δ : DSto} (h : DStAt W S base δ) (hS : base ≤ S) {b : Nat} (hb : DF S δ b) : base ≤ b := by
  rcases hb with rfl | e | e | ⟨o, ho, e⟩ | ⟨u, hu, e | ⟨p, hp, e⟩⟩
  · exact hS
  · exact (own_blk_lt h.orow e).1
  · exact (own_blk_lt h.urow e).1
  · exact (own_blk_lt (h.obj o ho).row e).1
  · exact (own_blk_lt (h.upl u hu).row e).1
  · exact (own_blk_lt ((h.upl u hu).prt p hp).row e).1
theorem pigeon : ∀ (P : Nat) (l : List Int), l.Nodup → (∀ x ∈ l, 1 ≤ x ∧ x ≤ (P : Int)) → l.length ≤ P
  | 0, l, _, h => by
    cases l with
    | nil => exact Nat.le_refl _
    | cons a r => have := h a List.mem_cons_self; omega
  | P + 1, l, hn, h => by
    by_cases hm : ((P + 1 : Nat) : Int) ∈ l
    · have e := List.length_erase_of_mem hm
      have := pigeon P (l.erase ((P + 1 : Nat) : Int)) (hn.erase _) (fun x hx => by
        have h1 := (List.Nodup.mem_erase_iff hn).1 hx
        have h2 := h x h1.2
        have h3 := h1.1
        omega)
      omega
    · have := pigeon P l hn (fun x hx => by
        have h2 := h x hx
        have h3 : x ≠ ((P + 1 : Nat) : Int) := fun e => hm (e ▸ hx)
        omega)
      omega
/-- what a call of a run leaves -/
structure Did (w w' : World) (S base : Nat) (K : ByteArray) (D : List Nat) (s P c : Nat) (σ σ' : DSto) : Prop where
  st : DStAt w' S base σ'
  run : RunS K D s P (c + 1) σ'
  bel : Below base w w'
  now : σ'.now = σ.now
  frm : Frm (DF S σ) w w'
variable {w w' : World} {S base s P c : Nat} {K : ByteArray} {D : List Nat} {σ : DSto}
theorem RunS.up (h : RunS K D s P c σ) : RunS K D s P (c + 1) σ := by
  obtain ⟨a, b, o, ⟨v0, v1⟩, ⟨i0, i1⟩⟩ := h
  exact ⟨a, b, o, ⟨v0, by omega⟩, ⟨i0, by omega⟩⟩
theorem did_bel (h : DStAt w S base σ) (hS : base ≤ S) (hb : base ≤ w.heap.size) (hf : Frm (DF S σ) w w') : Below base w w' := hf.toBelow hb (fun i hi => h.lo2 hS hi)
theorem did_no (h : DStAt w S base σ) (hS : base ≤ S) (hb : base ≤ w.heap.size) (hr : RunS K D s P c σ) {x : Int} {e : Ending} (hn : NoD w S base σ x e w') : e = .returned (rep0 x) ∧ Did w w' S base K D s P c σ σ :=
  ⟨hn.1, hn.2.1, hr.up, did_bel h hS hb hn.2.2, rfl, hn.2.2⟩
theorem did_7 (h : DStAt w S base σ) (hS : base ≤ S) (hb : base ≤ w.heap.size) (hr : RunS K D s P c σ) (hc : c ≤ 100000) :
    Calls Try.prog 21 #[.pointer (some ⟨S, 0, none⟩), .agg #[.int .i64 7, .string K, .slice none 0 0, .int .i64 0, .int .i64 0, .int .i64 0, .int .i64 0]] w fun e w' => ∃ er io bo σ', e = .returned (rep er (.slice none 0 0) 0 bo io (.slice none 0 0) false) ∧ Did w w' S base K D s P c σ σ' ∧ (er = 0 → isKeyB K = true) := by
  obtain ⟨v0, v1⟩ := hr.ver
  obtain ⟨i0, i1⟩ := hr.ids
  refine (ddo_7 h hb ⟨i0, by omega⟩).mono fun e w' hd => ?_
  obtain ⟨d1, d2, d3⟩ := hd
  by_cases hk : isKeyB K = true
  · by_cases hf : σ.ups.length < 512
    · obtain ⟨e1, ⟨ua, uc, hst⟩, hfr⟩ := d3 hk hf
      refine ⟨0, _, _, _, e1, ⟨hst, ⟨hr.obj, fun u hu => ?_, hr.one, ⟨v0, by show σ.ver ≤ ((c + 1 : Nat) : Int); omega⟩, ?_⟩, did_bel h hS hb hfr, rfl, hfr⟩, fun _ => hk⟩
      · rcases List.mem_append.1 hu with g | g
        · exact hr.upl u g
        · rw [List.mem_singleton.1 g]
          exact ⟨rfl, (fun p hp => by cases hp), List.Pairwise.nil⟩
      · show 0 ≤ σ.id + 1 ∧ σ.id + 1 ≤ ((c + 1 : Nat) : Int); omega
    · obtain ⟨e1, hd⟩ := did_no h hS hb hr (d2 hk (by omega))
      exact ⟨9, 0, 0, σ, e1, hd, fun e => by cases e⟩
  · obtain ⟨e1, hd⟩ := did_no h hS hb hr (d1 (Bool.eq_false_iff.2 hk))
    exact ⟨1, 0, 0, σ, e1, hd, fun e => by cases e⟩
theorem did_10 (h : DStAt w S base σ) (hS : base ≤ S) (hb : base ≤ w.heap.size) (hr : RunS K D s P c σ) (id : Int) :
    Calls Try.prog 21 #[.pointer (some ⟨S, 0, none⟩), .agg #[.int .i64 10, .string ByteArray.empty, .slice none 0 0, .int .i64 0, .int .i64 0, .int .i64 0, .int .i64 id]] w fun e w' => ∃ er σ', e = .returned (rep0 er) ∧ Did w w' S base K D s P c σ σ' := by
  refine (ddo_10 h hb).mono fun e w' hd => ?_
  unfold Do10 at hd
  cases hf : σ.ups.findIdx? (fun u => decide (u.id = id)) with
  | none =>
    rw [hf] at hd
    obtain ⟨e1, hd⟩ := did_no h hS hb hr hd
    exact ⟨7, σ, e1, hd⟩
  | some j =>
    rw [hf] at hd
    obtain ⟨e1, ⟨ua, uc, hst⟩, hfr⟩ := hd
    have hu := hr.up
    exact ⟨0, _, e1, hst, ⟨hu.obj, fun u h1 => hu.upl u (outK_mem h1), hu.one, hu.ver, hu.ids⟩, did_bel h hS hb hfr, rfl, hfr⟩
theorem did_3 (h : DStAt w S base σ) (hS : base ≤ S) (hb : base ≤ w.heap.size) (hr : RunS K D s P c σ) :
    Calls Try.prog 21 #[.pointer (some ⟨S, 0, none⟩), .agg #[.int .i64 3, .string K, .slice none 0 0, .int .i64 0, .int .i64 0, .int .i64 0, .int .i64 0]] w fun e w' => Did w w' S base K D s P c σ σ ∧ (e = .returned (rep0 7) ∨ ∃ j o da n dc, σ.objs.findIdx? (fun o => decide (o.key = K)) = some j ∧ σ.objs[j]? = some o ∧ e = .returned (rep 0 (.slice da n dc) o.ver o.born 0 (.slice none 0 0) false) ∧ BytesAt w' da n dc D) := by
  refine (ddo_3 h).mono fun e w' hd => ?_
  unfold Do3 at hd
  cases hf : σ.objs.findIdx? (fun o => decide (o.key = K)) with
  | none =>
    rw [hf] at hd
    obtain ⟨e1, hd⟩ := did_no h hS hb hr hd
    exact ⟨hd, .inl e1⟩
  | some j =>
    rw [hf] at hd
    have hj := (List.findIdx?_eq_some_iff_getElem.1 hf).1
    obtain ⟨da, dc, e1, hby, hst, hfr⟩ := hd _ (List.getElem?_eq_getElem hj)
    rw [(hr.obj _ (List.getElem_mem hj)).2.1] at hby
    exact ⟨⟨hst, hr.up, did_bel h hS hb hfr, rfl, hfr⟩, .inr ⟨j, _, da, _, dc, rfl, List.getElem?_eq_getElem hj, e1, hby⟩⟩
end Go.Proofs.Ytodoklnohedolaa
end PkUD3_9
section PkUD3_10
/- The calls of an upload's run, done by the document's store: parts, completing. -/
namespace Go.Proofs.Ytodoklnohedolaa
open Go.RowKit
set_option linter.unusedVariables false

variable {w w' : World} {S base s P c : Nat} {K : ByteArray} {D : List Nat} {σ : DSto}
theorem prt_few {u : DUpl} (h : UplIn K D s P u) (hP : P ≤ 32) {nn : Int} (hn : 1 ≤ nn ∧ nn ≤ (P : Int)) : (prtF u.parts nn).length < 32 := by
  have hnd : (nn :: (prtF u.parts nn).map (·.n)).Nodup := by
    refine List.nodup_cons.2 ⟨fun hm => ?_, ?_⟩
    · obtain ⟨p, hp, e⟩ := List.mem_map.1 hm
      have h2 := (List.mem_filter.1 hp).2
      simp [e] at h2
    · exact List.pairwise_map.2 (h.dif.filter _)
  have hl := pigeon P _ hnd (fun x hx => by
    rcases List.mem_cons.1 hx with rfl | g
    · exact hn
    · obtain ⟨p, hp, rfl⟩ := List.mem_map.1 g
      exact (h.pcs p (List.mem_filter.1 hp).1).2)
  rw [List.length_cons, List.length_map] at hl
  omega
theorem prt_in {u : DUpl} (h : UplIn K D s P u) {nn : Int} (hn : 1 ≤ nn ∧ nn ≤ (P : Int)) {pa : Option Addr} {pn pc : Nat} {da : Option Addr} {n dc : Nat} : UplIn K D s P { u with pa := pa, pn := pn, pc := pc, parts := prtF u.parts nn ++ [⟨nn, da, n, dc, pieceD D s nn⟩] } := by
  refine ⟨h.key, fun p hp => ?_, ?_⟩
  · rcases List.mem_append.1 hp with g | g
    · exact h.pcs p (List.mem_filter.1 g).1
    · rw [List.mem_singleton.1 g]
      exact ⟨rfl, hn⟩
  · refine List.pairwise_append.2 ⟨h.dif.filter _, List.pairwise_singleton _ _, fun a ha b hb e => ?_⟩
    rw [List.mem_singleton.1 hb] at e
    have h2 := (List.mem_filter.1 ha).2
    simp [e] at h2
theorem did_8 (h : DStAt w S base σ) (hS : base ≤ S) (hb : base ≤ w.heap.size) (hr : RunS K D s P c σ) (hP : P ≤ 32) {nn id : Int} (hn : 1 ≤ nn ∧ nn ≤ (P : Int)) {a : Option Addr} {n cc : Nat} (hx : BytesAt w a n cc (pieceD D s nn)) :
    Calls Try.prog 21 #[.pointer (some ⟨S, 0, none⟩), .agg #[.int .i64 8, .string ByteArray.empty, .slice a n cc, .int .i64 0, .int .i64 0, .int .i64 nn, .int .i64 id]] w fun e w' => ∃ er σ', e = .returned (rep0 er) ∧ Did w w' S base K D s P c σ σ' := by
  refine (ddo_8 h hx hb (fun j u _ hj _ _ => prt_few (hr.upl u (List.mem_of_getElem? hj)) hP hn)).mono fun e w' hd => ?_
  unfold Do8 at hd
  cases hf : σ.ups.findIdx? (fun u => decide (u.id = id)) with
  | none =>
    rw [hf] at hd
    obtain ⟨e1, hd⟩ := did_no h hS hb hr hd
    exact ⟨7, σ, e1, hd⟩
  | some j =>
    rw [hf] at hd
    have hj := (List.findIdx?_eq_some_iff_getElem.1 hf).1
    obtain ⟨hfr, h1, h2⟩ := hd _ (List.getElem?_eq_getElem hj)
    by_cases hz : prtDE σ σ.ups[j] nn n = 0
    · obtain ⟨e1, ua, uc, pa, pn, pc, da, dc, hst, _⟩ := h2 hz
      have hu := hr.up
      refine ⟨0, _, e1, hst, ⟨hu.obj, fun u hm => ?_, hu.one, hu.ver, hu.ids⟩, did_bel h hS hb hfr, rfl, hfr⟩
      rcases List.mem_or_eq_of_mem_set hm with g | g
      · exact hr.upl u g
      · rw [g]
        exact prt_in (hr.upl _ (List.getElem_mem hj)) hn
    · obtain ⟨e1, hst⟩ := h1 hz
      exact ⟨_, σ, e1, hst, hr.up, did_bel h hS hb hfr, rfl, hfr⟩
theorem did_9 (h : DStAt w S base σ) (hS : base ≤ S) (hb : base ≤ w.heap.size) (hr : RunS K D s P c σ) (hc : c ≤ 100000) (hD : D.length ≤ P * s) {id : Int} :
    Calls Try.prog 21 #[.pointer (some ⟨S, 0, none⟩), .agg #[.int .i64 9, .string ByteArray.empty, .slice none 0 0, .int .i64 0, .int .i64 0, .int .i64 (P : Int), .int .i64 id]] w fun e w' => ∃ er v bo σ', e = .returned (rep er (.slice none 0 0) v bo 0 (.slice none 0 0) false) ∧ Did w w' S base K D s P c σ σ' ∧ (er = 0 → ∃ o, σ'.objs = [o] ∧ o.key = K ∧ o.data = D ∧ o.born = bo) := by
  obtain ⟨v0, v1⟩ := hr.ver
  refine (ddo_9 h hb ⟨v0, by omega⟩).mono fun e w' hd => ?_
  unfold Do9 at hd
  cases hf : σ.ups.findIdx? (fun u => decide (u.id = id)) with
  | none =>
    rw [hf] at hd
    obtain ⟨e1, hd⟩ := did_no h hS hb hr hd
    exact ⟨7, 0, 0, σ, e1, hd, fun e => by cases e⟩
  | some j =>
    rw [hf] at hd
    have hj := (List.findIdx?_eq_some_iff_getElem.1 hf).1
    obtain ⟨hfr, h1, h2⟩ := hd _ (List.getElem?_eq_getElem hj)
    by_cases hz : comDE σ σ.ups[j] (P : Int) = 0
    · obtain ⟨d, hcd, e1, ua, uc, oa, oc, da, dc, hst, _⟩ := h2 hz
      have hin := hr.upl _ (List.getElem_mem hj)
      rw [Int.toNat_natCast] at hcd
      obtain rfl := com_data hin hD hcd
      rw [hin.key] at hst
      have hp := putL_one (o := ⟨K, da, d.length, dc, d, σ.ver + 1, σ.now⟩) hr.one (fun x hx => (hr.obj x hx).1) rfl
      exact ⟨0, _, _, _, e1, ⟨hst, RunS.put hr (fun u hm => outK_mem hm), did_bel h hS hb hfr, rfl, hfr⟩, fun _ => ⟨_, hp, rfl, rfl, rfl⟩⟩
    · obtain ⟨e1, hst⟩ := h1 hz
      exact ⟨_, 0, 0, σ, e1, ⟨hst, hr.up, did_bel h hS hb hfr, rfl, hfr⟩, fun e => absurd e hz⟩
end Go.Proofs.Ytodoklnohedolaa
end PkUD3_10
section PkUD3_11
/- An upload's Next, walked in general. Written by genui.py. -/
namespace Go.Proofs.Ytodoklnohedolaa
open Go.RowKit
set_option linter.unusedVariables false

theorem Turns.setRow_newG {B : Nat} {a w : World} (h : Turns B a w) {g : Nat} (hg : a.heap.size ≤ g) (cs : Array Value) : Turns B a (w.setRow g cs) :=
  ⟨h.os, h.tape, h.output, by rw [setRow_size]; exact h.size, fun k hk hne => (setRow_other w g k cs (by omega)).trans (h.block k hk hne)⟩
def UG.callC (u : UG) : Array Value :=
  if u.st = 0 then #[.int .i64 7, .string u.key, .slice none 0 0, .int .i64 0, .int .i64 0, .int .i64 0, .int .i64 0]
  else if u.st = 2 then #[.int .i64 9, .string { data := #[] }, .slice none 0 0, .int .i64 0, .int .i64 0, .int .i64 u.pt, .int .i64 u.id]
  else if u.st = 3 then #[.int .i64 3, .string u.key, .slice none 0 0, .int .i64 0, .int .i64 0, .int .i64 0, .int .i64 0]
  else #[.int .i64 10, .string { data := #[] }, .slice none 0 0, .int .i64 0, .int .i64 0, .int .i64 0, .int .i64 u.id]
theorem Turns.setNew {B : Nat} {a w : World} (h : Turns B a w) {g : Nat} (hg : a.heap.size ≤ g) (i : Nat) (u : Value) : Turns B a (w.setCell ⟨g, i, none⟩ u) :=
  ⟨h.os, h.tape, h.output, by simpa [World.setCell] using h.size, fun k hk hne => (Below.heap_setCell _ _ _ _ (show k ≠ g from by omega)).trans (h.block k hk hne)⟩
theorem UAt.setNew {w : World} {B : Nat} {u : UG} (h : UAt w B u) {g : Nat} (hne : B ≠ g) (i : Nat) (v : Value) : UAt (w.setCell ⟨g, i, none⟩ v) B u := (Below.heap_setCell _ _ _ _ (show B ≠ g from hne)).trans h
def set7 (w : World) (R : Nat) (x0 x1 x2 x3 x4 x5 x6 : Value) : World :=
  (((((((w.setCell ⟨R, 0, none⟩ x0).setCell ⟨R, 1, none⟩ x1).setCell ⟨R, 2, none⟩ x2).setCell ⟨R, 3, none⟩ x3).setCell ⟨R, 4, none⟩ x4).setCell ⟨R, 5, none⟩ x5).setCell ⟨R, 6, none⟩ x6)
theorem set7_at {w : World} {R : Nat} {y0 y1 y2 y3 y4 y5 y6 : Value} {t : TypeId} (g : w.heap[R]? = some (.cells #[y0, y1, y2, y3, y4, y5, y6] t (0, 0))) (x0 x1 x2 x3 x4 x5 x6 : Value) :
    (set7 w R x0 x1 x2 x3 x4 x5 x6).heap[R]? = some (.cells #[x0, x1, x2, x3, x4, x5, x6] t (0, 0)) := by
  unfold set7
  rw [heap_set (heap_set (heap_set (heap_set (heap_set (heap_set (heap_set g 0 x0) 1 x1) 2 x2) 3 x3) 4 x4) 5 x5) 6 x6]
  rfl
theorem Turns.set7 {B : Nat} {a w : World} (h : Turns B a w) {R : Nat} (hg : a.heap.size ≤ R) (x0 x1 x2 x3 x4 x5 x6 : Value) : Turns B a (set7 w R x0 x1 x2 x3 x4 x5 x6) :=
  ((((((h.setNew hg 0 x0).setNew hg 1 x1).setNew hg 2 x2).setNew hg 3 x3).setNew hg 4 x4).setNew hg 5 x5).setNew hg 6 x6
theorem UAt.set7 {w : World} {B : Nat} {u : UG} (h : UAt w B u) {R : Nat} (hne : B ≠ R) (x0 x1 x2 x3 x4 x5 x6 : Value) : UAt (set7 w R x0 x1 x2 x3 x4 x5 x6) B u :=
  ((((((h.setNew hne 0 x0).setNew hne 1 x1).setNew hne 2 x2).setNew hne 3 x3).setNew hne 4 x4).setNew hne 5 x5).setNew hne 6 x6
theorem uAt_told {u : UG} (h : u.told = false) : u.A[9]? = some (.bool false) := by rw [← h]; rfl

set_option maxRecDepth 100000 in
set_option maxHeartbeats 1000000 in
theorem unext_no {w : World} {B : Nat} {u : UG} (g : UAt w B u) {now : Int} (htl : u.told = false) (h : u.st = 5 ∨ now < u.rd) :
    Calls Try.prog 22 #[.pointer (some ⟨B, 0, none⟩), .int .i64 now] w fun e w' => e = .returned (.tuple #[.agg #[.int .i64 0, .string { data := #[] }, .slice none 0 0, .int .i64 0, .int .i64 0, .int .i64 0, .int .i64 0], .bool false]) ∧ UAt w' B u ∧ Turns B w w' := by
  obtain ⟨w1, hw1⟩ : ∃ w1, w1 = w.alloc (.cells #[.int .i64 0, .string { data := #[] }, .slice none 0 0, .int .i64 0, .int .i64 0, .int .i64 0, .int .i64 0] 30) := ⟨_, rfl⟩
  have hb1 : Below w.heap.size w w1 := by rw [hw1]; exact (Below.refl _ _).alloc (Nat.le_refl _) _
  obtain ⟨R, hR⟩ : ∃ R, R = w.heap.size := ⟨_, rfl⟩
  have gr : w1.heap[R]? = some (.cells #[.int .i64 0, .string { data := #[] }, .slice none 0 0, .int .i64 0, .int .i64 0, .int .i64 0, .int .i64 0] 30 (0, 0)) := by rw [hw1, hR]; exact heap_alloc_newG w _
  have g1 := g.below hb1
  have hBR : B ≠ R := by have := g.lt; omega
  have HBR := Lib.hid hBR
  have hRw : w.heap.size ≤ R := by omega
  have HRW := Lib.hid hRw
  have HT := Lib.hid ((Turns.refl B w).below hb1)
  have HW1 := Lib.hid hw1
  have HRE := Lib.hid hR
  have hRl : R < w1.heap.size := (Array.getElem?_eq_some_iff.1 gr).1
  have c10 := cell_blk g1 (i := 10) (u := .int .i64 u.st) rfl
  by_cases h5 : u.st = 5
  · have z5 : (u.st == 5) = true := by simp [h5]
    have hg3 := g1
    clear g g1 hb1 hw1 hR hRl hBR h h5 hRw
    go_enter Try.func22, Try.ntmps22
    go_upto_region 1 with fail
    rw [← HW1.out, ← HRE.out]
    have HG2 := Lib.hid gr
    have HGB := Lib.hid (show UAt (w1.setRow R #[.int .i64 0, .string { data := #[] }, .slice none 0 0, .int .i64 0, .int .i64 0, .int .i64 0, .int .i64 0]) B u from (setRow_other w1 R B #[.int .i64 0, .string { data := #[] }, .slice none 0 0, .int .i64 0, .int .i64 0, .int .i64 0, .int .i64 0] HBR.out).trans hg3)
    have HTB := Lib.hid (HT.out.setRow_newG HRW.out #[.int .i64 0, .string { data := #[] }, .slice none 0 0, .int .i64 0, .int .i64 0, .int .i64 0, .int .i64 0])
    have e0 := fun j => cell_setRow_same w1 R j _ #[.int .i64 0, .string { data := #[] }, .slice none 0 0, .int .i64 0, .int .i64 0, .int .i64 0, .int .i64 0] _ _ gr
    have q0 := e0 0
    have q1 := e0 1
    have q2 := e0 2
    have q3 := e0 3
    have q4 := e0 4
    have q5 := e0 5
    have q6 := e0 6
    clear e0 hg3 gr
    go_wp2_with (refine wpList_store_row rfl 30 (.tmp 4) (.tmp 25) rfl R #[.int .i64 0, .string { data := #[] }, .slice none 0 0, .int .i64 0, .int .i64 0, .int .i64 0, .int .i64 0] rfl rfl 30 _ HG2.out (by kernel_rfl) (by rfl) (by simp [Value.oneCell']) ?_)
    exact bodyPost_ret (v := .tuple #[.agg #[.int .i64 0, .string { data := #[] }, .slice none 0 0, .int .i64 0, .int .i64 0, .int .i64 0, .int .i64 0], .bool false]) (by simp [results, Try.results22, go_sem, q0, q1, q2, q3, q4, q5, q6]) rfl ⟨rfl, HGB.out, HTB.out⟩
  · have z5 : (u.st == 5) = false := by simp [h5]
    have hlt : now < u.rd := by omega
    have HTL := Lib.hid (tell_no (o := 5) (now := now) g1 (uAt_told htl) rfl hlt)
    have hg3 := g1
    clear g g1 hb1 hw1 hR hRl hBR h h5 hlt hRw
    go_enter Try.func22, Try.ntmps22
    go_upto_region 1 with fail
    rw [← HW1.out, ← HRE.out]
    go_wp2_with fail
    refine HTL.out.mono ?_
    rintro e w2 ⟨rfl, hw2⟩
    subst hw2
    have HG2 := Lib.hid gr
    have HGB := Lib.hid (show UAt (w1.setRow R #[.int .i64 0, .string { data := #[] }, .slice none 0 0, .int .i64 0, .int .i64 0, .int .i64 0, .int .i64 0]) B u from (setRow_other w1 R B #[.int .i64 0, .string { data := #[] }, .slice none 0 0, .int .i64 0, .int .i64 0, .int .i64 0, .int .i64 0] HBR.out).trans hg3)
    have HTB := Lib.hid (HT.out.setRow_newG HRW.out #[.int .i64 0, .string { data := #[] }, .slice none 0 0, .int .i64 0, .int .i64 0, .int .i64 0, .int .i64 0])
    have e0 := fun j => cell_setRow_same w1 R j _ #[.int .i64 0, .string { data := #[] }, .slice none 0 0, .int .i64 0, .int .i64 0, .int .i64 0, .int .i64 0] _ _ gr
    have q0 := e0 0
    have q1 := e0 1
    have q2 := e0 2
    have q3 := e0 3
    have q4 := e0 4
    have q5 := e0 5
    have q6 := e0 6
    clear e0 hg3 gr
    go_wp2_with (refine wpList_store_row rfl 30 (.tmp 4) (.tmp 25) rfl R #[.int .i64 0, .string { data := #[] }, .slice none 0 0, .int .i64 0, .int .i64 0, .int .i64 0, .int .i64 0] rfl rfl 30 _ HG2.out (by kernel_rfl) (by rfl) (by simp [Value.oneCell']) ?_)
    exact bodyPost_ret (v := .tuple #[.agg #[.int .i64 0, .string { data := #[] }, .slice none 0 0, .int .i64 0, .int .i64 0, .int .i64 0, .int .i64 0], .bool false]) (by simp [results, Try.results22, go_sem, q0, q1, q2, q3, q4, q5, q6]) rfl ⟨rfl, HGB.out, HTB.out⟩

set_option maxRecDepth 100000 in
set_option maxHeartbeats 2000000 in
theorem unext_yes {w : World} {B : Nat} {u : UG} (g : UAt w B u) {now : Int} (htl : u.told = false) (h : u.rd ≤ now) (hs : u.st = 0 ∨ u.st = 2 ∨ u.st = 3 ∨ u.st = 4) :
    Calls Try.prog 22 #[.pointer (some ⟨B, 0, none⟩), .int .i64 now] w fun e w' => e = .returned (.tuple #[.agg u.callC, .bool true]) ∧ UAt w' B { u with told := true } ∧ Turns B w w' := by
  obtain ⟨w1, hw1⟩ : ∃ w1, w1 = w.alloc (.cells #[.int .i64 0, .string { data := #[] }, .slice none 0 0, .int .i64 0, .int .i64 0, .int .i64 0, .int .i64 0] 30) := ⟨_, rfl⟩
  have hb1 : Below w.heap.size w w1 := by rw [hw1]; exact (Below.refl _ _).alloc (Nat.le_refl _) _
  obtain ⟨R, hR⟩ : ∃ R, R = w.heap.size := ⟨_, rfl⟩
  have gr : w1.heap[R]? = some (.cells #[.int .i64 0, .string { data := #[] }, .slice none 0 0, .int .i64 0, .int .i64 0, .int .i64 0, .int .i64 0] 30 (0, 0)) := by rw [hw1, hR]; exact heap_alloc_newG w _
  have g1 := g.below hb1
  have hBR : B ≠ R := by have := g.lt; omega
  have HBR := Lib.hid hBR
  have hRw : w.heap.size ≤ R := by omega
  have HRW := Lib.hid hRw
  have HT := Lib.hid ((Turns.refl B w).below hb1)
  have HW1 := Lib.hid hw1
  have HRE := Lib.hid hR
  have hRl : R < w1.heap.size := (Array.getElem?_eq_some_iff.1 gr).1
  have c10 := cell_blk g1 (i := 10) (u := .int .i64 u.st) rfl
  have z5 : (u.st == 5) = false := by rw [beq_eq_false_iff_ne]; omega
  have HTL := Lib.hid (tell_yes (o := 5) (now := now) g1 (uAt_told htl) rfl h)
  have HRK := Lib.hid (show ∀ w2, Turns B w1 w2 → w2.heap[R]? = _ from fun w2 h => (h.block R hRl (Ne.symm hBR)).trans gr)
  clear g g1 hb1 hw1 hR hRl hBR h hRw gr
  go_enter Try.func22, Try.ntmps22
  go_upto_region 1 with fail
  rw [← HW1.out, ← HRE.out]
  go_wp2_with fail
  refine HTL.out.mono ?_
  rintro e w2 ⟨rfl, hg2, ht2⟩
  have hg3 : UAt w2 B { u with told := true } := hg2
  have gr := HRK.out w2 ht2
  have HT2 := Lib.hid (HT.out.trans ht2)
  have c10 := cell_blk hg3 (i := 10) (u := .int .i64 u.st) rfl
  clear hg2 ht2
  rcases hs with hst | hst | hst | hst
  · have z0 : (u.st == 0) = true := by simp [hst]
    have HC := Lib.hid (show u.callC = #[.int .i64 7, .string u.key, .slice none 0 0, .int .i64 0, .int .i64 0, .int .i64 0, .int .i64 0] from by unfold UG.callC; rw [if_pos hst])
    have z5 : (u.st == 5) = false := by simp [hst]
    have k0 := cell_blk hg3 (i := 0) (u := .string u.key) rfl
    have k3 := cell_blk hg3 (i := 3) (u := .int .i64 u.pt) rfl
    have k11 := cell_blk hg3 (i := 11) (u := .int .i64 u.id) rfl
    clear hst
    have HG2 := Lib.hid gr
    have HGB := Lib.hid (show UAt (w2.setRow R #[.int .i64 7, .string u.key, .slice none 0 0, .int .i64 0, .int .i64 0, .int .i64 0, .int .i64 0]) B { u with told := true } from (setRow_other w2 R B #[.int .i64 7, .string u.key, .slice none 0 0, .int .i64 0, .int .i64 0, .int .i64 0, .int .i64 0] HBR.out).trans hg3)
    have HTB := Lib.hid (HT2.out.setRow_newG HRW.out #[.int .i64 7, .string u.key, .slice none 0 0, .int .i64 0, .int .i64 0, .int .i64 0, .int .i64 0])
    have e0 := fun j => cell_setRow_same w2 R j _ #[.int .i64 7, .string u.key, .slice none 0 0, .int .i64 0, .int .i64 0, .int .i64 0, .int .i64 0] _ _ gr
    have q0 := e0 0
    have q1 := e0 1
    have q2 := e0 2
    have q3 := e0 3
    have q4 := e0 4
    have q5 := e0 5
    have q6 := e0 6
    clear e0 hg3 gr
    go_wp2_with (refine wpList_store_row rfl 30 (.tmp 4) (.tmp 36) rfl R #[.int .i64 7, .string u.key, .slice none 0 0, .int .i64 0, .int .i64 0, .int .i64 0, .int .i64 0] rfl rfl 30 _ HG2.out (by kernel_rfl) (by rfl) (by simp [Value.oneCell']) ?_)
    exact bodyPost_ret (v := .tuple #[.agg #[.int .i64 7, .string u.key, .slice none 0 0, .int .i64 0, .int .i64 0, .int .i64 0, .int .i64 0], .bool true]) (by simp [results, Try.results22, go_sem, q0, q1, q2, q3, q4, q5, q6]) rfl ⟨by rw [HC.out], HGB.out, HTB.out⟩
  · have z0 : (u.st == 0) = false := by simp [hst]
    have z1 : (u.st == 1) = false := by simp [hst]
    have z2 : (u.st == 2) = true := by simp [hst]
    have HC := Lib.hid (show u.callC = #[.int .i64 9, .string { data := #[] }, .slice none 0 0, .int .i64 0, .int .i64 0, .int .i64 u.pt, .int .i64 u.id] from by unfold UG.callC; rw [if_neg (by omega), if_pos hst])
    have z5 : (u.st == 5) = false := by simp [hst]
    have k0 := cell_blk hg3 (i := 0) (u := .string u.key) rfl
    have k3 := cell_blk hg3 (i := 3) (u := .int .i64 u.pt) rfl
    have k11 := cell_blk hg3 (i := 11) (u := .int .i64 u.id) rfl
    clear hst
    have HGR := Lib.hid gr
    have q0 := cell_blk gr (i := 0) (u := .int .i64 0) rfl
    have p0 := fro_blk gr 0
    have q1 := cell_blk gr (i := 1) (u := .string { data := #[] }) rfl
    have p1 := fro_blk gr 1
    have q2 := cell_blk gr (i := 2) (u := .slice none 0 0) rfl
    have p2 := fro_blk gr 2
    have q3 := cell_blk gr (i := 3) (u := .int .i64 0) rfl
    have p3 := fro_blk gr 3
    have q4 := cell_blk gr (i := 4) (u := .int .i64 0) rfl
    have p4 := fro_blk gr 4
    have q5 := cell_blk gr (i := 5) (u := .int .i64 0) rfl
    have p5 := fro_blk gr 5
    have q6 := cell_blk gr (i := 6) (u := .int .i64 0) rfl
    have p6 := fro_blk gr 6
    obtain ⟨W9, hW9⟩ : ∃ W9, W9 = set7 w2 R (.int .i64 9) (.string { data := #[] }) (.slice none 0 0) (.int .i64 0) (.int .i64 0) (.int .i64 u.pt) (.int .i64 u.id) := ⟨_, rfl⟩
    have g9 : W9.heap[R]? = some (.cells #[.int .i64 9, .string { data := #[] }, .slice none 0 0, .int .i64 0, .int .i64 0, .int .i64 u.pt, .int .i64 u.id] 30 (0, 0)) := by rw [hW9]; exact set7_at gr (.int .i64 9) (.string { data := #[] }) (.slice none 0 0) (.int .i64 0) (.int .i64 0) (.int .i64 u.pt) (.int .i64 u.id)
    have v0 := cell_blk g9 (i := 0) (u := .int .i64 9) rfl
    have v1 := cell_blk g9 (i := 1) (u := .string { data := #[] }) rfl
    have v2 := cell_blk g9 (i := 2) (u := .slice none 0 0) rfl
    have v3 := cell_blk g9 (i := 3) (u := .int .i64 0) rfl
    have v4 := cell_blk g9 (i := 4) (u := .int .i64 0) rfl
    have v5 := cell_blk g9 (i := 5) (u := .int .i64 u.pt) rfl
    have v6 := cell_blk g9 (i := 6) (u := .int .i64 u.id) rfl
    have HGB := Lib.hid (show UAt W9 B { u with told := true } from by rw [hW9]; exact hg3.set7 HBR.out (.int .i64 9) (.string { data := #[] }) (.slice none 0 0) (.int .i64 0) (.int .i64 0) (.int .i64 u.pt) (.int .i64 u.id))
    have HTB := Lib.hid (show Turns B w W9 from by rw [hW9]; exact HT2.out.set7 HRW.out (.int .i64 9) (.string { data := #[] }) (.slice none 0 0) (.int .i64 0) (.int .i64 0) (.int .i64 u.pt) (.int .i64 u.id))
    unfold set7 at hW9
    have HW9 := Lib.hid hW9
    clear hW9 g9 gr
    go_upto_region 11 with fail
    go_region
    rw [← HW9.out]
    clear q0 p0 q1 p1 q2 p2 q3 p3 q4 p4 q5 p5 q6 p6
    go_wp2_with fail
    exact bodyPost_ret (v := .tuple #[.agg #[.int .i64 9, .string { data := #[] }, .slice none 0 0, .int .i64 0, .int .i64 0, .int .i64 u.pt, .int .i64 u.id], .bool true]) (by simp [results, Try.results22, go_sem, v0, v1, v2, v3, v4, v5, v6]) rfl ⟨by rw [HC.out], HGB.out, HTB.out.drew⟩
  · have z0 : (u.st == 0) = false := by simp [hst]
    have z1 : (u.st == 1) = false := by simp [hst]
    have z2 : (u.st == 2) = false := by simp [hst]
    have z3 : (u.st == 3) = true := by simp [hst]
    have HC := Lib.hid (show u.callC = #[.int .i64 3, .string u.key, .slice none 0 0, .int .i64 0, .int .i64 0, .int .i64 0, .int .i64 0] from by unfold UG.callC; rw [if_neg (by omega), if_neg (by omega), if_pos hst])
    have z5 : (u.st == 5) = false := by simp [hst]
    have k0 := cell_blk hg3 (i := 0) (u := .string u.key) rfl
    have k3 := cell_blk hg3 (i := 3) (u := .int .i64 u.pt) rfl
    have k11 := cell_blk hg3 (i := 11) (u := .int .i64 u.id) rfl
    clear hst
    have HG2 := Lib.hid gr
    have HGB := Lib.hid (show UAt (w2.setRow R #[.int .i64 3, .string u.key, .slice none 0 0, .int .i64 0, .int .i64 0, .int .i64 0, .int .i64 0]) B { u with told := true } from (setRow_other w2 R B #[.int .i64 3, .string u.key, .slice none 0 0, .int .i64 0, .int .i64 0, .int .i64 0, .int .i64 0] HBR.out).trans hg3)
    have HTB := Lib.hid (HT2.out.setRow_newG HRW.out #[.int .i64 3, .string u.key, .slice none 0 0, .int .i64 0, .int .i64 0, .int .i64 0, .int .i64 0])
    have e0 := fun j => cell_setRow_same w2 R j _ #[.int .i64 3, .string u.key, .slice none 0 0, .int .i64 0, .int .i64 0, .int .i64 0, .int .i64 0] _ _ gr
    have q0 := e0 0
    have q1 := e0 1
    have q2 := e0 2
    have q3 := e0 3
    have q4 := e0 4
    have q5 := e0 5
    have q6 := e0 6
    clear e0 hg3 gr
    go_wp2_with (refine wpList_store_row rfl 30 (.tmp 4) (.tmp 94) rfl R #[.int .i64 3, .string u.key, .slice none 0 0, .int .i64 0, .int .i64 0, .int .i64 0, .int .i64 0] rfl rfl 30 _ HG2.out (by kernel_rfl) (by rfl) (by simp [Value.oneCell']) ?_)
    exact bodyPost_ret (v := .tuple #[.agg #[.int .i64 3, .string u.key, .slice none 0 0, .int .i64 0, .int .i64 0, .int .i64 0, .int .i64 0], .bool true]) (by simp [results, Try.results22, go_sem, q0, q1, q2, q3, q4, q5, q6]) rfl ⟨by rw [HC.out], HGB.out, HTB.out⟩
  · have z0 : (u.st == 0) = false := by simp [hst]
    have z1 : (u.st == 1) = false := by simp [hst]
    have z2 : (u.st == 2) = false := by simp [hst]
    have z3 : (u.st == 3) = false := by simp [hst]
    have z4 : (u.st == 4) = true := by simp [hst]
    have HC := Lib.hid (show u.callC = #[.int .i64 10, .string { data := #[] }, .slice none 0 0, .int .i64 0, .int .i64 0, .int .i64 0, .int .i64 u.id] from by unfold UG.callC; rw [if_neg (by omega), if_neg (by omega), if_neg (by omega)])
    have z5 : (u.st == 5) = false := by simp [hst]
    have k0 := cell_blk hg3 (i := 0) (u := .string u.key) rfl
    have k3 := cell_blk hg3 (i := 3) (u := .int .i64 u.pt) rfl
    have k11 := cell_blk hg3 (i := 11) (u := .int .i64 u.id) rfl
    clear hst
    have HG2 := Lib.hid gr
    have HGB := Lib.hid (show UAt (w2.setRow R #[.int .i64 10, .string { data := #[] }, .slice none 0 0, .int .i64 0, .int .i64 0, .int .i64 0, .int .i64 u.id]) B { u with told := true } from (setRow_other w2 R B #[.int .i64 10, .string { data := #[] }, .slice none 0 0, .int .i64 0, .int .i64 0, .int .i64 0, .int .i64 u.id] HBR.out).trans hg3)
    have HTB := Lib.hid (HT2.out.setRow_newG HRW.out #[.int .i64 10, .string { data := #[] }, .slice none 0 0, .int .i64 0, .int .i64 0, .int .i64 0, .int .i64 u.id])
    have e0 := fun j => cell_setRow_same w2 R j _ #[.int .i64 10, .string { data := #[] }, .slice none 0 0, .int .i64 0, .int .i64 0, .int .i64 0, .int .i64 u.id] _ _ gr
    have q0 := e0 0
    have q1 := e0 1
    have q2 := e0 2
    have q3 := e0 3
    have q4 := e0 4
    have q5 := e0 5
    have q6 := e0 6
    clear e0 hg3 gr
    go_wp2_with (refine wpList_store_row rfl 30 (.tmp 4) (.tmp 99) rfl R #[.int .i64 10, .string { data := #[] }, .slice none 0 0, .int .i64 0, .int .i64 0, .int .i64 0, .int .i64 u.id] rfl rfl 30 _ HG2.out (by kernel_rfl) (by rfl) (by simp [Value.oneCell']) ?_)
    exact bodyPost_ret (v := .tuple #[.agg #[.int .i64 10, .string { data := #[] }, .slice none 0 0, .int .i64 0, .int .i64 0, .int .i64 0, .int .i64 u.id], .bool true]) (by simp [results, Try.results22, go_sem, q0, q1, q2, q3, q4, q5, q6]) rfl ⟨by rw [HC.out], HGB.out, HTB.out⟩

end Go.Proofs.Ytodoklnohedolaa
end PkUD3_11
section PkUD3_12
/- An upload made: its fields, exactly. -/
namespace Go.Proofs.Ytodoklnohedolaa
open Go.RowKit
set_option linter.unusedVariables false

theorem divided2_any (n d : Nat) (hn : n ≤ 1000000) (hd : 1 ≤ d ∧ d ≤ 3000000) (w : World) :
    Calls Try.prog 36 #[.int .i64 (n : Int), .int .i64 (d : Int)] w fun e w' => e = .returned (.int .i64 (((n + d - 1) / d : Nat) : Int)) ∧ w = w' := by
  obtain ⟨hd0, hd1⟩ := hd
  have hz : ((d : Int) == 0) = false := by rw [beq_eq_false_iff_ne]; omega
  have hq : ((n : Int) + (d : Int) - 1).tdiv (d : Int) = (((n + d - 1) / d : Nat) : Int) := by
    rw [Int.tdiv_eq_ediv_of_nonneg (by omega)]
    have : (n : Int) + (d : Int) - 1 = ((n + d - 1 : Nat) : Int) := by omega
    rw [this]
    rfl
  have hb : (n + d - 1) / d ≤ n + d - 1 := Nat.div_le_self _ _
  have w1 : IntKind.i64.wrap ((n : Int) + (d : Int)) = (n : Int) + (d : Int) := IntWalk.i64_in _ (by omega)
  have w2 : IntKind.i64.wrap ((n : Int) + (d : Int) - 1) = (n : Int) + (d : Int) - 1 := IntWalk.i64_in _ (by omega)
  obtain ⟨q, hq9⟩ : ∃ q : Nat, q = (n + d - 1) / d := ⟨_, rfl⟩
  rw [← hq9] at hq hb ⊢
  have w3 : IntKind.i64.wrap (q : Int) = (q : Int) := IntWalk.i64_in _ (by omega)
  clear hq9 hb
  go_enter Try.func36, Try.ntmps36
  go_wp2_with fail
  go_ret
  exact ⟨rfl, rfl⟩
/-- a slice's block isn't this one -/
def blkN (a : Option Addr) (B : Nat) : Prop := ∀ b off s, a = some ⟨b, off, s⟩ → b ≠ B
/-- how long its parts are, how many there are -/
def upSz (pc dn : Nat) : Nat := max pc ((dn + 32 - 1) / 32)
def upPt (pc dn : Nat) : Nat := max 1 ((dn + upSz pc dn - 1) / upSz pc dn)
theorem upSz_le {pc dn : Nat} (h1 : 1 ≤ pc) (h2 : pc ≤ 262144) (hd : dn ≤ 3000) : 1 ≤ upSz pc dn ∧ upSz pc dn ≤ 262144 ∧ dn ≤ 32 * upSz pc dn := by
  unfold upSz; omega
theorem upPt_le {pc dn : Nat} (h1 : 1 ≤ pc) (h2 : pc ≤ 262144) (hd : dn ≤ 3000) : 1 ≤ upPt pc dn ∧ upPt pc dn ≤ 32 ∧ (upPt pc dn - 1) * upSz pc dn ≤ dn ∧ dn ≤ upPt pc dn * upSz pc dn := by
  obtain ⟨a, b, c⟩ := upSz_le h1 h2 hd
  unfold upPt
  obtain ⟨s, hs⟩ : ∃ s, s = upSz pc dn := ⟨_, rfl⟩
  rw [← hs] at a b c ⊢
  obtain ⟨q, hq⟩ : ∃ q, q = (dn + s - 1) / s := ⟨_, rfl⟩
  rw [← hq]
  have e := Nat.div_add_mod (dn + s - 1) s
  have e2 := Nat.mod_lt (dn + s - 1) (show 0 < s by omega)
  rw [← hq] at e
  have h3 : q ≤ 32 := by
    rw [hq]
    refine Nat.le_of_lt_succ ((Nat.div_lt_iff_lt_mul (by omega)).2 ?_)
    omega
  rcases Nat.eq_zero_or_pos q with h0 | hp
  · rw [h0] at e ⊢
    simp at e
    refine ⟨by omega, by omega, ?_, ?_⟩ <;> simp <;> omega
  · have hm : max 1 q = q := by omega
    rw [hm]
    refine ⟨hp, h3, ?_, ?_⟩
    · rw [Nat.sub_mul, Nat.one_mul, Nat.mul_comm q s]; omega
    · rw [Nat.mul_comm q s]; omega
set_option maxRecDepth 100000 in
set_option maxHeartbeats 2000000 in
theorem unew_any {w : World} {ky : ByteArray} {da : Option Addr} {dn dc : Nat} {xs : List Nat} {pc : Nat} {tr wt : Int} (hb : BytesAt w da dn dc xs) (hd : dn ≤ 3000) (h1 : 1 ≤ pc) (h2 : pc ≤ 262144) (hf : fitsB tr wt = true) :
    Calls Try.prog 15 #[.string ky, .slice da dn dc, .int .i64 (pc : Int), .int .i64 tr, .int .i64 wt] w fun e w' => ∃ (B : Nat) (da' : Option Addr) (dc' : Nat), e = .returned (.pointer (some ⟨B, 0, none⟩)) ∧ UAt w' B ⟨ky, da', dn, dc', (upSz pc dn : Nat), (upPt pc dn : Nat), 1, tr, wt, 0, 0, false, 0, 0, false, false, 0, 0⟩ ∧ w'.ownsRow w.heap.size 5 1 (.slice da' dn dc') dn (bv xs) ∧ BytesAt w' da' dn dc' xs ∧ w.heap.size ≤ B ∧ blkN da' B ∧ Below w.heap.size w w' := by
  have hdi : (dn : Int) ≤ 262144 := by omega
  have HF := Lib.hid (fun w => fits_any tr wt w)
  rw [hf] at HF
  have HBY := Lib.hid hb
  have hdn : (dn : Int) ≤ 3000 := by omega
  have hpc1 : (1 : Int) ≤ (pc : Int) := by omega
  have hpc2 : (pc : Int) ≤ 262144 := by omega
  have hpcA : ¬ (pc : Int) < 1 := by omega
  have hpcB : ¬ (262144 : Int) < (pc : Int) := by omega
  have HD1 := Lib.hid (fun w => divided2_any dn 32 (by omega) ⟨by omega, by omega⟩ w)
  obtain ⟨q1, hq1⟩ : ∃ q1, q1 = (dn + 32 - 1) / 32 := ⟨_, rfl⟩
  have hsz : upSz pc dn = max pc q1 := by rw [hq1]; rfl
  have hse := upSz_le h1 h2 hd
  have HD2 := Lib.hid (fun w => divided2_any dn (upSz pc dn) (by omega) ⟨by omega, by omega⟩ w)
  obtain ⟨q2, hq2⟩ : ∃ q2, q2 = (dn + upSz pc dn - 1) / upSz pc dn := ⟨_, rfl⟩
  have hpt : upPt pc dn = max 1 q2 := by rw [hq2]; rfl
  obtain ⟨s9, hs9⟩ : ∃ s9, s9 = upSz pc dn := ⟨_, rfl⟩
  obtain ⟨p9, hp9⟩ : ∃ p9, p9 = upPt pc dn := ⟨_, rfl⟩
  rw [← hq1] at HD1
  rw [← hq2, ← hs9] at HD2
  rw [← hs9] at hsz
  rw [← hp9] at hpt
  rw [← hs9, ← hp9]
  have hmx : max (pc : Int) (q1 : Int) = (s9 : Int) := by omega
  have hmx2 : max (1 : Int) (q2 : Int) = (p9 : Int) := by omega
  clear hb hf hq1 hq2 hs9 hp9 hse hsz hpt
  go_enter Try.func15, Try.ntmps15
  go_wp2_with fail
  refine (HF.out _).mono ?_
  rintro e w2 ⟨rfl, rfl⟩
  go_wp2_with fail
  refine (HD1.out _).mono ?_
  rintro e w2 ⟨rfl, rfl⟩
  go_wp2_with fail
  refine (clone_own HBY.out).mono ?_
  rintro e w3 ⟨v, rfl, hown, hb3⟩
  obtain ⟨a', c', rfl, hby, hnw⟩ := BytesAt.ofOwn hown HBY.out.byte HBY.out.reach
  have HB3 := Lib.hid hb3
  have HOW := Lib.hid hown
  have HNB := Lib.hid hby
  have HLT := Lib.hid (show ∀ b off s, a' = some ⟨b, off, s⟩ → b < w3.heap.size from fun b off s e => by
    rcases hown.2 with ⟨g, h0⟩ | ⟨g, cap, cur, g1, _, g3, _⟩
    · cases g; cases e
    · cases g1; cases e; exact (Array.getElem?_eq_some_iff.1 g3).1)
  clear hown hb3 hby hnw
  go_wp2_with fail
  refine (HD2.out _).mono ?_
  rintro e w4 ⟨rfl, rfl⟩
  go_wp2_with fail
  refine (pacenew_any tr wt _).mono ?_
  rintro e w5 ⟨rfl, hb5⟩
  have hb6 := HB3.out.trans (hb5.mono HB3.out.size)
  obtain ⟨w6, hw6⟩ : ∃ w6, w6 = w5.alloc (.cells (UG.A ⟨ky, a', dn, c', (s9 : Int), (p9 : Int), 1, tr, wt, 0, 0, false, 0, 0, false, false, 0, 0⟩) 75) := ⟨_, rfl⟩
  have hb56 : Below w5.heap.size w5 w6 := by rw [hw6]; exact (Below.refl _ _).alloc (Nat.le_refl _) _
  have HG := Lib.hid (show UAt w6 w5.heap.size ⟨ky, a', dn, c', (s9 : Int), (p9 : Int), 1, tr, wt, 0, 0, false, 0, 0, false, false, 0, 0⟩ from by rw [hw6]; exact heap_alloc_newG w5 _)
  have HB6 := Lib.hid (hb6.trans (hb56.mono hb6.size))
  have HS := Lib.hid hb6.size
  have hb36 := hb5.trans (hb56.mono hb5.size)
  have HO6 := Lib.hid (own_below HOW.out hb36)
  have HN6 := Lib.hid (HNB.out.kept hb36)
  have HBN := Lib.hid (show blkN a' w5.heap.size from fun b off s e => by have h1 := HLT.out b off s e; have h2 := hb5.size; omega)
  unfold UG.A at hw6
  have HW6 := Lib.hid hw6
  clear hb5 hb6 hw6 hb56 hb36
  go_wp2_with fail
  have hw6 := HW6.out
  subst hw6
  go_ret
  exact ⟨w5.heap.size, a', c', rfl, HG.out, HO6.out, HN6.out, HS.out, HBN.out, HB6.out⟩
end Go.Proofs.Ytodoklnohedolaa
end PkUD3_12
section PkUD3_13
/- A run of an upload: the store and the upload leave each other alone; what a get tells; uploads thrown away. -/
namespace Go.Proofs.Ytodoklnohedolaa
open Go.RowKit
set_option linter.unusedVariables false

variable {w w' : World} {S base B s P c : Nat} {K : ByteArray} {D : List Nat} {σ : DSto} {u : UG}
/-- a new store -/
def dstoN : DSto := ⟨none, 0, [], none, 0, [], 0, 0, 0⟩
theorem dstN_new (h : w.heap[S]? = some (.cells #[.slice none 0 0, .slice none 0 0, .int .i64 0, .int .i64 0, .int .i64 0] 50 (0, 0))) : DStAt w S base dstoN :=
  ⟨h, World.ownsRow_nil _ _ _ _, World.ownsRow_nil _ _ _ _, (fun o ho => by cases ho), (fun u hu => by cases hu), by decide, by decide⟩
/-- the uploads thrown away -/
theorem DStAt.noUps (h : DStAt w S base σ) : DStAt (w.setCell ⟨S, 1, none⟩ (.slice none 0 0)) S base { σ with ua := none, uc := 0, ups := [] } :=
  h.upsNew (World.grownBy.refl w _) (World.ownsRow_nil _ _ _ _) rfl (fun u hu => by cases hu) (by decide)
theorem RunS.noUps (h : RunS K D s P c σ) {ua : Option Addr} {uc : Nat} : RunS K D s P c { σ with ua := ua, uc := uc, ups := [] } :=
  ⟨h.obj, (fun u hu => by cases hu), h.one, h.ver, h.ids⟩
/-- the upload's turns leave the store alone -/
theorem DStAt.turns (h : DStAt w S base σ) (hS : base ≤ S) (hB : B < base) (ht : Turns B w w') : DStAt w' S base σ :=
  h.same fun b hb => ht.block b (h.lt hb) (by have := h.lo2 hS hb; omega)
/-- the store's calls leave the upload alone -/
theorem UAt.bel (h : UAt w B u) (hB : B < base) (hb : Below base w w') : UAt w' B u := (hb.block B hB).trans h
theorem bytes_bel {a : Option Addr} {n k : Nat} {xs : List Nat} (h : BytesAt w a n k xs) (ha : ∀ b off x, a = some ⟨b, off, x⟩ → b < base) (hb : Below base w w') : BytesAt w' a n k xs :=
  ⟨h.len, h.cap, h.byte, h.reach, h.capm, h.nl, fun hn => by
    obtain ⟨b, off, e, hlt, hc⟩ := h.cells hn
    have h1 := ha b off none e
    exact ⟨b, off, e, Nat.lt_of_lt_of_le hlt hb.size, fun i hi => (hb.cell (p := ⟨b, off + i, none⟩) h1).trans (hc i hi)⟩⟩
/-- what a get finds -/
theorem run_one (h : RunS K D s P c σ) {j : Nat} {o : DObj} (hj : σ.objs[j]? = some o) : σ.objs = [o] ∧ o.key = K ∧ o.data = D := by
  obtain ⟨hl, e⟩ := List.getElem?_eq_some_iff.1 hj
  have h1 := h.one
  have ho := h.obj o (List.mem_of_getElem? hj)
  refine ⟨?_, ho.1, ho.2.1⟩
  match hm : σ.objs, h1 with
  | [], _ => rw [hm] at hj; cases hj
  | [x], _ =>
    have j0 : j = 0 := by rw [hm] at hl; simpa using hl
    subst j0
    rw [hm] at hj
    cases hj
    rfl
/-- where the object of a run stands -/
theorem atK_one {o : DObj} (h : σ.objs = [o]) (hk : o.key = K) : atK σ.objs K = 0 := by
  unfold atK
  rw [h]
  simp [List.findIdx?_cons, hk]
/-- how long a run lasts -/
theorem run_calls {da : Option Addr} {dn dc T W n : Nat} {objs : List DObj} (h : RnU K da dn dc s P T W D n objs u) (hP : 1 ≤ P ∧ P ≤ 32) (hT : 1 ≤ T) : n ≤ 37 * T := by
  have h1 := h.calls
  have h2 := h.st
  have h3 := h.nx
  have h4 := h.ff
  unfold callsOk at h1
  obtain ⟨a0, a1, a2, a3, a4, a5⟩ := h1
  have hcs : u.st = 0 ∨ u.st = 1 ∨ u.st = 2 ∨ u.st = 3 ∨ u.st = 4 ∨ u.st = 5 := by omega
  rcases hcs with e | e | e | e | e | e
  · have := a0 e; omega
  · have := a1 e; have := h3.2.2 (by omega); omega
  · have := a2 e; omega
  · have := a3 e; omega
  · have := a4 e; omega
  · have := a5 e; omega
end Go.Proofs.Ytodoklnohedolaa
end PkUD3_13
section PkUD3_14
/- A part of a slice of bytes. -/
namespace Go.Proofs.Ytodoklnohedolaa
open Go.RowKit
set_option linter.unusedVariables false

theorem size_u8D2 (w : World) : (Go.sizeOf 5).run Try.prog w = .ok 1 w := by kernel_rfl
set_option maxRecDepth 100000 in
theorem slice_runD2 (a : Option Addr) (n c i m : Nat) (him : i + m ≤ c) (w : World) :
    (Instr.slice 28 (.slice a n c) (some (.int .i64 (i : Int))) (some (.int .i64 ((i : Int) + (m : Int)))) none).run Try.prog w = .ok (.slice (if c = i then a else a.map (·.add i)) m (c - i)) w := by
  have ht' : Try.prog.underlying 28 = some (.slice (Try.prog.elem 28)) := by simp [Program.elem, Try.underlying28]
  have he : Try.prog.elem 28 = 5 := by simp [Program.elem, Try.underlying28]
  rw [run_slice_lh w 28 _ _ _ ht' .i64 .i64 _ _ (by omega) (by omega) (by omega), he, size_u8D2]
  have e1 : ((i : Int) + (m : Int)).toNat = i + m := by omega
  simp only [Result.andThen, sliced, Int.toNat_natCast, e1, Nat.mul_one]
  congr 2
  omega
theorem BytesAt.subD2 {w : World} {b off n c : Nat} {xs : List Nat} (h : BytesAt w (some ⟨b, off, none⟩) n c xs) (i m : Nat) (him : i + m ≤ n) (hm : 0 < m) : BytesAt w (some ⟨b, off + i, none⟩) m (c - i) ((xs.drop i).take m) := by
  have hl := h.len
  have hc := h.cap
  have hr := h.reach
  have hcm := h.capm
  refine ⟨by simp; omega, by omega, fun x hx => h.byte x (List.mem_of_mem_drop (List.mem_of_mem_take hx)), by omega, by omega, (fun e => by cases e), fun _ => ?_⟩
  obtain ⟨b', off', ha, hlt, hcell⟩ := h.cells (by omega)
  cases ha
  refine ⟨b, off + i, rfl, hlt, fun k hk => ?_⟩
  rw [Nat.add_assoc, hcell (i + k) (by omega)]
  have e : ((xs.drop i).take m).getD k 0 = xs.getD (i + k) 0 := by
    simp [List.getD, hk]
  rw [e]
theorem BytesAt.subAnyD2 {w : World} {a : Option Addr} {n c : Nat} {xs : List Nat} (h : BytesAt w a n c xs) (i m : Nat) (him : i + m ≤ n) : BytesAt w (if c = i then a else a.map (·.add i)) m (c - i) ((xs.drop i).take m) := by
  have hc := h.cap
  have hcm := h.capm
  rcases Nat.eq_zero_or_pos m with h0 | hp
  · subst h0
    rw [List.take_zero]
    refine BytesAt.empty _ _ _ (by omega) (fun e => ?_)
    split at e
    · omega
    · have hn : a = none := by cases a with | none => rfl | some _ => simp at e
      have := h.nl hn
      omega
  · obtain ⟨b, off, rfl, _, _⟩ := h.cells (by omega)
    rw [if_neg (by omega)]
    have h4 : (⟨b, off, none⟩ : Addr).add i = ⟨b, off + i, none⟩ := by unfold Addr.add; split <;> simp_all
    simp only [Option.map_some, h4]
    exact h.subD2 i m him hp
end Go.Proofs.Ytodoklnohedolaa
end PkUD3_14
