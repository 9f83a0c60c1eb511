/- Texts put together by packtpl2.py: ColFl2, ColBackWalk. -/
import Derived.Test.YtpbijdoemdoijaaGreatDoorPkCa34
import Derived.Test.YtpbijdoemdoijaaGreatDoorPkCa36
import Derived.Test.YtpbijdoemdoijaaGreatDoorPkCa37
import Derived.Test.YtpbijdoemdoijaaGreatDoorPkCa42
import Derived.Test.YtpbijdoemdoijaaGreatDoorPkCa43
section PkCa44_0
/- Flags of any number read back. (Written by gencolfl2.py.) -/
namespace Go.Proofs.YtpbijdoemdoijaaGreatDoor
open Go.RowKit BitsPlain NumsPlain CrcPlain InfPlain
set_option linter.unusedVariables false

set_option maxRecDepth 100000 in
set_option maxHeartbeats 4000000 in
theorem contentFlags_cap {w : World} {a : Option Addr} {N c : Nat} {f : List Bool} (h : BytesAt w a N c (flC f)) (hn : f.length ≤ 2048) (h0 : (pu f.length).length < c) :
    Calls Tryz.prog 61 #[.slice a N c] w fun e w' => ∃ v, e = .returned v ∧ w'.ownsRow w.heap.size 4 1 v f.length (bl f) ∧ Below w.heap.size w w' := by
  obtain ⟨i0, hi, hz0, hz1, hz2⟩ := info_parts info_bool
  have HN := Lib.hid (new_any h)
  have hN := h.len
  have hcap := h.cap
  have hcm := h.capm
  obtain ⟨n, hnn⟩ : ∃ n, n = f.length := ⟨_, rfl⟩
  have hp1 := pu_pos n
  have hp10 := pu_ten (n := n) (by omega)
  obtain ⟨m, hm⟩ : ∃ m, m = (pu n).length := ⟨_, rfl⟩
  have hNm : N = (pack (fbits f)).length + m := by
    rw [← hN]; unfold flC; rw [List.length_append, ← hnn, ← hm]; omega
  obtain ⟨M2, hM2⟩ : ∃ M2, M2 = (pack (fbits f)).length := ⟨_, rfl⟩
  rw [← hM2] at hNm
  subst hNm
  obtain ⟨c2, rfl⟩ : ∃ c2, c = c2 + m := ⟨c - m, by omega⟩
  obtain ⟨g, off, rfl, hg, hcell⟩ := h.cells (by omega)
  have HREST := Lib.hid (show BytesAt w (some ⟨g, off + m, none⟩) M2 c2 (pack (fbits f)) from by
    have := h.behind m (by omega)
    rw [Nat.add_sub_cancel, Nat.add_sub_cancel] at this
    have e : (flC f).drop m = pack (fbits f) := by unfold flC; rw [← hnn, hm, List.drop_left]
    rw [e] at this
    exact this)
  have HCN := Lib.hid (show ccn (flC f) 0 0 2048 2 = (n, m, 0) from by
    unfold flC; rw [← hnn, hm]; exact cn_pu (by omega) (by omega))
  have hc0 : ¬ c2 = 0 := by rw [← hnn, ← hm] at h0; omega
  have hc1 : 0 < c2 := by omega
  have HNN := Lib.hid hnn
  rw [← hnn]
  rw [← hnn] at hn
  have HH := Lib.hid h
  have HMM := Lib.hid hm
  have HM2 := Lib.hid hM2
  clear h hnn hm hM2 hN hcell
  go_enter Tryz.func61, Tryz.ntmps61
  go_wp2_with fail
  refine HN.out.mono ?_
  rintro e w1 ⟨B, a', c', rfl, hcur, hb1, hB, _⟩
  have HB1 := Lib.hid hb1
  have HBB := Lib.hid hB
  have hnum := cnum_any hcur 2048 (by omega) (by omega)
  rw [HCN.out] at hnum
  have HNUM := Lib.hid hnum
  clear hcur hb1 hB hnum
  go_wp2_with fail
  refine HNUM.out.mono ?_
  rintro e w2 ⟨rfl, hcur, hg2⟩
  have HB2 := Lib.hid (HB1.out.grown hg2 HB1.out.size (fun k hk => by cases hk; exact HBB.out))
  have HAT := Lib.hid (at_any hcur)
  have HR2 := Lib.hid (HREST.out.keep HB2.out (Nat.le_refl _))
  clear hcur hg2
  go_wp2_with fail
  refine HAT.out.mono ?_
  rintro e w3 ⟨rfl, rfl⟩
  have HRN := Lib.hid (rnew_any HR2.out)
  go_wp2_with fail
  refine HRN.out.mono ?_
  rintro e w4 ⟨R, a4, c4, rfl, hrd, hb4, hR, hfr⟩
  have HB4 := Lib.hid (HB2.out.trans (hb4.mono HB2.out.size))
  have HRL : Hid (R < w4.heap.size) := Lib.hid hrd.lt
  have HAL : Hid (∀ b off s, 0 < M2 → a4 = some ⟨b, off, s⟩ → b < w4.heap.size) := Lib.hid (by
    intro b off s hp e
    obtain ⟨b2, off2, e2, hlt, _⟩ := hrd.src.cells hp
    rw [e] at e2
    cases e2
    exact hlt)
  have HRD := Lib.hid hrd
  have HRGE := Lib.hid (show w.heap.size ≤ R from Nat.le_trans HB2.out.size hR)
  clear hrd hb4 hR hfr
  go_wp2_with fail
  go_loopw [6, 7, 8, 19] (fun s6 _ _ s19 wr => ∃ k : Nat, k ≤ n ∧ s19 = .int .i64 (k : Int) ∧ Hid (wr.ownsRow w4.heap.size 4 1 s6 k (bl (f.take k))) ∧ Hid (RdAt wr R a4 M2 c4 (pack (fbits f)) k) ∧ Hid (Below w.heap.size w wr) ∧ Hid (w4.heap.size ≤ wr.heap.size)) (fun _ _ _ s19 _ => n - (intOf s19).toNat)
  case atStart => exact ⟨0, by omega, rfl, Lib.hid (by simpa [bl] using World.ownsRow_nil w4 w4.heap.size 4 1), HRD, HB4, Lib.hid (Nat.le_refl _)⟩
  case round =>
    obtain ⟨k, hk, rfl, HO, HX, HB, HSZ⟩ := hrel
    rename World => wr
    by_cases hkn : k < n
    · have hki : (k : Int) < (n : Int) := by omega
      have hbt := rbits_any HX.out 1
      rw [rb_one (by rw [← HNN.out]; exact hkn)] at hbt
      have hsn := bl_snoc (f := f) (k := k) (by rw [← HNN.out]; exact hkn)
      obtain ⟨x, hx⟩ : ∃ x, x = f.getD k false := ⟨_, rfl⟩
      rw [← hx] at hbt hsn
      have HSN := Lib.hid hsn
      have HBT := Lib.hid hbt
      clear hbt hsn hx
      have fin : ∀ (w5 : World), RdAt w5 R a4 M2 c4 (pack (fbits f)) (k + 1) → wr.grownBy w5 (some R) → w5.ownsRow w4.heap.size 4 1 u6 k (bl (f.take k)) ∧ Below w.heap.size w w5 ∧ w4.heap.size ≤ w5.heap.size := by
        intro w5 h1 h2
        refine ⟨HO.out.kept h2 ?_, HB.out.grown h2 HB.out.size (fun k hk => by cases hk; exact HRGE.out), Nat.le_trans HSZ.out h2.size⟩
        cases hv : u6.ownBlock with
        | none => exact .inl rfl
        | some q =>
          refine .inr fun e => ?_
          cases e
          have h3 := (HO.out.lt _ hv).1
          have h4 := HRL.out
          omega
      have FIN := Lib.hid fin
      clear fin
      cases x
      · go_wp2_with fail
        refine HBT.out.mono ?_
        rintro e w5 ⟨rfl, hx5, hg5⟩
        obtain ⟨o5, b5, s5⟩ := FIN.out w5 hx5 hg5
        have HX5 := Lib.hid hx5
        have HB5 := Lib.hid b5
        have HS5 := Lib.hid s5
        have hown := o5
        clear hx5 hg5 b5 s5 o5
        have hs5 := HS5.out
        unfold bit
        go_wp2_with (at_builtin; refine wpList_append_own _ rfl (.tmp 26) (.tmp 29) 24 rfl w4.heap.size 4 i0 (.bool false) 1 1 Tryz.underlying24 hi hz0 hz1 hz2 rfl (by decide) _ _ _ rfl (hown.alloc _) ⟨w5.heap.size, 0, none⟩ 1 1 [.bool false] rfl rfl (one_src _ _ _) (one_oneCell rfl) (by unfold maxLen; omega) (by omega) (by simp; omega) ?_)
        intro v6 w6 ho6 hg6 _
        have hal : Below w5.heap.size w5 (w5.alloc (.cells #[.bool false] 4)) := (Below.refl _ _).alloc (Nat.le_refl _) _
        have HO6 := Lib.hid (show w6.ownsRow w4.heap.size 4 1 v6 (k + 1) (bl (f.take (k + 1))) from by rw [← HSN.out]; exact ho6)
        have hbw : Below w4.heap.size w5 w6 := below_own (hal.mono hs5) (hown.alloc (.cells #[.bool false] 4)) hg6 (Nat.le_refl _) (Nat.le_trans hs5 hal.size)
        have HX6 := Lib.hid (HX5.out.low hbw HRL.out HAL.out)
        have HB6 := Lib.hid (HB5.out.trans (hbw.mono HB4.out.size))
        have HS6 := Lib.hid (Nat.le_trans hs5 hbw.size)
        clear ho6 hg6 hal hbw hown hs5
        go_wp2_with fail
        go_roundw
        case rel => exact ⟨k + 1, by omega, by go_num, HO6, HX6, HB6, HS6⟩
        case measure => simp [intOf]; omega
      · go_wp2_with fail
        refine HBT.out.mono ?_
        rintro e w5 ⟨rfl, hx5, hg5⟩
        obtain ⟨o5, b5, s5⟩ := FIN.out w5 hx5 hg5
        have HX5 := Lib.hid hx5
        have HB5 := Lib.hid b5
        have HS5 := Lib.hid s5
        have hown := o5
        clear hx5 hg5 b5 s5 o5
        have hs5 := HS5.out
        unfold bit
        go_wp2_with (at_builtin; refine wpList_append_own _ rfl (.tmp 26) (.tmp 29) 24 rfl w4.heap.size 4 i0 (.bool false) 1 1 Tryz.underlying24 hi hz0 hz1 hz2 rfl (by decide) _ _ _ rfl (hown.alloc _) ⟨w5.heap.size, 0, none⟩ 1 1 [.bool true] rfl rfl (one_src _ _ _) (one_oneCell rfl) (by unfold maxLen; omega) (by omega) (by simp; omega) ?_)
        intro v6 w6 ho6 hg6 _
        have hal : Below w5.heap.size w5 (w5.alloc (.cells #[.bool true] 4)) := (Below.refl _ _).alloc (Nat.le_refl _) _
        have HO6 := Lib.hid (show w6.ownsRow w4.heap.size 4 1 v6 (k + 1) (bl (f.take (k + 1))) from by rw [← HSN.out]; exact ho6)
        have hbw : Below w4.heap.size w5 w6 := below_own (hal.mono hs5) (hown.alloc (.cells #[.bool true] 4)) hg6 (Nat.le_refl _) (Nat.le_trans hs5 hal.size)
        have HX6 := Lib.hid (HX5.out.low hbw HRL.out HAL.out)
        have HB6 := Lib.hid (HB5.out.trans (hbw.mono HB4.out.size))
        have HS6 := Lib.hid (Nat.le_trans hs5 hbw.size)
        clear ho6 hg6 hal hbw hown hs5
        go_wp2_with fail
        go_roundw
        case rel => exact ⟨k + 1, by omega, by go_num, HO6, HX6, HB6, HS6⟩
        case measure => simp [intOf]; omega
    · have hkn2 : k = n := by omega
      have hnn : ¬ ((k : Int) < (n : Int)) := by omega
      have HOE := Lib.hid (show wr.ownsRow w.heap.size 4 1 u6 n (bl f) from by
        have o := own_lower HO.out HB4.out.size
        rw [hkn2, List.take_of_length_le (by rw [← HNN.out]; exact Nat.le_refl _)] at o
        exact o)
      clear hkn hkn2
      go_wp2_with fail
      go_ret
      exact ⟨_, rfl, HOE.out, HB.out⟩

set_option maxRecDepth 100000 in
set_option maxHeartbeats 4000000 in
theorem contentFlags_nil {w : World} {a : Option Addr} (h : BytesAt w a 1 1 (flC [])) :
    Calls Tryz.prog 61 #[.slice a 1 1] w fun e w' => ∃ v, e = .returned v ∧ w'.ownsRow w.heap.size 4 1 v 0 (bl []) ∧ Below w.heap.size w w' := by
  have HN := Lib.hid (new_any h)
  obtain ⟨g, off, rfl, hg, hcell⟩ := h.cells (by omega)
  have HCN := Lib.hid (show ccn (flC []) 0 0 2048 2 = (0, 1, 0) from by decide +kernel)
  have HH := Lib.hid h
  clear h hcell
  go_enter Tryz.func61, Tryz.ntmps61
  go_wp2_with fail
  refine HN.out.mono ?_
  rintro e w1 ⟨B, a', c', rfl, hcur, hb1, hB, _⟩
  have HB1 := Lib.hid hb1
  have HBB := Lib.hid hB
  have hnum := cnum_any hcur 2048 (by omega) (by omega)
  rw [HCN.out] at hnum
  have HNUM := Lib.hid hnum
  clear hcur hb1 hB hnum
  go_wp2_with fail
  refine HNUM.out.mono ?_
  rintro e w2 ⟨rfl, hcur, hg2⟩
  have HB2 := Lib.hid (HB1.out.grown hg2 HB1.out.size (fun k hk => by cases hk; exact HBB.out))
  have HAT := Lib.hid (at_any hcur)
  have HRN := Lib.hid (rnew_any (BytesAt.empty w2 (some ⟨g, off, none⟩) 0 (by omega) (fun e => by cases e)))
  clear hcur hg2
  go_wp2_with fail
  refine HAT.out.mono ?_
  rintro e w3 ⟨rfl, rfl⟩
  go_wp2_with fail
  refine HRN.out.mono ?_
  rintro e w4 ⟨R, a4, c4, rfl, hrd, hb4, hR, hfr⟩
  have HB4 := Lib.hid (HB2.out.trans (hb4.mono HB2.out.size))
  clear hrd hb4 hR hfr
  go_wp2_with fail
  go_loopw [6, 7, 8, 19] (fun s6 _ _ s19 wr => s6 = .slice none 0 0 ∧ s19 = .int .i64 0 ∧ Hid (Below w.heap.size w wr)) (fun _ _ _ _ _ => 0)
  case atStart => exact ⟨rfl, rfl, HB4⟩
  case round =>
    obtain ⟨rfl, rfl, HB⟩ := hrel
    rename World => wr
    go_wp2_with fail
    go_ret
    exact ⟨_, rfl, by simpa [bl] using World.ownsRow_nil wr w.heap.size 4 1, HB.out⟩
theorem contentFlags_all {w : World} {a : Option Addr} {N c : Nat} {f : List Bool} (h : BytesAt w a N c (flC f)) (hn : f.length ≤ 2048) :
    Calls Tryz.prog 61 #[.slice a N c] w fun e w' => ∃ v, e = .returned v ∧ w'.ownsRow w.heap.size 4 1 v f.length (bl f) ∧ Below w.heap.size w w' := by
  by_cases hc : (pu f.length).length < c
  · exact contentFlags_cap h hn hc
  · have h1 := h.len
    have h2 := h.cap
    have h3 : (flC f).length = (pu f.length).length + (f.length + 7) / 8 := by unfold flC; rw [List.length_append, pack_length, fbits_len]
    have h4 : f = [] := List.eq_nil_of_length_eq_zero (by omega)
    subst h4
    have h5 : (flC []).length = 1 := by decide +kernel
    have h6 : (pu ([] : List Bool).length).length = 1 := by decide +kernel
    obtain rfl : N = 1 := by omega
    obtain rfl : c = 1 := by omega
    exact contentFlags_nil h
set_option maxRecDepth 100000 in
set_option maxHeartbeats 4000000 in
theorem readF_any {w : World} (hT : Table w) (hO : Ordr w) {a : Option Addr} {n c : Nat} {f : List Bool} (h : BytesAt w a n c (chunk 4 (flC f))) (hn : n ≤ 100000) (hf : f.length ≤ 2048) :
    Calls Tryz.prog 60 #[.slice a n c, .func (.func 61) #[] #[], .func (.func 17) #[] #[]] w fun e w' => ∃ v, e = .returned (.tuple #[v, .int .i64 0]) ∧ w'.ownsRow w.heap.size 4 1 v f.length (bl f) ∧ Below w.heap.size w w' := by
  have hok := flC_ok hf
  have HT := Lib.hid (show ∀ w', Below w.heap.size w w' → Table w' from fun w' h => hT.below h)
  have HOP := open_any hT h hn
  rw [op_chunk] at HOP
  have HO := Lib.hid (show ∀ w', Below w.heap.size w w' → Ordr w' from fun w' h => hO.below h)
  have HLB := Lib.hid hok.1
  simp only at HOP
  have HOP := Lib.hid HOP
  have HX := Lib.hid h
  have HL2 := Lib.hid hok.2
  clear hT hO h hok
  go_enter Tryz.func60, Tryz.ntmps60
  go_wp2_with fail
  refine HOP.out.mono ?_
  rintro e w1 ⟨a1, m1, c1, rfl, h1, hb1, _⟩
  have HB1 := Lib.hid hb1
  have HCO := Lib.hid (content_any (HO.out w1 hb1) h1 (by omega) (by have := HL2.out; omega) HLB.out)
  clear h1 hb1
  go_wp2_with fail
  refine HCO.out.mono ?_
  rintro e w2 ⟨a2, c2, rfl, h2, hb2⟩
  have HB2 := Lib.hid (HB1.out.trans (hb2.mono HB1.out.size))
  have HCF := Lib.hid (contentFlags_all h2 hf)
  clear h2 hb2
  go_wp2_with fail
  refine HCF.out.mono ?_
  rintro e w3 ⟨v3, rfl, ho3, hb3⟩
  obtain ⟨a3, c3, rfl, hfl⟩ := FlAt.ofOwn ho3
  have HB3 := Lib.hid (HB2.out.trans (hb3.mono HB2.out.size))
  have HO3 := Lib.hid (own_lower ho3 HB2.out.size)
  have HPF := Lib.hid (putFlags_any (HT.out w3 HB3.out) hfl hf)
  clear ho3 hb3 hfl
  go_wp2_with fail
  refine HPF.out.mono ?_
  rintro e w4 ⟨a4, m4, c4, rfl, _, h4, hb4⟩
  have HB4 := Lib.hid (HB3.out.trans (hb4.mono HB3.out.size))
  have HO4 := Lib.hid (own_below HO3.out hb4)
  have heq := equal_any h4 (HX.out.kept HB4.out)
  rw [beq_self_eq_true] at heq
  have HEQ := Lib.hid heq
  clear h4 hb4 heq
  go_wp2_with fail
  refine HEQ.out.mono ?_
  rintro e w5 ⟨rfl, rfl⟩
  go_wp2_with fail
  first | go_ret2 | go_ret
  exact ⟨_, rfl, HO4.out, HB4.out⟩

set_option maxRecDepth 100000 in
set_option maxHeartbeats 2000000 in
theorem flags_all {w : World} (hT : Table w) (hO : Ordr w) {a : Option Addr} {n c : Nat} {f : List Bool} (h : BytesAt w a n c (chunk 4 (flC f))) (hn : n ≤ 100000) (hf : f.length ≤ 2048) :
    Calls Tryz.prog 30 #[.slice a n c] w fun e w' => ∃ v, e = .returned (.tuple #[v, .int .i64 0]) ∧ w'.ownsRow w.heap.size 4 1 v f.length (bl f) ∧ Below w.heap.size w w' := by
  have HR := Lib.hid (readF_any hT hO h hn hf)
  clear hT hO h
  go_enter Tryz.func30, Tryz.ntmps30
  go_wp2_with fail
  refine HR.out.mono ?_
  rintro e w1 ⟨v, rfl, ho, hbl⟩
  have HO := Lib.hid ho
  have HB := Lib.hid hbl
  clear ho hbl
  go_wp2_with fail
  first | go_ret2 | go_ret
  exact ⟨_, rfl, HO.out, HB.out⟩

end Go.Proofs.YtpbijdoemdoijaaGreatDoor
end PkCa44_0
section PkCa44_1
/- ColumnBack, walked. (Written by gencolback.py.) -/
namespace Go.Proofs.YtpbijdoemdoijaaGreatDoor
open Go.ChangeShapes Go.WideShapes Go.Deep Go.RowKit BitsPlain NumsPlain CrcPlain InfPlain
open DeltaPlain (chk)
set_option linter.unusedVariables false

theorem wd_chunk {k : Nat} {C : List Nat} {w : World} {a : Option Addr} {n c : Nat} (h : BytesAt w a n c (chunk k C)) (hC : C.length ≤ 65536) : n ≤ 100000 := by
  have h1 := h.len
  have h2 := chunk_len (k := k) hC
  omega

set_option maxRecDepth 100000 in
set_option maxHeartbeats 8000000 in
theorem columnBack_walk (a0 : Option Addr) (len0 cap0 : Nat) (z0 : List Int) (a1 : Option Addr) (len1 cap1 : Nat) (z1 : List ByteArray) (a2 : Option Addr) (len2 cap2 : Nat) (z2 : List Bool) (w : World) (hTO : Table w ∧ Ordr w) (w0 : IsRow .i64 8 w a0 len0 cap0 z0) (w1 : VecAt StrS w a1 len1 cap1 z1) (w2 : FlAt w a2 len2 cap2 z2) :
    Calls Tryz.prog 5 #[.slice a0 len0 cap0, .slice a1 len1 cap1, .slice a2 len2 cap2] w fun e w' => e = .returned (.bool true) ∧ Below w.heap.size w w' := by
  obtain ⟨hT, hO⟩ := hTO
  have hz := w0.ints
  obtain ⟨zs, hzs⟩ : ∃ zs, zs = z0.take len0 := ⟨_, rfl⟩
  rw [← hzs] at hz
  have HL := Lib.hid (lives10_any hT)
  have HT := Lib.hid (show ∀ w', Below w.heap.size w w' → Table w' from fun w' h => hT.below h)
  have HOO := Lib.hid (show ∀ w', Below w.heap.size w w' → Ordr w' from fun w' h => hO.below h)
  have HZ := Lib.hid hz
  have HV := Lib.hid w1
  have HF := Lib.hid w2
  have HZL := Lib.hid (show zs.length = len0 from hz.len)
  have HVL := Lib.hid (show z1.length = len1 from w1.len)
  have HFL := Lib.hid (show z2.length = len2 from w2.len)
  clear w0 w1 w2 hz hT hO hzs
  by_cases hq0 : (2048 : Int) < (len0 : Int)
  · go_enter Tryz.func5, Tryz.ntmps5
    go_wp2_with fail
    refine HL.out.mono ?_
    rintro e w1 ⟨rfl, hb1⟩
    have HB1 := Lib.hid hb1
    have HL1 := Lib.hid (lives10_any (HT.out w1 hb1))
    clear hb1
    go_wp2_with fail
    refine HL1.out.mono ?_
    rintro e w2 ⟨rfl, hb2⟩
    have HB2 := Lib.hid (HB1.out.trans (hb2.mono HB1.out.size))
    clear hb2
    go_wp2_with fail
    go_ret
    exact ⟨rfl, HB2.out⟩
  by_cases hq1 : (300 : Int) < (len1 : Int)
  · go_enter Tryz.func5, Tryz.ntmps5
    go_wp2_with fail
    refine HL.out.mono ?_
    rintro e w1 ⟨rfl, hb1⟩
    have HB1 := Lib.hid hb1
    have HL1 := Lib.hid (lives10_any (HT.out w1 hb1))
    clear hb1
    go_wp2_with fail
    refine HL1.out.mono ?_
    rintro e w2 ⟨rfl, hb2⟩
    have HB2 := Lib.hid (HB1.out.trans (hb2.mono HB1.out.size))
    clear hb2
    go_wp2_with fail
    go_ret
    exact ⟨rfl, HB2.out⟩
  by_cases hq2 : (2048 : Int) < (len2 : Int)
  · go_enter Tryz.func5, Tryz.ntmps5
    go_wp2_with fail
    refine HL.out.mono ?_
    rintro e w1 ⟨rfl, hb1⟩
    have HB1 := Lib.hid hb1
    have HL1 := Lib.hid (lives10_any (HT.out w1 hb1))
    clear hb1
    go_wp2_with fail
    refine HL1.out.mono ?_
    rintro e w2 ⟨rfl, hb2⟩
    have HB2 := Lib.hid (HB1.out.trans (hb2.mono HB1.out.size))
    clear hb2
    go_wp2_with fail
    go_ret
    exact ⟨rfl, HB2.out⟩
  have hl0 : len0 ≤ 2048 := by omega
  have hl1 : len1 ≤ 300 := by omega
  have hl2 : len2 ≤ 2048 := by omega
  go_enter Tryz.func5, Tryz.ntmps5
  go_wp2_with fail
  refine HL.out.mono ?_
  rintro e w1 ⟨rfl, hb1⟩
  have HB1 := Lib.hid hb1
  clear hb1
  by_cases hc : chk zs 0 = 0
  · have HC := Lib.hid hc
    have HP := Lib.hid (putInts_ok (HT.out w1 HB1.out) (HZ.out.kept HB1.out) hl0 hc (intC_byte hc))
    clear hc
    go_wp2_with fail
    refine HP.out.mono ?_
    rintro e w2 ⟨ia, im, ic, rfl, _, hi, hb⟩
    have HB2 := Lib.hid (HB1.out.trans (hb.mono HB1.out.size))
    have HI := Lib.hid (ints_any (HT.out w2 HB2.out) (HOO.out w2 HB2.out) hi (wd_chunk hi (by have := intC_len HC.out; omega)) (by rw [HZL.out]; exact hl0) HC.out)
    clear hb hi
    go_wp2_with fail
    refine HI.out.mono ?_
    rintro e w3 ⟨ja, jc, rfl, hj, hb⟩
    have HB3 := Lib.hid (HB2.out.trans (hb.mono HB2.out.size))
    have hsm := same64_any (HZ.out.kept HB3.out) hj
    rw [beq_self_eq_true] at hsm
    have HSM := Lib.hid hsm
    clear hb hj hsm
    go_wp2_with fail
    refine HSM.out.mono ?_
    rintro e w4 ⟨rfl, q, hq⟩
    have HB4 := Lib.hid (show Below w.heap.size w w4 from by rw [hq]; exact ct_drewN HB3.out HB3.out.size q)
    clear hq
    by_cases hew : wdErr z1 = true
    · have HP := Lib.hid (putwords_any (HT.out w4 HB4.out) (HV.out.kept HB4.out))
      have HE := Lib.hid hew
      clear hew
      go_wp2_with fail
      refine HP.out.mono ?_
      rintro e w5 ⟨he, hb⟩
      rw [if_pos HE.out] at he
      subst he
      have HB5 := Lib.hid (HB4.out.trans (hb.mono HB4.out.size))
      have HI := Lib.hid (words_err3 (HT.out w5 HB5.out) (BytesAt.empty w5 none 0 (by omega) (fun _ => rfl)) (by omega) op_nil)
      clear hb
      go_wp2_with fail
      refine HI.out.mono ?_
      rintro e w6 ⟨rfl, hb⟩
      have HB6 := Lib.hid (HB5.out.trans (hb.mono HB5.out.size))
      have HX := Lib.hid (texts_err3 (HT.out w6 HB6.out) (BytesAt.empty w6 none 0 (by omega) (fun _ => rfl)) (by omega) op_nil)
      clear hb
      go_wp2_with fail
      refine HX.out.mono ?_
      rintro e w7 ⟨rfl, hb⟩
      have HB7 := Lib.hid (HB6.out.trans (hb.mono HB6.out.size))
      clear hb
      by_cases het : txErr z1 = true
      · have HP := Lib.hid (puttexts_any (HT.out w7 HB7.out) (HV.out.kept HB7.out))
        have HE := Lib.hid het
        clear het
        go_wp2_with fail
        refine HP.out.mono ?_
        rintro e w9 ⟨he, hb⟩
        rw [if_pos HE.out] at he
        subst he
        have HB9 := Lib.hid (HB7.out.trans (hb.mono HB7.out.size))
        have HI := Lib.hid (texts_err3 (HT.out w9 HB9.out) (BytesAt.empty w9 none 0 (by omega) (fun _ => rfl)) (by omega) op_nil)
        clear hb
        go_wp2_with fail
        refine HI.out.mono ?_
        rintro e w10 ⟨rfl, hb⟩
        have HB10 := Lib.hid (HB9.out.trans (hb.mono HB9.out.size))
        have HX := Lib.hid (words_err3 (HT.out w10 HB10.out) (BytesAt.empty w10 none 0 (by omega) (fun _ => rfl)) (by omega) op_nil)
        clear hb
        go_wp2_with fail
        refine HX.out.mono ?_
        rintro e w11 ⟨rfl, hb⟩
        have HB11 := Lib.hid (HB10.out.trans (hb.mono HB10.out.size))
        clear hb
        have HP := Lib.hid (putFlags_any (HT.out w11 HB11.out) (HF.out.kept HB11.out) hl2)
        go_wp2_with fail
        refine HP.out.mono ?_
        rintro e w13 ⟨fa, fm, fc, rfl, _, hf, hb⟩
        have HB13 := Lib.hid (HB11.out.trans (hb.mono HB11.out.size))
        have HI := Lib.hid (flags_all (HT.out w13 HB13.out) (HOO.out w13 HB13.out) hf (wd_chunk hf (by have := (flC_ok (f := z2) (by rw [HFL.out]; exact hl2)).2; omega)) (by rw [HFL.out]; exact hl2))
        clear hb hf
        go_wp2_with fail
        refine HI.out.mono ?_
        rintro e w14 ⟨v, rfl, hv, hb⟩
        have HB14 := Lib.hid (HB13.out.trans (hb.mono HB13.out.size))
        rw [HFL.out] at hv
        obtain ⟨ga, gc, rfl, hg⟩ := FlAt.ofOwn hv
        have HS := Lib.hid (csameflags_any hg (HF.out.kept HB14.out))
        clear hb hv hg
        go_wp2_with fail
        refine HS.out.mono ?_
        rintro e w15 ⟨rfl, hb⟩
        have HB15 := Lib.hid (HB14.out.trans (hb.mono HB14.out.size))
        clear hb
        go_wp2_with fail
        go_ret
        exact ⟨rfl, HB15.out⟩
      · have HP := Lib.hid (puttexts_any (HT.out w7 HB7.out) (HV.out.kept HB7.out))
        have HE := Lib.hid (show txErr z1 = false from by simpa using het)
        clear het
        go_wp2_with fail
        refine HP.out.mono ?_
        rintro e w16 ⟨he, hb⟩
        rw [if_neg (by rw [HE.out]; simp)] at he
        obtain ⟨ta, tm, tc, rfl, _, ht⟩ := he
        have HB16 := Lib.hid (HB7.out.trans (hb.mono HB7.out.size))
        have HTC := Lib.hid ht
        have HTM := Lib.hid (wd_chunk ht (tx_ok HE.out).2.2.1)
        have HI := Lib.hid (texts_any (HT.out w16 HB16.out) (HOO.out w16 HB16.out) ht HTM.out HE.out)
        clear hb ht
        go_wp2_with fail
        refine HI.out.mono ?_
        rintro e w17 ⟨ua, un, uc, rfl, hu, hb⟩
        obtain rfl : len1 = un := by rw [← hu.len]; exact HVL.out.symm
        have HB17 := Lib.hid (HB16.out.trans (hb.mono HB16.out.size))
        have HU := Lib.hid hu
        have HX := Lib.hid (words_other (HT.out w17 HB17.out) (HOO.out w17 HB17.out) (HTC.out.kept hb) HTM.out (by omega) (by omega) (tx_ok HE.out).2.2.1 (tx_ok HE.out).2.2.2)
        clear hb hu
        go_wp2_with fail
        refine HX.out.mono ?_
        rintro e w18 ⟨rfl, hb⟩
        have HB18 := Lib.hid (HB17.out.trans (hb.mono HB17.out.size))
        have HS := Lib.hid (csametexts_any (HU.out.kept hb) (HV.out.kept HB18.out))
        clear hb
        go_wp2_with fail
        refine HS.out.mono ?_
        rintro e w19 ⟨rfl, hb⟩
        have HB19 := Lib.hid (HB18.out.trans (hb.mono HB18.out.size))
        clear hb
        have HP := Lib.hid (putFlags_any (HT.out w19 HB19.out) (HF.out.kept HB19.out) hl2)
        go_wp2_with fail
        refine HP.out.mono ?_
        rintro e w20 ⟨fa, fm, fc, rfl, _, hf, hb⟩
        have HB20 := Lib.hid (HB19.out.trans (hb.mono HB19.out.size))
        have HI := Lib.hid (flags_all (HT.out w20 HB20.out) (HOO.out w20 HB20.out) hf (wd_chunk hf (by have := (flC_ok (f := z2) (by rw [HFL.out]; exact hl2)).2; omega)) (by rw [HFL.out]; exact hl2))
        clear hb hf
        go_wp2_with fail
        refine HI.out.mono ?_
        rintro e w21 ⟨v, rfl, hv, hb⟩
        have HB21 := Lib.hid (HB20.out.trans (hb.mono HB20.out.size))
        rw [HFL.out] at hv
        obtain ⟨ga, gc, rfl, hg⟩ := FlAt.ofOwn hv
        have HS := Lib.hid (csameflags_any hg (HF.out.kept HB21.out))
        clear hb hv hg
        go_wp2_with fail
        refine HS.out.mono ?_
        rintro e w22 ⟨rfl, hb⟩
        have HB22 := Lib.hid (HB21.out.trans (hb.mono HB21.out.size))
        clear hb
        go_wp2_with fail
        go_ret
        exact ⟨rfl, HB22.out⟩
    · have HP := Lib.hid (putwords_any (HT.out w4 HB4.out) (HV.out.kept HB4.out))
      have HE := Lib.hid (show wdErr z1 = false from by simpa using hew)
      clear hew
      go_wp2_with fail
      refine HP.out.mono ?_
      rintro e w23 ⟨he, hb⟩
      rw [if_neg (by rw [HE.out]; simp)] at he
      obtain ⟨ta, tm, tc, rfl, _, ht⟩ := he
      have HB23 := Lib.hid (HB4.out.trans (hb.mono HB4.out.size))
      have HTC := Lib.hid ht
      have HTM := Lib.hid (wd_chunk ht (wd_ok HE.out).2.2.1)
      have HI := Lib.hid (colwords_any (HT.out w23 HB23.out) (HOO.out w23 HB23.out) ht HTM.out HE.out)
      clear hb ht
      go_wp2_with fail
      refine HI.out.mono ?_
      rintro e w24 ⟨ua, un, uc, rfl, hu, hb⟩
      obtain rfl : len1 = un := by rw [← hu.len]; exact HVL.out.symm
      have HB24 := Lib.hid (HB23.out.trans (hb.mono HB23.out.size))
      have HU := Lib.hid hu
      have HX := Lib.hid (texts_other (HT.out w24 HB24.out) (HOO.out w24 HB24.out) (HTC.out.kept hb) HTM.out (by omega) (by omega) (wd_ok HE.out).2.2.1 (wd_ok HE.out).2.2.2)
      clear hb hu
      go_wp2_with fail
      refine HX.out.mono ?_
      rintro e w25 ⟨rfl, hb⟩
      have HB25 := Lib.hid (HB24.out.trans (hb.mono HB24.out.size))
      have HS := Lib.hid (csametexts_any (HU.out.kept hb) (HV.out.kept HB25.out))
      clear hb
      go_wp2_with fail
      refine HS.out.mono ?_
      rintro e w26 ⟨rfl, hb⟩
      have HB26 := Lib.hid (HB25.out.trans (hb.mono HB25.out.size))
      clear hb
      by_cases het : txErr z1 = true
      · have HP := Lib.hid (puttexts_any (HT.out w26 HB26.out) (HV.out.kept HB26.out))
        have HE := Lib.hid het
        clear het
        go_wp2_with fail
        refine HP.out.mono ?_
        rintro e w27 ⟨he, hb⟩
        rw [if_pos HE.out] at he
        subst he
        have HB27 := Lib.hid (HB26.out.trans (hb.mono HB26.out.size))
        have HI := Lib.hid (texts_err3 (HT.out w27 HB27.out) (BytesAt.empty w27 none 0 (by omega) (fun _ => rfl)) (by omega) op_nil)
        clear hb
        go_wp2_with fail
        refine HI.out.mono ?_
        rintro e w28 ⟨rfl, hb⟩
        have HB28 := Lib.hid (HB27.out.trans (hb.mono HB27.out.size))
        have HX := Lib.hid (words_err3 (HT.out w28 HB28.out) (BytesAt.empty w28 none 0 (by omega) (fun _ => rfl)) (by omega) op_nil)
        clear hb
        go_wp2_with fail
        refine HX.out.mono ?_
        rintro e w29 ⟨rfl, hb⟩
        have HB29 := Lib.hid (HB28.out.trans (hb.mono HB28.out.size))
        clear hb
        have HP := Lib.hid (putFlags_any (HT.out w29 HB29.out) (HF.out.kept HB29.out) hl2)
        go_wp2_with fail
        refine HP.out.mono ?_
        rintro e w31 ⟨fa, fm, fc, rfl, _, hf, hb⟩
        have HB31 := Lib.hid (HB29.out.trans (hb.mono HB29.out.size))
        have HI := Lib.hid (flags_all (HT.out w31 HB31.out) (HOO.out w31 HB31.out) hf (wd_chunk hf (by have := (flC_ok (f := z2) (by rw [HFL.out]; exact hl2)).2; omega)) (by rw [HFL.out]; exact hl2))
        clear hb hf
        go_wp2_with fail
        refine HI.out.mono ?_
        rintro e w32 ⟨v, rfl, hv, hb⟩
        have HB32 := Lib.hid (HB31.out.trans (hb.mono HB31.out.size))
        rw [HFL.out] at hv
        obtain ⟨ga, gc, rfl, hg⟩ := FlAt.ofOwn hv
        have HS := Lib.hid (csameflags_any hg (HF.out.kept HB32.out))
        clear hb hv hg
        go_wp2_with fail
        refine HS.out.mono ?_
        rintro e w33 ⟨rfl, hb⟩
        have HB33 := Lib.hid (HB32.out.trans (hb.mono HB32.out.size))
        clear hb
        go_wp2_with fail
        go_ret
        exact ⟨rfl, HB33.out⟩
      · have HP := Lib.hid (puttexts_any (HT.out w26 HB26.out) (HV.out.kept HB26.out))
        have HE := Lib.hid (show txErr z1 = false from by simpa using het)
        clear het
        go_wp2_with fail
        refine HP.out.mono ?_
        rintro e w34 ⟨he, hb⟩
        rw [if_neg (by rw [HE.out]; simp)] at he
        obtain ⟨ta, tm, tc, rfl, _, ht⟩ := he
        have HB34 := Lib.hid (HB26.out.trans (hb.mono HB26.out.size))
        have HTC := Lib.hid ht
        have HTM := Lib.hid (wd_chunk ht (tx_ok HE.out).2.2.1)
        have HI := Lib.hid (texts_any (HT.out w34 HB34.out) (HOO.out w34 HB34.out) ht HTM.out HE.out)
        clear hb ht
        go_wp2_with fail
        refine HI.out.mono ?_
        rintro e w35 ⟨ua, un, uc, rfl, hu, hb⟩
        obtain rfl : len1 = un := by rw [← hu.len]; exact HVL.out.symm
        have HB35 := Lib.hid (HB34.out.trans (hb.mono HB34.out.size))
        have HU := Lib.hid hu
        have HX := Lib.hid (words_other (HT.out w35 HB35.out) (HOO.out w35 HB35.out) (HTC.out.kept hb) HTM.out (by omega) (by omega) (tx_ok HE.out).2.2.1 (tx_ok HE.out).2.2.2)
        clear hb hu
        go_wp2_with fail
        refine HX.out.mono ?_
        rintro e w36 ⟨rfl, hb⟩
        have HB36 := Lib.hid (HB35.out.trans (hb.mono HB35.out.size))
        have HS := Lib.hid (csametexts_any (HU.out.kept hb) (HV.out.kept HB36.out))
        clear hb
        go_wp2_with fail
        refine HS.out.mono ?_
        rintro e w37 ⟨rfl, hb⟩
        have HB37 := Lib.hid (HB36.out.trans (hb.mono HB36.out.size))
        clear hb
        have HP := Lib.hid (putFlags_any (HT.out w37 HB37.out) (HF.out.kept HB37.out) hl2)
        go_wp2_with fail
        refine HP.out.mono ?_
        rintro e w38 ⟨fa, fm, fc, rfl, _, hf, hb⟩
        have HB38 := Lib.hid (HB37.out.trans (hb.mono HB37.out.size))
        have HI := Lib.hid (flags_all (HT.out w38 HB38.out) (HOO.out w38 HB38.out) hf (wd_chunk hf (by have := (flC_ok (f := z2) (by rw [HFL.out]; exact hl2)).2; omega)) (by rw [HFL.out]; exact hl2))
        clear hb hf
        go_wp2_with fail
        refine HI.out.mono ?_
        rintro e w39 ⟨v, rfl, hv, hb⟩
        have HB39 := Lib.hid (HB38.out.trans (hb.mono HB38.out.size))
        rw [HFL.out] at hv
        obtain ⟨ga, gc, rfl, hg⟩ := FlAt.ofOwn hv
        have HS := Lib.hid (csameflags_any hg (HF.out.kept HB39.out))
        clear hb hv hg
        go_wp2_with fail
        refine HS.out.mono ?_
        rintro e w40 ⟨rfl, hb⟩
        have HB40 := Lib.hid (HB39.out.trans (hb.mono HB39.out.size))
        clear hb
        go_wp2_with fail
        go_ret
        exact ⟨rfl, HB40.out⟩
  · have HP := Lib.hid (putInts_no (HZ.out.kept HB1.out) hl0 hc)
    obtain ⟨qc, hqc⟩ : ∃ qc, qc = chk zs 0 := ⟨_, rfl⟩
    rw [← hqc] at HP hc
    have hqb : ((qc : Int) == 0) = false := by rw [beq_eq_false_iff_ne]; omega
    have hqi : ¬ ((qc : Int) = 0) := by omega
    clear hqc hc
    go_wp2_with fail
    refine HP.out.mono ?_
    rintro e w41 ⟨rfl, hb⟩
    have HB41 := Lib.hid (HB1.out.trans (hb.mono HB1.out.size))
    have HI := Lib.hid (ints_err3 (HT.out w41 HB41.out) (BytesAt.empty w41 none 0 (by omega) (fun _ => rfl)) (by omega) op_nil)
    clear hb
    go_wp2_with fail
    refine HI.out.mono ?_
    rintro e w42 ⟨rfl, hb⟩
    have HB42 := Lib.hid (HB41.out.trans (hb.mono HB41.out.size))
    clear hb
    by_cases hew : wdErr z1 = true
    · have HP := Lib.hid (putwords_any (HT.out w42 HB42.out) (HV.out.kept HB42.out))
      have HE := Lib.hid hew
      clear hew
      go_wp2_with fail
      refine HP.out.mono ?_
      rintro e w43 ⟨he, hb⟩
      rw [if_pos HE.out] at he
      subst he
      have HB43 := Lib.hid (HB42.out.trans (hb.mono HB42.out.size))
      have HI := Lib.hid (words_err3 (HT.out w43 HB43.out) (BytesAt.empty w43 none 0 (by omega) (fun _ => rfl)) (by omega) op_nil)
      clear hb
      go_wp2_with fail
      refine HI.out.mono ?_
      rintro e w44 ⟨rfl, hb⟩
      have HB44 := Lib.hid (HB43.out.trans (hb.mono HB43.out.size))
      have HX := Lib.hid (texts_err3 (HT.out w44 HB44.out) (BytesAt.empty w44 none 0 (by omega) (fun _ => rfl)) (by omega) op_nil)
      clear hb
      go_wp2_with fail
      refine HX.out.mono ?_
      rintro e w45 ⟨rfl, hb⟩
      have HB45 := Lib.hid (HB44.out.trans (hb.mono HB44.out.size))
      clear hb
      by_cases het : txErr z1 = true
      · have HP := Lib.hid (puttexts_any (HT.out w45 HB45.out) (HV.out.kept HB45.out))
        have HE := Lib.hid het
        clear het
        go_wp2_with fail
        refine HP.out.mono ?_
        rintro e w47 ⟨he, hb⟩
        rw [if_pos HE.out] at he
        subst he
        have HB47 := Lib.hid (HB45.out.trans (hb.mono HB45.out.size))
        have HI := Lib.hid (texts_err3 (HT.out w47 HB47.out) (BytesAt.empty w47 none 0 (by omega) (fun _ => rfl)) (by omega) op_nil)
        clear hb
        go_wp2_with fail
        refine HI.out.mono ?_
        rintro e w48 ⟨rfl, hb⟩
        have HB48 := Lib.hid (HB47.out.trans (hb.mono HB47.out.size))
        have HX := Lib.hid (words_err3 (HT.out w48 HB48.out) (BytesAt.empty w48 none 0 (by omega) (fun _ => rfl)) (by omega) op_nil)
        clear hb
        go_wp2_with fail
        refine HX.out.mono ?_
        rintro e w49 ⟨rfl, hb⟩
        have HB49 := Lib.hid (HB48.out.trans (hb.mono HB48.out.size))
        clear hb
        have HP := Lib.hid (putFlags_any (HT.out w49 HB49.out) (HF.out.kept HB49.out) hl2)
        go_wp2_with fail
        refine HP.out.mono ?_
        rintro e w51 ⟨fa, fm, fc, rfl, _, hf, hb⟩
        have HB51 := Lib.hid (HB49.out.trans (hb.mono HB49.out.size))
        have HI := Lib.hid (flags_all (HT.out w51 HB51.out) (HOO.out w51 HB51.out) hf (wd_chunk hf (by have := (flC_ok (f := z2) (by rw [HFL.out]; exact hl2)).2; omega)) (by rw [HFL.out]; exact hl2))
        clear hb hf
        go_wp2_with fail
        refine HI.out.mono ?_
        rintro e w52 ⟨v, rfl, hv, hb⟩
        have HB52 := Lib.hid (HB51.out.trans (hb.mono HB51.out.size))
        rw [HFL.out] at hv
        obtain ⟨ga, gc, rfl, hg⟩ := FlAt.ofOwn hv
        have HS := Lib.hid (csameflags_any hg (HF.out.kept HB52.out))
        clear hb hv hg
        go_wp2_with fail
        refine HS.out.mono ?_
        rintro e w53 ⟨rfl, hb⟩
        have HB53 := Lib.hid (HB52.out.trans (hb.mono HB52.out.size))
        clear hb
        go_wp2_with fail
        go_ret
        exact ⟨rfl, HB53.out⟩
      · have HP := Lib.hid (puttexts_any (HT.out w45 HB45.out) (HV.out.kept HB45.out))
        have HE := Lib.hid (show txErr z1 = false from by simpa using het)
        clear het
        go_wp2_with fail
        refine HP.out.mono ?_
        rintro e w54 ⟨he, hb⟩
        rw [if_neg (by rw [HE.out]; simp)] at he
        obtain ⟨ta, tm, tc, rfl, _, ht⟩ := he
        have HB54 := Lib.hid (HB45.out.trans (hb.mono HB45.out.size))
        have HTC := Lib.hid ht
        have HTM := Lib.hid (wd_chunk ht (tx_ok HE.out).2.2.1)
        have HI := Lib.hid (texts_any (HT.out w54 HB54.out) (HOO.out w54 HB54.out) ht HTM.out HE.out)
        clear hb ht
        go_wp2_with fail
        refine HI.out.mono ?_
        rintro e w55 ⟨ua, un, uc, rfl, hu, hb⟩
        obtain rfl : len1 = un := by rw [← hu.len]; exact HVL.out.symm
        have HB55 := Lib.hid (HB54.out.trans (hb.mono HB54.out.size))
        have HU := Lib.hid hu
        have HX := Lib.hid (words_other (HT.out w55 HB55.out) (HOO.out w55 HB55.out) (HTC.out.kept hb) HTM.out (by omega) (by omega) (tx_ok HE.out).2.2.1 (tx_ok HE.out).2.2.2)
        clear hb hu
        go_wp2_with fail
        refine HX.out.mono ?_
        rintro e w56 ⟨rfl, hb⟩
        have HB56 := Lib.hid (HB55.out.trans (hb.mono HB55.out.size))
        have HS := Lib.hid (csametexts_any (HU.out.kept hb) (HV.out.kept HB56.out))
        clear hb
        go_wp2_with fail
        refine HS.out.mono ?_
        rintro e w57 ⟨rfl, hb⟩
        have HB57 := Lib.hid (HB56.out.trans (hb.mono HB56.out.size))
        clear hb
        have HP := Lib.hid (putFlags_any (HT.out w57 HB57.out) (HF.out.kept HB57.out) hl2)
        go_wp2_with fail
        refine HP.out.mono ?_
        rintro e w58 ⟨fa, fm, fc, rfl, _, hf, hb⟩
        have HB58 := Lib.hid (HB57.out.trans (hb.mono HB57.out.size))
        have HI := Lib.hid (flags_all (HT.out w58 HB58.out) (HOO.out w58 HB58.out) hf (wd_chunk hf (by have := (flC_ok (f := z2) (by rw [HFL.out]; exact hl2)).2; omega)) (by rw [HFL.out]; exact hl2))
        clear hb hf
        go_wp2_with fail
        refine HI.out.mono ?_
        rintro e w59 ⟨v, rfl, hv, hb⟩
        have HB59 := Lib.hid (HB58.out.trans (hb.mono HB58.out.size))
        rw [HFL.out] at hv
        obtain ⟨ga, gc, rfl, hg⟩ := FlAt.ofOwn hv
        have HS := Lib.hid (csameflags_any hg (HF.out.kept HB59.out))
        clear hb hv hg
        go_wp2_with fail
        refine HS.out.mono ?_
        rintro e w60 ⟨rfl, hb⟩
        have HB60 := Lib.hid (HB59.out.trans (hb.mono HB59.out.size))
        clear hb
        go_wp2_with fail
        go_ret
        exact ⟨rfl, HB60.out⟩
    · have HP := Lib.hid (putwords_any (HT.out w42 HB42.out) (HV.out.kept HB42.out))
      have HE := Lib.hid (show wdErr z1 = false from by simpa using hew)
      clear hew
      go_wp2_with fail
      refine HP.out.mono ?_
      rintro e w61 ⟨he, hb⟩
      rw [if_neg (by rw [HE.out]; simp)] at he
      obtain ⟨ta, tm, tc, rfl, _, ht⟩ := he
      have HB61 := Lib.hid (HB42.out.trans (hb.mono HB42.out.size))
      have HTC := Lib.hid ht
      have HTM := Lib.hid (wd_chunk ht (wd_ok HE.out).2.2.1)
      have HI := Lib.hid (colwords_any (HT.out w61 HB61.out) (HOO.out w61 HB61.out) ht HTM.out HE.out)
      clear hb ht
      go_wp2_with fail
      refine HI.out.mono ?_
      rintro e w62 ⟨ua, un, uc, rfl, hu, hb⟩
      obtain rfl : len1 = un := by rw [← hu.len]; exact HVL.out.symm
      have HB62 := Lib.hid (HB61.out.trans (hb.mono HB61.out.size))
      have HU := Lib.hid hu
      have HX := Lib.hid (texts_other (HT.out w62 HB62.out) (HOO.out w62 HB62.out) (HTC.out.kept hb) HTM.out (by omega) (by omega) (wd_ok HE.out).2.2.1 (wd_ok HE.out).2.2.2)
      clear hb hu
      go_wp2_with fail
      refine HX.out.mono ?_
      rintro e w63 ⟨rfl, hb⟩
      have HB63 := Lib.hid (HB62.out.trans (hb.mono HB62.out.size))
      have HS := Lib.hid (csametexts_any (HU.out.kept hb) (HV.out.kept HB63.out))
      clear hb
      go_wp2_with fail
      refine HS.out.mono ?_
      rintro e w64 ⟨rfl, hb⟩
      have HB64 := Lib.hid (HB63.out.trans (hb.mono HB63.out.size))
      clear hb
      by_cases het : txErr z1 = true
      · have HP := Lib.hid (puttexts_any (HT.out w64 HB64.out) (HV.out.kept HB64.out))
        have HE := Lib.hid het
        clear het
        go_wp2_with fail
        refine HP.out.mono ?_
        rintro e w65 ⟨he, hb⟩
        rw [if_pos HE.out] at he
        subst he
        have HB65 := Lib.hid (HB64.out.trans (hb.mono HB64.out.size))
        have HI := Lib.hid (texts_err3 (HT.out w65 HB65.out) (BytesAt.empty w65 none 0 (by omega) (fun _ => rfl)) (by omega) op_nil)
        clear hb
        go_wp2_with fail
        refine HI.out.mono ?_
        rintro e w66 ⟨rfl, hb⟩
        have HB66 := Lib.hid (HB65.out.trans (hb.mono HB65.out.size))
        have HX := Lib.hid (words_err3 (HT.out w66 HB66.out) (BytesAt.empty w66 none 0 (by omega) (fun _ => rfl)) (by omega) op_nil)
        clear hb
        go_wp2_with fail
        refine HX.out.mono ?_
        rintro e w67 ⟨rfl, hb⟩
        have HB67 := Lib.hid (HB66.out.trans (hb.mono HB66.out.size))
        clear hb
        have HP := Lib.hid (putFlags_any (HT.out w67 HB67.out) (HF.out.kept HB67.out) hl2)
        go_wp2_with fail
        refine HP.out.mono ?_
        rintro e w69 ⟨fa, fm, fc, rfl, _, hf, hb⟩
        have HB69 := Lib.hid (HB67.out.trans (hb.mono HB67.out.size))
        have HI := Lib.hid (flags_all (HT.out w69 HB69.out) (HOO.out w69 HB69.out) hf (wd_chunk hf (by have := (flC_ok (f := z2) (by rw [HFL.out]; exact hl2)).2; omega)) (by rw [HFL.out]; exact hl2))
        clear hb hf
        go_wp2_with fail
        refine HI.out.mono ?_
        rintro e w70 ⟨v, rfl, hv, hb⟩
        have HB70 := Lib.hid (HB69.out.trans (hb.mono HB69.out.size))
        rw [HFL.out] at hv
        obtain ⟨ga, gc, rfl, hg⟩ := FlAt.ofOwn hv
        have HS := Lib.hid (csameflags_any hg (HF.out.kept HB70.out))
        clear hb hv hg
        go_wp2_with fail
        refine HS.out.mono ?_
        rintro e w71 ⟨rfl, hb⟩
        have HB71 := Lib.hid (HB70.out.trans (hb.mono HB70.out.size))
        clear hb
        go_wp2_with fail
        go_ret
        exact ⟨rfl, HB71.out⟩
      · have HP := Lib.hid (puttexts_any (HT.out w64 HB64.out) (HV.out.kept HB64.out))
        have HE := Lib.hid (show txErr z1 = false from by simpa using het)
        clear het
        go_wp2_with fail
        refine HP.out.mono ?_
        rintro e w72 ⟨he, hb⟩
        rw [if_neg (by rw [HE.out]; simp)] at he
        obtain ⟨ta, tm, tc, rfl, _, ht⟩ := he
        have HB72 := Lib.hid (HB64.out.trans (hb.mono HB64.out.size))
        have HTC := Lib.hid ht
        have HTM := Lib.hid (wd_chunk ht (tx_ok HE.out).2.2.1)
        have HI := Lib.hid (texts_any (HT.out w72 HB72.out) (HOO.out w72 HB72.out) ht HTM.out HE.out)
        clear hb ht
        go_wp2_with fail
        refine HI.out.mono ?_
        rintro e w73 ⟨ua, un, uc, rfl, hu, hb⟩
        obtain rfl : len1 = un := by rw [← hu.len]; exact HVL.out.symm
        have HB73 := Lib.hid (HB72.out.trans (hb.mono HB72.out.size))
        have HU := Lib.hid hu
        have HX := Lib.hid (words_other (HT.out w73 HB73.out) (HOO.out w73 HB73.out) (HTC.out.kept hb) HTM.out (by omega) (by omega) (tx_ok HE.out).2.2.1 (tx_ok HE.out).2.2.2)
        clear hb hu
        go_wp2_with fail
        refine HX.out.mono ?_
        rintro e w74 ⟨rfl, hb⟩
        have HB74 := Lib.hid (HB73.out.trans (hb.mono HB73.out.size))
        have HS := Lib.hid (csametexts_any (HU.out.kept hb) (HV.out.kept HB74.out))
        clear hb
        go_wp2_with fail
        refine HS.out.mono ?_
        rintro e w75 ⟨rfl, hb⟩
        have HB75 := Lib.hid (HB74.out.trans (hb.mono HB74.out.size))
        clear hb
        have HP := Lib.hid (putFlags_any (HT.out w75 HB75.out) (HF.out.kept HB75.out) hl2)
        go_wp2_with fail
        refine HP.out.mono ?_
        rintro e w76 ⟨fa, fm, fc, rfl, _, hf, hb⟩
        have HB76 := Lib.hid (HB75.out.trans (hb.mono HB75.out.size))
        have HI := Lib.hid (flags_all (HT.out w76 HB76.out) (HOO.out w76 HB76.out) hf (wd_chunk hf (by have := (flC_ok (f := z2) (by rw [HFL.out]; exact hl2)).2; omega)) (by rw [HFL.out]; exact hl2))
        clear hb hf
        go_wp2_with fail
        refine HI.out.mono ?_
        rintro e w77 ⟨v, rfl, hv, hb⟩
        have HB77 := Lib.hid (HB76.out.trans (hb.mono HB76.out.size))
        rw [HFL.out] at hv
        obtain ⟨ga, gc, rfl, hg⟩ := FlAt.ofOwn hv
        have HS := Lib.hid (csameflags_any hg (HF.out.kept HB77.out))
        clear hb hv hg
        go_wp2_with fail
        refine HS.out.mono ?_
        rintro e w78 ⟨rfl, hb⟩
        have HB78 := Lib.hid (HB77.out.trans (hb.mono HB77.out.size))
        clear hb
        go_wp2_with fail
        go_ret
        exact ⟨rfl, HB78.out⟩
end Go.Proofs.YtpbijdoemdoijaaGreatDoor
end PkCa44_1
