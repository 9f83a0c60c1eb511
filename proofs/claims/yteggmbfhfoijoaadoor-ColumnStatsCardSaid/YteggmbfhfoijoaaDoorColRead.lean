/- Columns of flags read back; a chunk's content. -/
import Derived.Test.YteggmbfhfoijoaaDoorColFlags
namespace Go.Proofs.YteggmbfhfoijoaaDoor
open Go.RowKit BitsPlain NumsPlain
set_option linter.unusedVariables false

theorem RdAt.low {w w' : World} {B : Nat} {a : Option Addr} {n c : Nat} {xs : List Nat} {p N : Nat} (h : RdAt w B a n c xs p) (hb : Below N w w') (hB : B < N) (ha : ∀ b off s, 0 < n → a = some ⟨b, off, s⟩ → b < N) : RdAt w' B a n c xs p :=
  ⟨(hb.block B hB).trans h.blk, ⟨h.src.len, h.src.cap, h.src.byte, h.src.reach, h.src.capm, h.src.nl, fun hp => by
    obtain ⟨b, off, e, hlt, hc⟩ := h.src.cells hp
    exact ⟨b, off, e, Nat.lt_of_lt_of_le hlt hb.size, fun i hi => (hb.cell (p := ⟨b, off + i, none⟩) (ha b off none hp e)).trans (hc i hi)⟩⟩, h.apart, h.le⟩
theorem cn_pu {n : Nat} {r : List Nat} {most : Int} {above : Nat} (h : n < 18446744073709551616) (hm : (n : Int) ≤ most) : cn (pu n ++ r) 0 0 most above = (n, (pu n).length, 0) := by
  have hr := ru_back h r
  have hc : cu (pu n ++ r) 0 0 = (n, (pu n).length, 0) := by
    unfold cu
    rw [if_pos rfl]
    have hr' : ru (pu n ++ r) ((0 : Nat) : Int) = (n, (pu n).length, 0) := hr
    rw [hr', if_pos rfl, Nat.zero_add]
  unfold cn
  rw [if_neg (by simp), hc, if_neg (by simp), if_neg (by simp only; omega)]
theorem rb_one {f : List Bool} {k : Nat} (h : k < f.length) : rb (pack (fbits f)) k 1 = (bit (f.getD k false), 0, k + 1) := by
  have hl : (fbits f).length = f.length := by unfold fbits; rw [List.length_map]
  have hb : num (pack (fbits f)) k 1 = bit (f.getD k false) := by
    rw [num_one, bitAt_pack (fbits_bin f)]
    unfold fbits
    simp [h]
  unfold rb
  rw [if_neg (by omega), if_neg (by rw [pack_length, hl, show (1 : Int).toNat = 1 from rfl]; omega), show (1 : Int).toNat = 1 from rfl, hb]
theorem bl_snoc {f : List Bool} {k : Nat} (h : k < f.length) : bl (f.take k) ++ [.bool (f.getD k false)] = bl (f.take (k + 1)) := by
  unfold bl
  rw [List.take_add_one, List.getElem?_eq_getElem h, List.map_append]
  simp [h]

set_option maxRecDepth 100000 in
set_option maxHeartbeats 4000000 in
theorem contentFlags_any {w : World} {a : Option Addr} {N c : Nat} {f : List Bool} (h : BytesAt w a N c (flC f)) (hn : f.length ≤ 2048) (h0 : 0 < f.length) :
    Calls Tryd.prog 23 #[.slice a N c] w fun e w' => ∃ v, e = .returned v ∧ w'.ownsRow w.heap.size 4 1 v f.length (bl f) ∧ Below w.heap.size w w' := by
  obtain ⟨i0, hi, hz0, hz1, hz2⟩ := info_parts info_bool
  have HN := Lib.hid (new_any h)
  have hN := h.len
  have hcap := h.cap
  have hcm := h.capm
  obtain ⟨n, hnn⟩ : ∃ n, n = f.length := ⟨_, rfl⟩
  have hp1 := pu_pos n
  have hp10 := pu_ten (n := n) (by omega)
  obtain ⟨m, hm⟩ : ∃ m, m = (pu n).length := ⟨_, rfl⟩
  have hNm : N = (pack (fbits f)).length + m := by
    rw [← hN]; unfold flC; rw [List.length_append, ← hnn, ← hm]; omega
  obtain ⟨M2, hM2⟩ : ∃ M2, M2 = (pack (fbits f)).length := ⟨_, rfl⟩
  rw [← hM2] at hNm
  subst hNm
  obtain ⟨c2, rfl⟩ : ∃ c2, c = c2 + m := ⟨c - m, by omega⟩
  obtain ⟨g, off, rfl, hg, hcell⟩ := h.cells (by omega)
  have HREST := Lib.hid (show BytesAt w (some ⟨g, off + m, none⟩) M2 c2 (pack (fbits f)) from by
    have := h.behind m (by omega)
    rw [Nat.add_sub_cancel, Nat.add_sub_cancel] at this
    have e : (flC f).drop m = pack (fbits f) := by unfold flC; rw [← hnn, hm, List.drop_left]
    rw [e] at this
    exact this)
  have HCN := Lib.hid (show cn (flC f) 0 0 2048 2 = (n, m, 0) from by
    unfold flC; rw [← hnn, hm]; exact cn_pu (by omega) (by omega))
  have hM0 : 0 < M2 := by rw [hM2, pack_length]; unfold fbits; rw [List.length_map]; omega
  have hc0 : ¬ c2 = 0 := by omega
  have hc1 : 0 < c2 := by omega
  have HNN := Lib.hid hnn
  rw [← hnn]
  rw [← hnn] at hn
  have HH := Lib.hid h
  have HMM := Lib.hid hm
  have HM2 := Lib.hid hM2
  clear h hnn hm hM2 hN hcell
  go_enter Tryd.func23, Tryd.ntmps23
  go_wp2_with fail
  refine HN.out.mono ?_
  rintro e w1 ⟨B, a', c', rfl, hcur, hb1, hB, _⟩
  have HB1 := Lib.hid hb1
  have HBB := Lib.hid hB
  have hnum := cnum_any hcur 2048 (by omega) (by omega)
  rw [HCN.out] at hnum
  have HNUM := Lib.hid hnum
  clear hcur hb1 hB hnum
  go_wp2_with fail
  refine HNUM.out.mono ?_
  rintro e w2 ⟨rfl, hcur, hg2⟩
  have HB2 := Lib.hid (HB1.out.grown hg2 HB1.out.size (fun k hk => by cases hk; exact HBB.out))
  have HAT := Lib.hid (at_any hcur)
  have HR2 := Lib.hid (HREST.out.keep HB2.out (Nat.le_refl _))
  clear hcur hg2
  go_wp2_with fail
  refine HAT.out.mono ?_
  rintro e w3 ⟨rfl, rfl⟩
  have HRN := Lib.hid (rnew_any HR2.out)
  go_wp2_with fail
  refine HRN.out.mono ?_
  rintro e w4 ⟨R, a4, c4, rfl, hrd, hb4, hR, hfr⟩
  have HB4 := Lib.hid (HB2.out.trans (hb4.mono HB2.out.size))
  have HRL : Hid (R < w4.heap.size) := Lib.hid hrd.lt
  have HAL : Hid (∀ b off s, 0 < M2 → a4 = some ⟨b, off, s⟩ → b < w4.heap.size) := Lib.hid (by
    intro b off s hp e
    obtain ⟨b2, off2, e2, hlt, _⟩ := hrd.src.cells hp
    rw [e] at e2
    cases e2
    exact hlt)
  have HRD := Lib.hid hrd
  have HRGE := Lib.hid (show w.heap.size ≤ R from Nat.le_trans HB2.out.size hR)
  clear hrd hb4 hR hfr
  go_wp2_with fail
  go_loopw [6, 7, 8, 19] (fun s6 _ _ s19 wr => ∃ k : Nat, k ≤ n ∧ s19 = .int .i64 (k : Int) ∧ Hid (wr.ownsRow w4.heap.size 4 1 s6 k (bl (f.take k))) ∧ Hid (RdAt wr R a4 M2 c4 (pack (fbits f)) k) ∧ Hid (Below w.heap.size w wr) ∧ Hid (w4.heap.size ≤ wr.heap.size)) (fun _ _ _ s19 _ => n - (intOf s19).toNat)
  case atStart => exact ⟨0, by omega, rfl, Lib.hid (by simpa [bl] using World.ownsRow_nil w4 w4.heap.size 4 1), HRD, HB4, Lib.hid (Nat.le_refl _)⟩
  case round =>
    obtain ⟨k, hk, rfl, HO, HX, HB, HSZ⟩ := hrel
    rename World => wr
    by_cases hkn : k < n
    · have hki : (k : Int) < (n : Int) := by omega
      have hbt := rbits_any HX.out 1
      rw [rb_one (by rw [← HNN.out]; exact hkn)] at hbt
      have hsn := bl_snoc (f := f) (k := k) (by rw [← HNN.out]; exact hkn)
      obtain ⟨x, hx⟩ : ∃ x, x = f.getD k false := ⟨_, rfl⟩
      rw [← hx] at hbt hsn
      have HSN := Lib.hid hsn
      have HBT := Lib.hid hbt
      clear hbt hsn hx
      have fin : ∀ (w5 : World), RdAt w5 R a4 M2 c4 (pack (fbits f)) (k + 1) → wr.grownBy w5 (some R) → w5.ownsRow w4.heap.size 4 1 u6 k (bl (f.take k)) ∧ Below w.heap.size w w5 ∧ w4.heap.size ≤ w5.heap.size := by
        intro w5 h1 h2
        refine ⟨HO.out.kept h2 ?_, HB.out.grown h2 HB.out.size (fun k hk => by cases hk; exact HRGE.out), Nat.le_trans HSZ.out h2.size⟩
        cases hv : u6.ownBlock with
        | none => exact .inl rfl
        | some q =>
          refine .inr fun e => ?_
          cases e
          have h3 := (HO.out.lt _ hv).1
          have h4 := HRL.out
          omega
      have FIN := Lib.hid fin
      clear fin
      cases x
      · go_wp2_with fail
        refine HBT.out.mono ?_
        rintro e w5 ⟨rfl, hx5, hg5⟩
        obtain ⟨o5, b5, s5⟩ := FIN.out w5 hx5 hg5
        have HX5 := Lib.hid hx5
        have HB5 := Lib.hid b5
        have HS5 := Lib.hid s5
        have hown := o5
        clear hx5 hg5 b5 s5 o5
        have hs5 := HS5.out
        unfold bit
        go_wp2_with (at_builtin; refine wpList_append_own _ rfl (.tmp 26) (.tmp 29) 43 rfl w4.heap.size 4 i0 (.bool false) 1 1 Tryd.underlying43 hi hz0 hz1 hz2 rfl (by decide) _ _ _ rfl (hown.alloc _) ⟨w5.heap.size, 0, none⟩ 1 1 [.bool false] rfl rfl (one_src _ _ _) (one_oneCell rfl) (by unfold maxLen; omega) (by omega) (by simp; omega) ?_)
        intro v6 w6 ho6 hg6 _
        have hal : Below w5.heap.size w5 (w5.alloc (.cells #[.bool false] 4)) := (Below.refl _ _).alloc (Nat.le_refl _) _
        have HO6 := Lib.hid (show w6.ownsRow w4.heap.size 4 1 v6 (k + 1) (bl (f.take (k + 1))) from by rw [← HSN.out]; exact ho6)
        have hbw : Below w4.heap.size w5 w6 := below_own (hal.mono hs5) (hown.alloc (.cells #[.bool false] 4)) hg6 (Nat.le_refl _) (Nat.le_trans hs5 hal.size)
        have HX6 := Lib.hid (HX5.out.low hbw HRL.out HAL.out)
        have HB6 := Lib.hid (HB5.out.trans (hbw.mono HB4.out.size))
        have HS6 := Lib.hid (Nat.le_trans hs5 hbw.size)
        clear ho6 hg6 hal hbw hown hs5
        go_wp2_with fail
        go_roundw
        case rel => exact ⟨k + 1, by omega, by go_num, HO6, HX6, HB6, HS6⟩
        case measure => simp [intOf]; omega
      · go_wp2_with fail
        refine HBT.out.mono ?_
        rintro e w5 ⟨rfl, hx5, hg5⟩
        obtain ⟨o5, b5, s5⟩ := FIN.out w5 hx5 hg5
        have HX5 := Lib.hid hx5
        have HB5 := Lib.hid b5
        have HS5 := Lib.hid s5
        have hown := o5
        clear hx5 hg5 b5 s5 o5
        have hs5 := HS5.out
        unfold bit
        go_wp2_with (at_builtin; refine wpList_append_own _ rfl (.tmp 26) (.tmp 29) 43 rfl w4.heap.size 4 i0 (.bool false) 1 1 Tryd.underlying43 hi hz0 hz1 hz2 rfl (by decide) _ _ _ rfl (hown.alloc _) ⟨w5.heap.size, 0, none⟩ 1 1 [.bool true] rfl rfl (one_src _ _ _) (one_oneCell rfl) (by unfold maxLen; omega) (by omega) (by simp; omega) ?_)
        intro v6 w6 ho6 hg6 _
        have hal : Below w5.heap.size w5 (w5.alloc (.cells #[.bool true] 4)) := (Below.refl _ _).alloc (Nat.le_refl _) _
        have HO6 := Lib.hid (show w6.ownsRow w4.heap.size 4 1 v6 (k + 1) (bl (f.take (k + 1))) from by rw [← HSN.out]; exact ho6)
        have hbw : Below w4.heap.size w5 w6 := below_own (hal.mono hs5) (hown.alloc (.cells #[.bool true] 4)) hg6 (Nat.le_refl _) (Nat.le_trans hs5 hal.size)
        have HX6 := Lib.hid (HX5.out.low hbw HRL.out HAL.out)
        have HB6 := Lib.hid (HB5.out.trans (hbw.mono HB4.out.size))
        have HS6 := Lib.hid (Nat.le_trans hs5 hbw.size)
        clear ho6 hg6 hal hbw hown hs5
        go_wp2_with fail
        go_roundw
        case rel => exact ⟨k + 1, by omega, by go_num, HO6, HX6, HB6, HS6⟩
        case measure => simp [intOf]; omega
    · have hkn2 : k = n := by omega
      have hnn : ¬ ((k : Int) < (n : Int)) := by omega
      have HOE := Lib.hid (show wr.ownsRow w.heap.size 4 1 u6 n (bl f) from by
        have o := own_lower HO.out HB4.out.size
        rw [hkn2, List.take_of_length_le (by rw [← HNN.out]; exact Nat.le_refl _)] at o
        exact o)
      clear hkn hkn2
      go_wp2_with fail
      go_ret
      exact ⟨_, rfl, HOE.out, HB.out⟩
end Go.Proofs.YteggmbfhfoijoaaDoor
