/- Texts put together by packtpl2.py: DeltaDec, ColInts, ColWords. -/
import Derived.Test.YtpbijdoemdoijaaGreatDoorPkCa14
import Derived.Test.YtpbijdoemdoijaaGreatDoorPkCa19
import Derived.Test.YtpbijdoemdoijaaGreatDoorPkCa31
import Derived.Test.YtpbijdoemdoijaaGreatDoorPkCa34
import Derived.Test.YtpbijdoemdoijaaGreatDoorPkCa35
section PkCa36_0
/- Package delta's Decode, walked. -/
namespace Go.Proofs.YtpbijdoemdoijaaGreatDoor
open Go.RowKit NumsPlain DeltaPlain
set_option linter.unusedVariables false

set_option maxRecDepth 100000 in
set_option maxHeartbeats 1000000 in
theorem foretold_any {w : World} {a : Option Addr} {n c : Nat} {zs : List Int} (h : IntsAt .i64 w a n c zs) (hb : ∀ x ∈ zs, -1152921504606846976 ≤ x ∧ x ≤ 1152921504606846976) (way : Int) (h0 : 0 ≤ way) (h2 : way ≤ 2) :
    Calls Tryz.prog 130 #[.slice a n c, .int .i64 way] w fun e w' => e = .returned (.int .i64 (fore zs way)) ∧ ∃ m, w' = w.drewN m := by
  have hlen := h.len
  have hcap := h.cap
  have hcm := h.capm
  have hw : way = 0 ∨ way = 1 ∨ way = 2 := by omega
  by_cases hn0 : n = 0
  · have HF := Lib.hid (show fore zs way = 0 by unfold fore; rw [if_pos (.inr (by omega))])
    subst hn0
    clear h hlen hb h0 h2
    rcases hw with rfl | rfl | rfl
    all_goals
      go_enter Tryz.func130, Tryz.ntmps130
      go_wp2_with fail
      go_ret
      rw [HF.out]
      exact ⟨rfl, 0, rfl⟩
  · obtain ⟨j, rfl⟩ : ∃ j, n = j + 1 := ⟨n - 1, by omega⟩
    obtain ⟨b, off, rfl, hlt, hcell⟩ := h.cells (by omega)
    obtain ⟨x, hx⟩ : ∃ x, x = zs.getD j 0 := ⟨_, rfl⟩
    have hcx := hcell j (by omega)
    rw [← hx] at hcx
    have bx : -1152921504606846976 ≤ x ∧ x ≤ 1152921504606846976 := by rw [hx]; exact getD_mem_or hb (by omega) _
    obtain ⟨bx1, bx2⟩ := bx
    have hnz : ((j : Int) + 1 == 0) = false := by rw [beq_eq_false_iff_ne]; omega
    rcases hw with rfl | rfl | rfl
    · have HF := Lib.hid (show fore zs 0 = 0 by unfold fore; rw [if_pos (.inl (by omega))])
      clear h hlen hb h0 h2 hcell hx hcx
      go_enter Tryz.func130, Tryz.ntmps130
      go_wp2_with fail
      go_ret
      rw [HF.out]
      exact ⟨rfl, 0, rfl⟩
    · have HF := Lib.hid (show fore zs 1 = x by unfold fore; rw [if_neg (by omega), if_pos (.inl rfl), hx, hlen]; rfl)
      clear h hlen hb h0 h2 hcell hx
      go_enter Tryz.func130, Tryz.ntmps130
      go_wp2_with fail
      go_ret
      rw [HF.out]
      exact ⟨rfl, 0, rfl⟩
    · by_cases hj0 : j = 0
      · subst hj0
        have HF := Lib.hid (show fore zs 2 = x by unfold fore; rw [if_neg (by omega), if_pos (.inr (by omega)), hx, hlen])
        rw [Nat.add_zero] at hcx
        clear h hlen hb h0 h2 hcell hx hn0
        go_enter Tryz.func130, Tryz.ntmps130
        go_wp2_with fail
        go_ret
        rw [HF.out]
        exact ⟨rfl, 0, rfl⟩
      · obtain ⟨i, rfl⟩ : ∃ i, j = i + 1 := ⟨j - 1, by omega⟩
        obtain ⟨y, hy⟩ : ∃ y, y = zs.getD i 0 := ⟨_, rfl⟩
        have hcy := hcell i (by omega)
        rw [← hy] at hcy
        have by_ : -1152921504606846976 ≤ y ∧ y ≤ 1152921504606846976 := by rw [hy]; exact getD_mem_or hb (by omega) _
        obtain ⟨by1, by2⟩ := by_
        have HF := Lib.hid (show fore zs 2 = x + (x - y) by
          unfold fore; rw [if_neg (by omega), if_neg (by omega), hx, hy, hlen]
          simp only [show i + 1 + 1 - 1 = i + 1 from by omega, show i + 1 + 1 - 2 = i from by omega]
          omega)
        have hn1 : ((i : Int) + 1 + 1 == 1) = false := by rw [beq_eq_false_iff_ne]; omega
        clear h hlen hb h0 h2 hcell hx hn0 hj0 hy
        go_enter Tryz.func130, Tryz.ntmps130
        go_wp2_with fail
        go_quiet (fail)
        go_wp2_with fail
        go_ret
        rw [HF.out]
        exact ⟨rfl, _, rfl⟩

theorem uu_ok_le {l : List Nat} (hb : ∀ x ∈ l, x < 256) (h : (uu 0 0 l).2.2 = 0) : (uu 0 0 l).2.1 ≤ l.length := by
  obtain ⟨k, n, hk, hl, _⟩ := uu_conv l 0 0 (uu 0 0 l).1 (uu 0 0 l).2.1 hb (Prod.ext rfl (Prod.ext rfl h))
  omega

/-- the state of the numbers read: what is left to do comes to what there was to do at first -/
structure Left (d : List Int × List Nat × Nat) (way : Int) (xs : List Nat) (c at_ : Nat) (acc : List Int) : Prop where
  eq : d = dls way c (xs.drop at_) acc
  bd : ∀ x ∈ acc, -1152921504606846976 ≤ x ∧ x ≤ 1152921504606846976

/-- what is told behind the numbers -/
def fin4 (d : List Int × List Nat × Nat) : List Int × Nat := if d.2.2 ≠ 0 then ([], d.2.2) else if d.2.1 ≠ [] then ([], 5) else (d.1, 0)
theorem fin4_err {way : Int} {ys : List Nat} {acc : List Int} {c : Nat} (h : (uu 0 0 ys).2.2 ≠ 0) : fin4 (dls way (c + 1) ys acc) = ([], (uu 0 0 ys).2.2) := by
  simp only [dls, fin4, if_pos h]
theorem fin4_rng {way : Int} {ys : List Nat} {acc : List Int} {c : Nat} (h : (uu 0 0 ys).2.2 = 0) (hr : inB (fore acc way + zag (uu 0 0 ys).1) = false) : fin4 (dls way (c + 1) ys acc) = ([], 2) := by
  have e : dls way (c + 1) ys acc = ([], [], 2) := by
    simp only [dls]
    rw [if_neg (fun hh => hh h), if_pos hr]
  rw [e]
  rfl
theorem dls_go {way : Int} {ys : List Nat} {acc : List Int} {c : Nat} (h : (uu 0 0 ys).2.2 = 0) (hr : inB (fore acc way + zag (uu 0 0 ys).1) = true) : dls way (c + 1) ys acc = dls way c (ys.drop (uu 0 0 ys).2.1) (acc ++ [fore acc way + zag (uu 0 0 ys).1]) := by
  simp only [dls]
  rw [if_neg (fun hh => hh h), if_neg (by rw [hr]; simp)]

set_option maxRecDepth 100000 in
set_option maxHeartbeats 4000000 in
theorem decode_any {w : World} {a : Option Addr} {n c : Nat} {xs : List Nat} (h : BytesAt w a n c xs) (hn : n ≤ 100000) (way : Int) :
    Calls Tryz.prog 88 #[.slice a n c, .int .i64 way] w fun e w' => ∃ a' n' c', e = .returned (.tuple #[.slice a' n' c', .int .i64 (((dec xs way).2 : Nat) : Int)]) ∧ IntsAt .i64 w' a' n' c' (dec xs way).1 ∧ Below w.heap.size w w' := by
  obtain ⟨i0, hi, hz0, hz1, hz2⟩ := info_parts info_i64
  have hemp : ∀ w, IntsAt .i64 w none 0 0 [] := fun w => IntsAt.empty _ _ _ _ (by omega) (fun _ => rfl)
  have HEM := Lib.hid hemp
  have HU := Lib.hid (u_any h (0 : Int))
  have hr0 : ru xs (0 : Int) = uu 0 0 xs := by rw [show (0 : Int) = ((0 : Nat) : Int) from rfl, ru_nat, List.drop_zero]
  rw [hr0] at HU
  have hlt64 := ru_lt xs (0 : Int)
  rw [hr0] at hlt64
  have hbyte := h.byte
  have hlen := h.len
  have hdec : dec xs way = if known way = false then ([], 1) else if (uu 0 0 xs).2.2 ≠ 0 then ([], (uu 0 0 xs).2.2) else if 2048 < (uu 0 0 xs).1 then ([], 5) else fin4 (dls way (uu 0 0 xs).1 (xs.drop (uu 0 0 xs).2.1) []) := rfl
  have hle0 := uu_ok_le (l := xs) hbyte
  obtain ⟨u, hu⟩ : ∃ u, u = uu 0 0 xs := ⟨_, rfl⟩
  rw [← hu] at HU hlt64 hdec hle0
  obtain ⟨cnt, at0, er⟩ := u
  simp only at hlt64 hdec hle0
  have HH := Lib.hid h
  have HD := Lib.hid hdec
  have HBY := Lib.hid hbyte
  have HL := Lib.hid hlen
  clear h hr0 hbyte hlen hdec hemp hu
  unfold ruV at HU
  simp only at HU
  cases hk : known way with
  | false =>
    have HV := Lib.hid (show dec xs way = ([], 1) by rw [HD.out, if_pos hk])
    have HK := Lib.hid hk
    clear hk hle0 hlt64
    go_enter Tryz.func88, Tryz.ntmps88
    go_wp2_with fail
    refine (known_any way w).mono ?_
    rintro e w1 ⟨rfl, rfl⟩
    rw [HK.out]
    go_wp2_with fail
    go_ret2
    rw [HV.out]
    exact ⟨none, 0, 0, rfl, HEM.out _, Below.refl _ _⟩
  | true =>
    have HK := Lib.hid hk
    have hkk := (known_iff way).1 hk
    obtain ⟨hk0, hk2⟩ := hkk
    have hd2 : dec xs way = if er ≠ 0 then ([], er) else if 2048 < cnt then ([], 5) else fin4 (dls way cnt (xs.drop at0) []) := by
      rw [HD.out, if_neg (by rw [hk]; simp)]
    have HD2 := Lib.hid hd2
    clear hk hd2 HD
    by_cases her : er = 0
    · subst her
      by_cases hcb : 2048 < cnt
      · have HV := Lib.hid (show dec xs way = ([], 5) by rw [HD2.out, if_neg (by omega), if_pos hcb])
        have hcb2 : (2048 : Int) < (cnt : Int) := by omega
        clear hle0
        go_enter Tryz.func88, Tryz.ntmps88
        go_wp2_with fail
        refine (known_any way w).mono ?_
        rintro e w1 ⟨rfl, rfl⟩
        rw [HK.out]
        go_wp2_with fail
        refine HU.out.mono ?_
        rintro e w1 ⟨rfl, rfl⟩
        go_wp2_with fail
        go_ret2
        rw [HV.out]
        exact ⟨none, 0, 0, rfl, HEM.out _, Below.refl _ _⟩
      · have hcb2 : (cnt : Int) ≤ 2048 := by omega
        obtain ⟨d, hd⟩ : ∃ d, d = dls way cnt (xs.drop at0) [] := ⟨_, rfl⟩
        have HV := Lib.hid (show dec xs way = fin4 d by rw [HD2.out, if_neg (by omega), if_neg hcb, hd])
        have hat0 : at0 ≤ n := by have := hle0 rfl; have := HL.out; omega
        have HL0 : Left d way xs cnt at0 [] := ⟨hd, fun x hx => by cases hx⟩
        clear hle0 hd hcb
        go_enter Tryz.func88, Tryz.ntmps88
        go_wp2_with fail
        refine (known_any way w).mono ?_
        rintro e w1 ⟨rfl, rfl⟩
        rw [HK.out]
        go_wp2_with fail
        refine HU.out.mono ?_
        rintro e w1 ⟨rfl, rfl⟩
        go_wp2_with fail
        go_loopw [7, 9, 29] (fun s7 s9 s29 wr => ∃ (k at_ : Nat) (acc : List Int), k ≤ cnt ∧ at_ ≤ n ∧ s29 = .int .u64 k ∧ s7 = .int .i64 at_ ∧ Left d way xs (cnt - k) at_ acc ∧ Hid (wr.ownsRow w.heap.size 2 1 s9 k (iv .i64 acc)) ∧ Hid (Below w.heap.size w wr)) (fun _ _ s29 _ => cnt - (intOf s29).toNat)
        case atStart => exact ⟨0, at0, [], by omega, hat0, rfl, rfl, HL0, Lib.hid (World.ownsRow_nil _ _ _ _), Lib.hid (Below.refl _ _)⟩
        case round =>
          obtain ⟨k, at_, acc, hk, hat, rfl, rfl, hleft, HO, HB⟩ := hrel
          rename World => wr
          by_cases hkc : k < cnt
          · obtain ⟨c', hc'⟩ : ∃ c', cnt - k = c' + 1 := ⟨cnt - k - 1, by omega⟩
            have heq := hleft.eq
            have hbd := hleft.bd
            rw [hc'] at heq
            have hii := i_any (HH.out.kept HB.out) (at_ : Int)
            rw [ru_nat] at hii
            have hle := uu_ok_le (l := xs.drop at_) (fun x hx => HBY.out x (List.mem_of_mem_drop hx))
            have hz64 := ru_lt xs (at_ : Int)
            rw [ru_nat] at hz64
            obtain ⟨a9, c9, rfl, hi9, _⟩ := IntsAt.ofOwn HO.out (fun z hz => wf_i64 (by have := hbd z hz; omega))
            have hfo := foretold_any hi9 hbd way hk0 hk2
            have hfb := fore_bound hbd way
            have herr := fin4_err (way := way) (ys := xs.drop at_) (acc := acc) (c := c')
            have hrng := fin4_rng (way := way) (ys := xs.drop at_) (acc := acc) (c := c')
            have hgo := dls_go (way := way) (ys := xs.drop at_) (acc := acc) (c := c')
            rw [← heq] at herr hrng hgo
            rw [List.drop_drop] at hgo
            have hdl : (xs.drop at_).length = n - at_ := by rw [List.length_drop, HL.out]
            rw [hdl] at hle
            obtain ⟨r, hr⟩ : ∃ r, r = uu 0 0 (xs.drop at_) := ⟨_, rfl⟩
            rw [← hr] at hii hle hz64 herr hrng hgo
            obtain ⟨z, sz, er⟩ := r
            obtain ⟨f, hf⟩ : ∃ f, f = fore acc way := ⟨_, rfl⟩
            rw [← hf] at hfo hfb hrng hgo
            simp only at hii hle hz64 herr hrng hgo
            have HII := Lib.hid hii
            have HFO := Lib.hid hfo
            have hzl := zag_lo hz64
            have hzh := zag_hi hz64
            obtain ⟨x, hx⟩ : ∃ x, x = zag z := ⟨_, rfl⟩
            rw [← hx] at HII hrng hgo hzl hzh
            obtain ⟨hfb1, hfb2⟩ := hfb
            by_cases he : er = 0
            · subst he
              have hsz := hle rfl
              have hz0' : ((0 : Int) != 0) = false := by decide
              by_cases hlo : x < -1152921504606846976 - f
              · have HV2 := Lib.hid (show dec xs way = ([], 2) by rw [HV.out]; exact hrng rfl ((inB_no _).2 (.inl (by omega))))
                clear hleft heq hbd hii hle hz64 hfo herr hrng hgo hdl hr hf hx hi9 hc'
                go_wp2_with fail
                refine HII.out.mono ?_
                rintro e w1 ⟨rfl, rfl⟩
                go_wp2_with fail
                refine HFO.out.mono ?_
                rintro e w1 ⟨rfl, m, rfl⟩
                go_wp2_with fail
                go_ret2
                rw [HV2.out]
                exact ⟨none, 0, 0, rfl, HEM.out _, HB.out.trans ⟨rfl, rfl, rfl, Nat.le_refl _, fun _ _ => rfl⟩⟩
              · by_cases hhi : 1152921504606846976 - f < x
                · have HV2 := Lib.hid (show dec xs way = ([], 2) by rw [HV.out]; exact hrng rfl ((inB_no _).2 (.inr (by omega))))
                  have hlo' : -1152921504606846976 - f ≤ x := by omega
                  clear hleft heq hbd hii hle hz64 hfo herr hrng hgo hdl hr hf hx hi9 hc' hlo
                  go_wp2_with fail
                  refine HII.out.mono ?_
                  rintro e w1 ⟨rfl, rfl⟩
                  go_wp2_with fail
                  refine HFO.out.mono ?_
                  rintro e w1 ⟨rfl, m, rfl⟩
                  go_wp2_with fail
                  go_ret2
                  rw [HV2.out]
                  exact ⟨none, 0, 0, rfl, HEM.out _, HB.out.trans ⟨rfl, rfl, rfl, Nat.le_refl _, fun _ _ => rfl⟩⟩
                · have hlo' : -1152921504606846976 - f ≤ x := by omega
                  have hhi' : x ≤ 1152921504606846976 - f := by omega
                  have hnew : Left d way xs (cnt - (k + 1)) (at_ + sz) (acc ++ [f + x]) := by
                    refine ⟨?_, ?_⟩
                    · rw [show cnt - (k + 1) = c' from by omega]
                      exact hgo rfl ((inB_iff _).2 ⟨by omega, by omega⟩)
                    · intro y hy
                      rcases List.mem_append.1 hy with g | g
                      · exact hbd y g
                      · simp at g; omega
                  have hs1 : -1152921504606846976 ≤ f + x := by omega
                  have hs2 : f + x ≤ 1152921504606846976 := by omega
                  clear hleft heq hbd hii hle hz64 hfo herr hrng hgo hdl hr hf hx hi9 hc' hlo hhi
                  go_wp2_with fail
                  refine HII.out.mono ?_
                  rintro e w1 ⟨rfl, rfl⟩
                  go_wp2_with fail
                  refine HFO.out.mono ?_
                  rintro e w1 ⟨rfl, m, rfl⟩
                  have hgo := own_below HO.out (show Below wr.heap.size wr (wr.drewN m) from ⟨rfl, rfl, rfl, Nat.le_refl _, fun _ _ => rfl⟩)
                  have HB1 := Lib.hid (show Below w.heap.size w (wr.drewN m) from HB.out.trans ⟨rfl, rfl, rfl, Nat.le_refl _, fun _ _ => rfl⟩)
                  have hbs := HB1.out.size
                  go_wp2_with (at_builtin; refine wpList_append_own _ rfl (.tmp 54) (.tmp 58) 22 rfl w.heap.size 2 i0 (.int .i64 0) 1 8 Tryz.underlying22 hi hz0 hz1 hz2 rfl (by decide) _ _ _ rfl (hgo.alloc _) ⟨(wr.drewN m).heap.size, 0, none⟩ 1 1 [.int .i64 (f + x)] rfl rfl (one_src _ _ _) (one_oneCell rfl) (by unfold maxLen; omega) (by omega) (by simp at hbs ⊢; omega) ?_)
                  intro v4 w4 hown4 hg4 _
                  have HO4 := Lib.hid (show w4.ownsRow w.heap.size 2 1 v4 (k + 1) (iv .i64 (acc ++ [f + x])) by rw [iv_append]; exact hown4)
                  have HB4 := Lib.hid ((HB1.out.alloc hbs _).grown hg4 (by simp at hbs ⊢; omega) (fun j hj => (hgo.lt j hj).1))
                  clear hown4 hg4 hgo
                  go_wp2_with fail
                  go_roundw
                  case rel => exact ⟨k + 1, at_ + sz, acc ++ [f + x], by omega, by omega, by go_num, by go_num, hnew, HO4, HB4⟩
                  case measure => simp [intOf]; omega
            · have HV2 := Lib.hid (show dec xs way = ([], er) by rw [HV.out]; exact herr he)
              have he1 : ((er : Int) != 0) = true := by rw [bne_iff_ne]; omega
              clear hleft heq hbd hii hle hz64 hfo herr hrng hgo hdl hr hf hx hi9 hc' he
              go_wp2_with fail
              refine HII.out.mono ?_
              rintro e w1 ⟨rfl, rfl⟩
              go_wp2_with fail
              go_ret2
              rw [HV2.out]
              exact ⟨none, 0, 0, rfl, HEM.out _, HB.out⟩
          · obtain rfl : k = cnt := by omega
            have heq := hleft.eq
            rw [Nat.sub_self] at heq
            have hd3 : d = (acc, xs.drop at_, 0) := heq
            have hbd := hleft.bd
            obtain ⟨a9, c9, rfl, hi9, _⟩ := IntsAt.ofOwn HO.out (fun z hz => wf_i64 (by have := hbd z hz; omega))
            have HI9 := Lib.hid hi9
            by_cases hend : (at_ : Int) < (n : Int)
            · have HV2 := Lib.hid (show dec xs way = ([], 5) by
                rw [HV.out, hd3]
                unfold fin4
                rw [if_neg (by simp), if_pos]
                intro e
                have := congrArg List.length e
                rw [List.length_drop, HL.out] at this
                simp at this; omega)
              clear hleft heq hd3 hbd hi9
              go_wp2_with fail
              go_ret2
              rw [HV2.out]
              exact ⟨none, 0, 0, rfl, HEM.out _, HB.out⟩
            · have HV2 := Lib.hid (show dec xs way = (acc, 0) by
                rw [HV.out, hd3]
                unfold fin4
                have hnil : xs.drop at_ = [] := List.drop_eq_nil_of_le (by rw [HL.out]; omega)
                rw [if_neg (by simp), if_neg (fun hh => hh hnil)])
              have hend2 : (n : Int) ≤ (at_ : Int) := by omega
              clear hleft heq hd3 hbd hi9 hend
              go_wp2_with fail
              go_ret2
              rw [HV2.out]
              exact ⟨a9, k, c9, rfl, HI9.out, HB.out⟩
    · have HV := Lib.hid (show dec xs way = ([], er) by rw [HD2.out, if_pos her])
      have he1 : ((er : Int) != 0) = true := by rw [bne_iff_ne]; omega
      clear hle0 her
      go_enter Tryz.func88, Tryz.ntmps88
      go_wp2_with fail
      refine (known_any way w).mono ?_
      rintro e w1 ⟨rfl, rfl⟩
      rw [HK.out]
      go_wp2_with fail
      refine HU.out.mono ?_
      rintro e w1 ⟨rfl, rfl⟩
      go_wp2_with fail
      go_ret2
      rw [HV.out]
      exact ⟨none, 0, 0, rfl, HEM.out _, Below.refl _ _⟩
end Go.Proofs.YtpbijdoemdoijaaGreatDoor
end PkCa36_0
section PkCa36_1
/- Columns of integers read back, walked. -/
namespace Go.Proofs.YtpbijdoemdoijaaGreatDoor
open Go.RowKit BitsPlain NumsPlain CrcPlain InfPlain
open DeltaPlain (chk dec)
set_option linter.unusedVariables false

/-- what is sealed in a chunk -/
def inner (k : Nat) (C : List Nat) : List Nat := if (dfl C).length < C.length then [k, 1] ++ pu C.length ++ dfl C else [k, 0] ++ pu C.length ++ C
theorem op_chunk (k : Nat) (C : List Nat) : op (chunk k C) = (inner k C, 0) := by
  unfold chunk inner
  split
  · exact op_sealed _
  · exact op_sealed _
theorem content_any {w : World} (hO : Ordr w) {a : Option Addr} {n c k : Nat} {C : List Nat} (h : BytesAt w a n c (inner k C)) (hk : k ≤ 4) (hC : C.length ≤ 65536) (hCb : ∀ x ∈ C, x < 256) :
    Calls Tryz.prog 86 #[.slice a n c] w fun e w' => ∃ a' c', e = .returned (.tuple #[.slice a' C.length c', .bool true]) ∧ BytesAt w' a' C.length c' C ∧ Below w.heap.size w w' := by
  unfold inner at h
  by_cases hl : (dfl C).length < C.length
  · rw [if_pos hl] at h
    exact content_sq hO h hk hC hCb hl
  · rw [if_neg hl] at h
    exact content_bare h hk hC

set_option maxRecDepth 100000 in
theorem slice_one (g off m c : Nat) (hc : 0 < c) (w : World) :
    (Instr.slice 27 (.slice (some ⟨g, off, none⟩) (m + 1) (c + 1)) (some (.int .i64 1)) none none).run Tryz.prog w = .ok (.slice (some ⟨g, off + 1, none⟩) m c) w := by
  have ht' : Tryz.prog.underlying 27 = some (.slice (Tryz.prog.elem 27)) := by simp [Program.elem, Tryz.underlying27]
  have he : Tryz.prog.elem 27 = 5 := by simp [Program.elem, Tryz.underlying27]
  rw [run_slice_l w 27 _ _ _ ht' .i64 _ (by omega) (by omega), he, size_u8]
  simp [Result.andThen, sliced, Addr.add, show ¬ c = 0 from by omega]

set_option maxRecDepth 100000 in
set_option maxHeartbeats 4000000 in
theorem contentInts_any {w : World} {a : Option Addr} {n c : Nat} {zs : List Int} (h : BytesAt w a n c (intC zs)) (hc : chk zs 0 = 0) :
    Calls Tryz.prog 50 #[.slice a n c] w fun e w' => ∃ a' c', e = .returned (.slice a' zs.length c') ∧ IntsAt .i64 w' a' zs.length c' zs ∧ Below w.heap.size w w' := by
  have hlen := h.len
  have hcap := h.cap
  have hcm := h.capm
  have hmx := intC_len hc
  have hcb : chk zs (bst zs : Int) = 0 := by rw [chk_bst]; exact hc
  have hd : dec (eb zs (bst zs : Int)) (bst zs : Int) = (zs, 0) := by
    rw [eb_ok hcb]
    have := DeltaPlain.dec_back hcb []
    rw [List.append_nil, if_pos rfl] at this
    exact this
  have hp : 0 < (eb zs (bst zs : Int)).length := by
    rw [eb_ok hcb]
    have := pu_pos zs.length
    unfold DeltaPlain.enc
    rw [List.length_append]
    omega
  obtain ⟨m, hm⟩ : ∃ m, m = (eb zs (bst zs : Int)).length := ⟨_, rfl⟩
  have hnm : n = m + 1 := by rw [← hlen, hm]; rfl
  subst hnm
  obtain ⟨c2, rfl⟩ : ∃ c2, c = c2 + 1 := ⟨c - 1, by omega⟩
  obtain ⟨g, off, rfl, hg, hcell⟩ := h.cells (by omega)
  have x0 := hcell 0 (by omega)
  obtain ⟨q, hq⟩ : ∃ q, q = bst zs := ⟨_, rfl⟩
  have hq2 : q ≤ 2 := by rw [hq]; exact bst_le zs
  have x0 : w.cell? ⟨g, off, none⟩ = some (.int .u8 (q : Int)) := by rw [hq]; exact x0
  have hrest := h.behind 1 (by omega)
  rw [Nat.add_sub_cancel, Nat.add_sub_cancel] at hrest
  have hrest : BytesAt w (some ⟨g, off + 1, none⟩) m c2 (eb zs (q : Int)) := by rw [hq]; exact hrest
  have HDC := Lib.hid (show ∀ w9, Below w.heap.size w w9 → Calls Tryz.prog 88 #[.slice (some ⟨g, off + 1, none⟩) m c2, .int .i64 (q : Int)] w9 fun e w' => ∃ a1 c1, e = .returned (.tuple #[.slice a1 zs.length c1, .int .i64 0]) ∧ IntsAt .i64 w' a1 zs.length c1 zs ∧ Below w9.heap.size w9 w' from fun w9 hb9 => by
    have HD := decode_any (hrest.keep hb9 (Nat.le_refl _)) (by omega) (q : Int)
    rw [show dec (eb zs (q : Int)) (q : Int) = (zs, 0) from by rw [hq]; exact hd] at HD
    refine HD.mono ?_
    rintro e w1 ⟨a1, n1, c1, rfl, h1, hb1⟩
    have hn1 : zs.length = n1 := h1.len
    subst hn1
    exact ⟨a1, c1, rfl, h1, hb1⟩)
  have HSM := Lib.hid (show ∀ (w w' : World), Below w.heap.size w w' → ∀ j u, (fun (j_8 : Nat) (u : Value) (w : World) => match j_8 with | 6 => (∃ a1 c1, u = .tuple #[.slice a1 zs.length c1, .int .i64 0] ∧ IntsAt .i64 w a1 zs.length c1 zs) | 7 => (∃ a1 c1, u = .tuple #[.slice a1 zs.length c1, .int .i64 0] ∧ IntsAt .i64 w a1 zs.length c1 zs) | _ => (∃ a1 c1, u = .slice a1 zs.length c1 ∧ IntsAt .i64 w a1 zs.length c1 zs)) j u w → (fun (j_8 : Nat) (u : Value) (w : World) => match j_8 with | 6 => (∃ a1 c1, u = .tuple #[.slice a1 zs.length c1, .int .i64 0] ∧ IntsAt .i64 w a1 zs.length c1 zs) | 7 => (∃ a1 c1, u = .tuple #[.slice a1 zs.length c1, .int .i64 0] ∧ IntsAt .i64 w a1 zs.length c1 zs) | _ => (∃ a1 c1, u = .slice a1 zs.length c1 ∧ IntsAt .i64 w a1 zs.length c1 zs)) j u w' from fun w w' hb j u hh => by
    dsimp only at hh ⊢
    split at hh <;> (obtain ⟨a', c', e1, e2⟩ := hh; exact ⟨a', c', e1, e2.kept hb⟩))
  have hqw : IntKind.i64.wrap (q : Int) = (q : Int) := IntWalk.i64_in _ (by omega)
  have HLG := Lib.hid hg
  have hm0 : 0 < m := by omega
  have hc1 : 0 < c2 := by omega
  have hz : ¬ ((m : Int) + 1 = 0) := by omega
  have hml : m ≤ 30001 := by omega
  clear h hlen hmx hcb hd hp hm hcell hq hrest hc
  go_enter Tryz.func50, Tryz.ntmps50
  go_wp2_with fail
  have hlg : g < w.heap.size := HLG.out
  refine wp_region_fill (by kernel_rfl) (by kernel_rfl) (by kernel_rfl) (Below w.heap.size w) (FV2 (fun j_9 => match j_9 with | 0 => some (.slice (some ⟨g, off, none⟩) (m + 1) (c2 + 1)) | 1 => some (.slice (some ⟨g, off + 1, none⟩) m c2) | 2 => some (.slice (some ⟨g, off, none⟩) (m + 1) (c2 + 1)) | 3 => some (.pointer (some ⟨g, off, none⟩)) | 4 => some (.int .u8 (q : Int)) | 5 => some (.int .i64 (q : Int)) | 6 => none | 7 => none | 8 => none | 9 => some (.int .i64 0) | 10 => none | 11 => some (.int .i64 0) | _ => none) (fun (j_8 : Nat) (u : Value) (w : World) => match j_8 with | 6 => (∃ a1 c1, u = .tuple #[.slice a1 zs.length c1, .int .i64 0] ∧ IntsAt .i64 w a1 zs.length c1 zs) | 7 => (∃ a1 c1, u = .tuple #[.slice a1 zs.length c1, .int .i64 0] ∧ IntsAt .i64 w a1 zs.length c1 zs) | _ => (∃ a1 c1, u = .slice a1 zs.length c1 ∧ IntsAt .i64 w a1 zs.length c1 zs))) (Below.refl _ _).drew ?_ ?_
  · intro i9 o ho V w9 K hJ hdep hK
    have HJ := Lib.hid hJ
    simp only [fill, slotOf, List.size_toArray, List.length_cons, List.length_nil, Nat.reduceAdd, List.getElem?_toArray, List.getElem?_cons_zero, List.getElem?_cons_succ, Option.bind_some, Act.put, List.setIfInBounds_toArray, List.set_cons_zero, List.set_cons_succ] at hK ⊢
    have hin : i9 < 12 := (Array.getElem?_eq_some_iff.1 ho).1
    have hcs : i9 = 0 ∨ i9 = 1 ∨ i9 = 2 ∨ i9 = 3 ∨ i9 = 4 ∨ i9 = 5 ∨ i9 = 6 ∨ i9 = 7 ∨ i9 = 8 ∨ i9 = 9 ∨ i9 = 10 ∨ i9 = 11 := by omega
    clear hin
    rcases hcs with rfl | rfl | rfl | rfl | rfl | rfl | rfl | rfl | rfl | rfl | rfl | rfl
    · obtain rfl := Option.some.inj ho.symm
      clear hdep ho hJ
      try simp only [fill, slotOf, List.size_toArray, List.length_cons, List.length_nil, Nat.reduceAdd, List.getElem?_toArray, List.getElem?_cons_zero, List.getElem?_cons_succ, Option.bind_some, Act.put, List.setIfInBounds_toArray, List.set_cons_zero, List.set_cons_succ] at hK ⊢
      go_simp
      exact hK (.slice (some ⟨g, off, none⟩) (m + 1) (c2 + 1)) _ HJ.out rfl (fun j y h => h) _ rfl
    · obtain rfl := Option.some.inj ho.symm
      have d0 : V 0 = .slice (some ⟨g, off, none⟩) (m + 1) (c2 + 1) := hdep ⟨0, .data⟩ (by simp) rfl
      have e1 := slice_one g off m c2 hc1 w9
      clear hdep ho hJ
      try simp only [fill, slotOf, List.size_toArray, List.length_cons, List.length_nil, Nat.reduceAdd, List.getElem?_toArray, List.getElem?_cons_zero, List.getElem?_cons_succ, Option.bind_some, Act.put, List.setIfInBounds_toArray, List.set_cons_zero, List.set_cons_succ] at hK ⊢
      rw [d0] at hK ⊢
      go_simp
      exact hK (.slice (some ⟨g, off + 1, none⟩) m c2) _ HJ.out rfl (fun j y h => h) _ rfl
    · obtain rfl := Option.some.inj ho.symm
      clear hdep ho hJ
      try simp only [fill, slotOf, List.size_toArray, List.length_cons, List.length_nil, Nat.reduceAdd, List.getElem?_toArray, List.getElem?_cons_zero, List.getElem?_cons_succ, Option.bind_some, Act.put, List.setIfInBounds_toArray, List.set_cons_zero, List.set_cons_succ] at hK ⊢
      go_simp
      exact hK (.slice (some ⟨g, off, none⟩) (m + 1) (c2 + 1)) _ HJ.out rfl (fun j y h => h) _ rfl
    · obtain rfl := Option.some.inj ho.symm
      have d2 : V 2 = .slice (some ⟨g, off, none⟩) (m + 1) (c2 + 1) := hdep ⟨2, .data⟩ (by simp) rfl
      clear hdep ho hJ
      try simp only [fill, slotOf, List.size_toArray, List.length_cons, List.length_nil, Nat.reduceAdd, List.getElem?_toArray, List.getElem?_cons_zero, List.getElem?_cons_succ, Option.bind_some, Act.put, List.setIfInBounds_toArray, List.set_cons_zero, List.set_cons_succ] at hK ⊢
      rw [d2] at hK ⊢
      go_simp
      exact hK (.pointer (some ⟨g, off, none⟩)) _ HJ.out rfl (fun j y h => h) _ rfl
    · obtain rfl := Option.some.inj ho.symm
      have d3 : V 3 = .pointer (some ⟨g, off, none⟩) := hdep ⟨3, .data⟩ (by simp) rfl
      have e1 : w9.cell? ⟨g, off, none⟩ = some (.int .u8 (q : Int)) := (hJ.cell (p := ⟨g, off, none⟩) hlg).trans x0
      clear hdep ho hJ
      try simp only [fill, slotOf, List.size_toArray, List.length_cons, List.length_nil, Nat.reduceAdd, List.getElem?_toArray, List.getElem?_cons_zero, List.getElem?_cons_succ, Option.bind_some, Act.put, List.setIfInBounds_toArray, List.set_cons_zero, List.set_cons_succ] at hK ⊢
      rw [d3] at hK ⊢
      go_simp
      exact hK (.int .u8 (q : Int)) _ HJ.out rfl (fun j y h => h) _ rfl
    · obtain rfl := Option.some.inj ho.symm
      have d4 : V 4 = .int .u8 (q : Int) := hdep ⟨4, .data⟩ (by simp) rfl
      clear hdep ho hJ
      try simp only [fill, slotOf, List.size_toArray, List.length_cons, List.length_nil, Nat.reduceAdd, List.getElem?_toArray, List.getElem?_cons_zero, List.getElem?_cons_succ, Option.bind_some, Act.put, List.setIfInBounds_toArray, List.set_cons_zero, List.set_cons_succ] at hK ⊢
      rw [d4] at hK ⊢
      go_simp
      first | exact hK (.int .i64 (q : Int)) _ HJ.out rfl (fun j y h => h) _ rfl | (rw [hqw]; exact hK (.int .i64 (q : Int)) _ HJ.out rfl (fun j y h => h) _ rfl) | (simp only [hqw]; exact hK (.int .i64 (q : Int)) _ HJ.out rfl (fun j y h => h) _ rfl) | (rw [hqw] at hK; exact hK (.int .i64 (q : Int)) _ HJ.out rfl (fun j y h => h) _ rfl)
    · obtain rfl := Option.some.inj ho.symm
      have d1 : V 1 = .slice (some ⟨g, off + 1, none⟩) m c2 := hdep ⟨1, .data⟩ (by simp) rfl
      have d5 : V 5 = .int .i64 (q : Int) := hdep ⟨5, .data⟩ (by simp) rfl
      clear hdep ho hJ
      try simp only [fill, slotOf, List.size_toArray, List.length_cons, List.length_nil, Nat.reduceAdd, List.getElem?_toArray, List.getElem?_cons_zero, List.getElem?_cons_succ, Option.bind_some, Act.put, List.setIfInBounds_toArray, List.set_cons_zero, List.set_cons_succ] at hK ⊢
      rw [d1, d5] at hK ⊢
      go_simp
      refine (HDC.out w9 HJ.out).mono ?_
      rintro e w8 ⟨a1, c1, rfl, h1, hb8⟩
      exact hK (.tuple #[.slice a1 zs.length c1, .int .i64 0]) _ (HJ.out.trans (hb8.mono HJ.out.size)) ⟨a1, c1, rfl, h1⟩ (FV2.mono (HSM.out _ _ hb8)) _ rfl
    · have hoo := Option.some.inj ho.symm
      obtain ⟨a6, c6, eV6, hv6⟩ : ∃ a1 c1, V 6 = .tuple #[.slice a1 zs.length c1, .int .i64 0] ∧ IntsAt .i64 w9 a1 zs.length c1 zs := hdep ⟨6, .data⟩ (by rw [hoo]; simp) rfl
      have HV := Lib.hid hv6
      subst hoo
      clear hdep ho hJ hv6
      try simp only [fill, slotOf, List.size_toArray, List.length_cons, List.length_nil, Nat.reduceAdd, List.getElem?_toArray, List.getElem?_cons_zero, List.getElem?_cons_succ, Option.bind_some, Act.put, List.setIfInBounds_toArray, List.set_cons_zero, List.set_cons_succ] at hK ⊢
      rw [eV6] at hK ⊢
      go_simp
      exact hK (.tuple #[.slice a6 zs.length c6, .int .i64 0]) _ HJ.out ⟨a6, c6, rfl, HV.out⟩ (fun j y h => h) _ rfl
    · have hoo := Option.some.inj ho.symm
      obtain ⟨a7, c7, eV7, hv7⟩ : ∃ a1 c1, V 7 = .tuple #[.slice a1 zs.length c1, .int .i64 0] ∧ IntsAt .i64 w9 a1 zs.length c1 zs := hdep ⟨7, .data⟩ (by rw [hoo]; simp) rfl
      have HV := Lib.hid hv7
      subst hoo
      clear hdep ho hJ hv7
      try simp only [fill, slotOf, List.size_toArray, List.length_cons, List.length_nil, Nat.reduceAdd, List.getElem?_toArray, List.getElem?_cons_zero, List.getElem?_cons_succ, Option.bind_some, Act.put, List.setIfInBounds_toArray, List.set_cons_zero, List.set_cons_succ] at hK ⊢
      rw [eV7] at hK ⊢
      go_simp
      exact hK (.slice a7 zs.length c7) _ HJ.out ⟨a7, c7, rfl, HV.out⟩ (fun j y h => h) _ rfl
    · have hoo := Option.some.inj ho.symm
      obtain ⟨a7, c7, eV7, hv7⟩ : ∃ a1 c1, V 7 = .tuple #[.slice a1 zs.length c1, .int .i64 0] ∧ IntsAt .i64 w9 a1 zs.length c1 zs := hdep ⟨7, .data⟩ (by rw [hoo]; simp) rfl
      subst hoo
      clear hdep ho hJ hv7
      try simp only [fill, slotOf, List.size_toArray, List.length_cons, List.length_nil, Nat.reduceAdd, List.getElem?_toArray, List.getElem?_cons_zero, List.getElem?_cons_succ, Option.bind_some, Act.put, List.setIfInBounds_toArray, List.set_cons_zero, List.set_cons_succ] at hK ⊢
      rw [eV7] at hK ⊢
      go_simp
      exact hK (.int .i64 0) _ HJ.out rfl (fun j y h => h) _ rfl
    · have hoo := Option.some.inj ho.symm
      obtain ⟨a8, c8, eV8, hv8⟩ : ∃ a1 c1, V 8 = .slice a1 zs.length c1 ∧ IntsAt .i64 w9 a1 zs.length c1 zs := hdep ⟨8, .data⟩ (by rw [hoo]; simp) rfl
      have HV := Lib.hid hv8
      subst hoo
      clear hdep ho hJ hv8
      try simp only [fill, slotOf, List.size_toArray, List.length_cons, List.length_nil, Nat.reduceAdd, List.getElem?_toArray, List.getElem?_cons_zero, List.getElem?_cons_succ, Option.bind_some, Act.put, List.setIfInBounds_toArray, List.set_cons_zero, List.set_cons_succ] at hK ⊢
      rw [eV8] at hK ⊢
      go_simp
      exact hK (.slice a8 zs.length c8) _ HJ.out ⟨a8, c8, rfl, HV.out⟩ (fun j y h => h) _ rfl
    · obtain rfl := Option.some.inj ho.symm
      have d9 : V 9 = .int .i64 0 := hdep ⟨9, .data⟩ (by simp) rfl
      clear hdep ho hJ
      try simp only [fill, slotOf, List.size_toArray, List.length_cons, List.length_nil, Nat.reduceAdd, List.getElem?_toArray, List.getElem?_cons_zero, List.getElem?_cons_succ, Option.bind_some, Act.put, List.setIfInBounds_toArray, List.set_cons_zero, List.set_cons_succ] at hK ⊢
      rw [d9] at hK ⊢
      go_simp
      exact hK (.int .i64 0) _ HJ.out rfl (fun j y h => h) _ rfl
  · intro V w9 hJ hall
    have dL : V 11 = .int .i64 0 := hall 11 (by decide)
    have HJ9 := Lib.hid hJ
    have H10 := Lib.hid (hall 10 (by decide))
    clear hall hJ
    simp only [fill, slotOf, List.size_toArray, List.length_cons, List.length_nil, Nat.reduceAdd, List.getElem?_toArray, List.getElem?_cons_zero, List.getElem?_cons_succ, Option.bind_some, Act.put, List.setIfInBounds_toArray, List.set_cons_zero, List.set_cons_succ]
    rw [dL]
    clear dL
    obtain ⟨a1, c1, e10, h1⟩ : ∃ a1 c1, V 10 = .slice a1 zs.length c1 ∧ IntsAt .i64 w9 a1 zs.length c1 zs := H10.out
    rw [e10]
    have H1 := Lib.hid h1
    have HB1 := Lib.hid HJ9.out
    clear h1 e10 H10
    go_wp2_with fail
    go_ret
    exact ⟨a1, c1, rfl, H1.out, HB1.out⟩

set_option maxRecDepth 100000 in
set_option maxHeartbeats 4000000 in
theorem ints_any {w : World} (hT : Table w) (hO : Ordr w) {a : Option Addr} {n c : Nat} {zs : List Int} (h : BytesAt w a n c (chunk 1 (intC zs))) (hn : n ≤ 100000) (hz : zs.length ≤ 2048) (hc : chk zs 0 = 0) :
    Calls Tryz.prog 23 #[.slice a n c] w fun e w' => ∃ a' c', e = .returned (.tuple #[.slice a' zs.length c', .int .i64 0]) ∧ IntsAt .i64 w' a' zs.length c' zs ∧ Below w.heap.size w w' := by
  have HT := Lib.hid (show ∀ w', Below w.heap.size w w' → Table w' from fun w' h => hT.below h)
  have HO := Lib.hid (show ∀ w', Below w.heap.size w w' → Ordr w' from fun w' h => hO.below h)
  have HOP := open_any hT h hn
  rw [op_chunk] at HOP
  simp only at HOP
  have HOP := Lib.hid HOP
  have HX := Lib.hid h
  have HC := Lib.hid hc
  have hib := Lib.hid (intC_byte hc)
  have hil := intC_len hc
  have HRR : Calls Tryz.prog 49 #[.slice a n c, .func (.func 50) #[] #[], .func (.func 9) #[] #[]] w fun e w' => ∃ a' c', e = .returned (.tuple #[.slice a' zs.length c', .int .i64 0]) ∧ IntsAt .i64 w' a' zs.length c' zs ∧ Below w.heap.size w w' := by
    clear hT hO h hc
    go_enter Tryz.func49, Tryz.ntmps49
    go_wp2_with fail
    refine HOP.out.mono ?_
    rintro e w1 ⟨a1, m1, c1, rfl, h1, hb1, _⟩
    have HB1 := Lib.hid hb1
    have HCO := Lib.hid (content_any (HO.out w1 hb1) h1 (by omega) (by omega) hib.out)
    clear h1 hb1
    go_wp2_with fail
    refine HCO.out.mono ?_
    rintro e w2 ⟨a2, c2, rfl, h2, hb2⟩
    have HB2 := Lib.hid (HB1.out.trans (hb2.mono HB1.out.size))
    have HCF := Lib.hid (contentInts_any h2 HC.out)
    clear h2 hb2
    go_wp2_with fail
    refine HCF.out.mono ?_
    rintro e w3 ⟨a3, c3, rfl, h3, hb3⟩
    have HB3 := Lib.hid (HB2.out.trans (hb3.mono HB2.out.size))
    have H3 := Lib.hid h3
    have HPF := Lib.hid (putInts_ok (HT.out w3 HB3.out) h3 hz HC.out hib.out)
    clear h3 hb3
    go_wp2_with fail
    refine HPF.out.mono ?_
    rintro e w4 ⟨a4, m4, c4, rfl, _, h4, hb4⟩
    have HB4 := Lib.hid (HB3.out.trans (hb4.mono HB3.out.size))
    have H34 := Lib.hid (H3.out.kept hb4)
    have heq := equal_any h4 (HX.out.kept HB4.out)
    rw [beq_self_eq_true] at heq
    have HEQ := Lib.hid heq
    clear h4 hb4 heq
    go_wp2_with fail
    refine HEQ.out.mono ?_
    rintro e w5 ⟨rfl, rfl⟩
    go_wp2_with fail
    first | go_ret2 | go_ret
    exact ⟨a3, c3, rfl, H34.out, HB4.out⟩
  have HR := Lib.hid HRR
  clear hT hO h hc HRR
  go_enter Tryz.func23, Tryz.ntmps23
  go_wp2_with fail
  refine HR.out.mono ?_
  rintro e w1 ⟨a1, c1, rfl, h1, hb1⟩
  have H1 := Lib.hid h1
  have HB1 := Lib.hid hb1
  clear h1 hb1
  go_wp2_with fail
  first | go_ret2 | go_ret
  exact ⟨a1, c1, rfl, H1.out, HB1.out⟩
end Go.Proofs.YtpbijdoemdoijaaGreatDoor
end PkCa36_1
section PkCa36_2
/- A column of words read back, walked. -/
namespace Go.Proofs.YtpbijdoemdoijaaGreatDoor
open Go.RowKit BitsPlain NumsPlain CrcPlain InfPlain
set_option linter.unusedVariables false

theorem wd_ok {l : List ByteArray} (h : wdErr l = false) : l.length ≤ 2048 ∧ (∀ s ∈ l, s.size ≤ 1024) ∧ (wordsC l).length ≤ 65536 ∧ ∀ x ∈ wordsC l, x < 256 := by
  unfold wdErr at h
  simp only [Bool.or_eq_false_iff, decide_eq_false_iff_not, Bool.not_eq_false'] at h
  obtain ⟨⟨h1, h2⟩, h3⟩ := h
  have hF := fit_all h2
  exact ⟨by omega, hF, by omega, wordsC_byte (by omega) hF⟩
set_option maxRecDepth 100000 in
set_option maxHeartbeats 4000000 in
theorem colwords_any {w : World} (hT : Table w) (hO : Ordr w) {a : Option Addr} {n c : Nat} {l : List ByteArray} (h : BytesAt w a n c (chunk 2 (wordsC l))) (hn : n ≤ 100000) (hl : wdErr l = false) :
    Calls Tryz.prog 26 #[.slice a n c] w fun e w' => ∃ a' n' c', e = .returned (.tuple #[.slice a' n' c', .int .i64 0]) ∧ VecAt StrS w' a' n' c' l ∧ Below w.heap.size w w' := by
  obtain ⟨hl1, hl2, hl3, hl4⟩ := wd_ok hl
  have HT := Lib.hid (show ∀ w', Below w.heap.size w w' → Table w' from fun w' h => hT.below h)
  have HO := Lib.hid (show ∀ w', Below w.heap.size w w' → Ordr w' from fun w' h => hO.below h)
  have HOP := open_any hT h hn
  rw [op_chunk] at HOP
  simp only at HOP
  have HOP := Lib.hid HOP
  have HX := Lib.hid h
  have HTE := Lib.hid hl
  have HL1 := Lib.hid hl1
  have HL2 := Lib.hid hl2
  have HL3 := Lib.hid hl3
  have HL4 := Lib.hid hl4
  clear hl1 hl2 hl3 hl4 hl
  have HRR : Calls Tryz.prog 53 #[.slice a n c, .func (.func 54) #[] #[], .func (.func 14) #[] #[]] w fun e w' => ∃ a' n' c', e = .returned (.tuple #[.slice a' n' c', .int .i64 0]) ∧ VecAt StrS w' a' n' c' l ∧ Below w.heap.size w w' := by
    clear hT hO h
    go_enter Tryz.func53, Tryz.ntmps53
    go_wp2_with fail
    refine HOP.out.mono ?_
    rintro e w1 ⟨a1, m1, c1, rfl, h1, hb1, _⟩
    have HB1 := Lib.hid hb1
    have HCO := Lib.hid (content_any (HO.out w1 hb1) h1 (by omega) HL3.out HL4.out)
    clear h1 hb1
    go_wp2_with fail
    refine HCO.out.mono ?_
    rintro e w2 ⟨a2, c2, rfl, h2, hb2⟩
    have HB2 := Lib.hid (HB1.out.trans (hb2.mono HB1.out.size))
    have HCF := contentWords_any h2 (by have := HL3.out; omega)
    rw [rdW_of HL1.out HL2.out] at HCF
    have HCF := Lib.hid HCF
    clear h2 hb2
    go_wp2_with fail
    refine HCF.out.mono ?_
    rintro e w3 ⟨a3, n3, c3, rfl, h3, hb3⟩
    have HB3 := Lib.hid (HB2.out.trans (hb3.mono HB2.out.size))
    have H3 := Lib.hid h3
    have HPF := Lib.hid (putwords_any (HT.out w3 HB3.out) h3)
    clear h3 hb3
    go_wp2_with fail
    refine HPF.out.mono ?_
    rintro e w4 ⟨he, hb4⟩
    rw [if_neg (by rw [HTE.out]; simp)] at he
    obtain ⟨a4, m4, c4, rfl, _, h4⟩ := he
    have HB4 := Lib.hid (HB3.out.trans (hb4.mono HB3.out.size))
    have H34 := Lib.hid (H3.out.kept hb4)
    have heq := equal_any h4 (HX.out.kept HB4.out)
    rw [beq_self_eq_true] at heq
    have HEQ := Lib.hid heq
    clear h4 hb4 heq
    go_wp2_with fail
    refine HEQ.out.mono ?_
    rintro e w5 ⟨rfl, rfl⟩
    go_wp2_with fail
    first | go_ret2 | go_ret
    exact ⟨a3, n3, c3, rfl, H34.out, HB4.out⟩
  have HR := Lib.hid HRR
  clear hT hO h HRR
  go_enter Tryz.func26, Tryz.ntmps26
  go_wp2_with fail
  refine HR.out.mono ?_
  rintro e w1 ⟨a1, n1, c1, rfl, h1, hb1⟩
  have H1 := Lib.hid h1
  have HB1 := Lib.hid hb1
  clear h1 hb1
  go_wp2_with fail
  first | go_ret2 | go_ret
  exact ⟨a1, n1, c1, rfl, H1.out, HB1.out⟩
end Go.Proofs.YtpbijdoemdoijaaGreatDoor
end PkCa36_2
