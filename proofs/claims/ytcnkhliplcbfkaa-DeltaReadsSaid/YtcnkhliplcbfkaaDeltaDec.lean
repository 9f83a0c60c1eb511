/- Package delta's Decode, walked. -/
import Derived.Test.YtcnkhliplcbfkaaDeltaRef3
namespace Go.Proofs.Ytcnkhliplcbfkaa
open Go.RowKit NumsPlain DeltaPlain
set_option linter.unusedVariables false

set_option maxRecDepth 100000 in
set_option maxHeartbeats 1000000 in
theorem foretold_any {w : World} {a : Option Addr} {n c : Nat} {zs : List Int} (h : IntsAt .i64 w a n c zs) (hb : ∀ x ∈ zs, -1152921504606846976 ≤ x ∧ x ≤ 1152921504606846976) (way : Int) (h0 : 0 ≤ way) (h2 : way ≤ 2) :
    Calls Try.prog 33 #[.slice a n c, .int .i64 way] w fun e w' => e = .returned (.int .i64 (fore zs way)) ∧ ∃ m, w' = w.drewN m := by
  have hlen := h.len
  have hcap := h.cap
  have hcm := h.capm
  have hw : way = 0 ∨ way = 1 ∨ way = 2 := by omega
  by_cases hn0 : n = 0
  · have HF := Lib.hid (show fore zs way = 0 by unfold fore; rw [if_pos (.inr (by omega))])
    subst hn0
    clear h hlen hb h0 h2
    rcases hw with rfl | rfl | rfl
    all_goals
      go_enter Try.func33, Try.ntmps33
      go_wp2_with fail
      go_ret
      rw [HF.out]
      exact ⟨rfl, 0, rfl⟩
  · obtain ⟨j, rfl⟩ : ∃ j, n = j + 1 := ⟨n - 1, by omega⟩
    obtain ⟨b, off, rfl, hlt, hcell⟩ := h.cells (by omega)
    obtain ⟨x, hx⟩ : ∃ x, x = zs.getD j 0 := ⟨_, rfl⟩
    have hcx := hcell j (by omega)
    rw [← hx] at hcx
    have bx : -1152921504606846976 ≤ x ∧ x ≤ 1152921504606846976 := by rw [hx]; exact getD_mem_or hb (by omega) _
    obtain ⟨bx1, bx2⟩ := bx
    have hnz : ((j : Int) + 1 == 0) = false := by rw [beq_eq_false_iff_ne]; omega
    rcases hw with rfl | rfl | rfl
    · have HF := Lib.hid (show fore zs 0 = 0 by unfold fore; rw [if_pos (.inl (by omega))])
      clear h hlen hb h0 h2 hcell hx hcx
      go_enter Try.func33, Try.ntmps33
      go_wp2_with fail
      go_ret
      rw [HF.out]
      exact ⟨rfl, 0, rfl⟩
    · have HF := Lib.hid (show fore zs 1 = x by unfold fore; rw [if_neg (by omega), if_pos (.inl rfl), hx, hlen]; rfl)
      clear h hlen hb h0 h2 hcell hx
      go_enter Try.func33, Try.ntmps33
      go_wp2_with fail
      go_ret
      rw [HF.out]
      exact ⟨rfl, 0, rfl⟩
    · by_cases hj0 : j = 0
      · subst hj0
        have HF := Lib.hid (show fore zs 2 = x by unfold fore; rw [if_neg (by omega), if_pos (.inr (by omega)), hx, hlen])
        rw [Nat.add_zero] at hcx
        clear h hlen hb h0 h2 hcell hx hn0
        go_enter Try.func33, Try.ntmps33
        go_wp2_with fail
        go_ret
        rw [HF.out]
        exact ⟨rfl, 0, rfl⟩
      · obtain ⟨i, rfl⟩ : ∃ i, j = i + 1 := ⟨j - 1, by omega⟩
        obtain ⟨y, hy⟩ : ∃ y, y = zs.getD i 0 := ⟨_, rfl⟩
        have hcy := hcell i (by omega)
        rw [← hy] at hcy
        have by_ : -1152921504606846976 ≤ y ∧ y ≤ 1152921504606846976 := by rw [hy]; exact getD_mem_or hb (by omega) _
        obtain ⟨by1, by2⟩ := by_
        have HF := Lib.hid (show fore zs 2 = x + (x - y) by
          unfold fore; rw [if_neg (by omega), if_neg (by omega), hx, hy, hlen]
          simp only [show i + 1 + 1 - 1 = i + 1 from by omega, show i + 1 + 1 - 2 = i from by omega]
          omega)
        have hn1 : ((i : Int) + 1 + 1 == 1) = false := by rw [beq_eq_false_iff_ne]; omega
        clear h hlen hb h0 h2 hcell hx hn0 hj0 hy
        go_enter Try.func33, Try.ntmps33
        go_wp2_with fail
        go_quiet (fail)
        go_wp2_with fail
        go_ret
        rw [HF.out]
        exact ⟨rfl, _, rfl⟩

theorem uu_ok_le {l : List Nat} (hb : ∀ x ∈ l, x < 256) (h : (uu 0 0 l).2.2 = 0) : (uu 0 0 l).2.1 ≤ l.length := by
  obtain ⟨k, n, hk, hl, _⟩ := uu_conv l 0 0 (uu 0 0 l).1 (uu 0 0 l).2.1 hb (Prod.ext rfl (Prod.ext rfl h))
  omega

/-- the state of the numbers read: what is left to do comes to what there was to do at first -/
structure Left (d : List Int × List Nat × Nat) (way : Int) (xs : List Nat) (c at_ : Nat) (acc : List Int) : Prop where
  eq : d = dls way c (xs.drop at_) acc
  bd : ∀ x ∈ acc, -1152921504606846976 ≤ x ∧ x ≤ 1152921504606846976

/-- what is told behind the numbers -/
def fin4 (d : List Int × List Nat × Nat) : List Int × Nat := if d.2.2 ≠ 0 then ([], d.2.2) else if d.2.1 ≠ [] then ([], 5) else (d.1, 0)
theorem fin4_err {way : Int} {ys : List Nat} {acc : List Int} {c : Nat} (h : (uu 0 0 ys).2.2 ≠ 0) : fin4 (dls way (c + 1) ys acc) = ([], (uu 0 0 ys).2.2) := by
  simp only [dls, fin4, if_pos h]
theorem fin4_rng {way : Int} {ys : List Nat} {acc : List Int} {c : Nat} (h : (uu 0 0 ys).2.2 = 0) (hr : inB (fore acc way + zag (uu 0 0 ys).1) = false) : fin4 (dls way (c + 1) ys acc) = ([], 2) := by
  have e : dls way (c + 1) ys acc = ([], [], 2) := by
    simp only [dls]
    rw [if_neg (fun hh => hh h), if_pos hr]
  rw [e]
  rfl
theorem dls_go {way : Int} {ys : List Nat} {acc : List Int} {c : Nat} (h : (uu 0 0 ys).2.2 = 0) (hr : inB (fore acc way + zag (uu 0 0 ys).1) = true) : dls way (c + 1) ys acc = dls way c (ys.drop (uu 0 0 ys).2.1) (acc ++ [fore acc way + zag (uu 0 0 ys).1]) := by
  simp only [dls]
  rw [if_neg (fun hh => hh h), if_neg (by rw [hr]; simp)]

set_option maxRecDepth 100000 in
set_option maxHeartbeats 4000000 in
theorem decode_any {w : World} {a : Option Addr} {n c : Nat} {xs : List Nat} (h : BytesAt w a n c xs) (hn : n ≤ 100000) (way : Int) :
    Calls Try.prog 18 #[.slice a n c, .int .i64 way] w fun e w' => ∃ a' n' c', e = .returned (.tuple #[.slice a' n' c', .int .i64 (((dec xs way).2 : Nat) : Int)]) ∧ IntsAt .i64 w' a' n' c' (dec xs way).1 ∧ Below w.heap.size w w' := by
  obtain ⟨i0, hi, hz0, hz1, hz2⟩ := info_parts info_i64
  have hemp : ∀ w, IntsAt .i64 w none 0 0 [] := fun w => IntsAt.empty _ _ _ _ (by omega) (fun _ => rfl)
  have HEM := Lib.hid hemp
  have HU := Lib.hid (u_any h (0 : Int))
  have hr0 : ru xs (0 : Int) = uu 0 0 xs := by rw [show (0 : Int) = ((0 : Nat) : Int) from rfl, ru_nat, List.drop_zero]
  rw [hr0] at HU
  have hlt64 := ru_lt xs (0 : Int)
  rw [hr0] at hlt64
  have hbyte := h.byte
  have hlen := h.len
  have hdec : dec xs way = if known way = false then ([], 1) else if (uu 0 0 xs).2.2 ≠ 0 then ([], (uu 0 0 xs).2.2) else if 2048 < (uu 0 0 xs).1 then ([], 5) else fin4 (dls way (uu 0 0 xs).1 (xs.drop (uu 0 0 xs).2.1) []) := rfl
  have hle0 := uu_ok_le (l := xs) hbyte
  obtain ⟨u, hu⟩ : ∃ u, u = uu 0 0 xs := ⟨_, rfl⟩
  rw [← hu] at HU hlt64 hdec hle0
  obtain ⟨cnt, at0, er⟩ := u
  simp only at hlt64 hdec hle0
  have HH := Lib.hid h
  have HD := Lib.hid hdec
  have HBY := Lib.hid hbyte
  have HL := Lib.hid hlen
  clear h hr0 hbyte hlen hdec hemp hu
  unfold ruV at HU
  simp only at HU
  cases hk : known way with
  | false =>
    have HV := Lib.hid (show dec xs way = ([], 1) by rw [HD.out, if_pos hk])
    have HK := Lib.hid hk
    clear hk hle0 hlt64
    go_enter Try.func18, Try.ntmps18
    go_wp2_with fail
    refine (known_any way w).mono ?_
    rintro e w1 ⟨rfl, rfl⟩
    rw [HK.out]
    go_wp2_with fail
    go_ret2
    rw [HV.out]
    exact ⟨none, 0, 0, rfl, HEM.out _, Below.refl _ _⟩
  | true =>
    have HK := Lib.hid hk
    have hkk := (known_iff way).1 hk
    obtain ⟨hk0, hk2⟩ := hkk
    have hd2 : dec xs way = if er ≠ 0 then ([], er) else if 2048 < cnt then ([], 5) else fin4 (dls way cnt (xs.drop at0) []) := by
      rw [HD.out, if_neg (by rw [hk]; simp)]
    have HD2 := Lib.hid hd2
    clear hk hd2 HD
    by_cases her : er = 0
    · subst her
      by_cases hcb : 2048 < cnt
      · have HV := Lib.hid (show dec xs way = ([], 5) by rw [HD2.out, if_neg (by omega), if_pos hcb])
        have hcb2 : (2048 : Int) < (cnt : Int) := by omega
        clear hle0
        go_enter Try.func18, Try.ntmps18
        go_wp2_with fail
        refine (known_any way w).mono ?_
        rintro e w1 ⟨rfl, rfl⟩
        rw [HK.out]
        go_wp2_with fail
        refine HU.out.mono ?_
        rintro e w1 ⟨rfl, rfl⟩
        go_wp2_with fail
        go_ret2
        rw [HV.out]
        exact ⟨none, 0, 0, rfl, HEM.out _, Below.refl _ _⟩
      · have hcb2 : (cnt : Int) ≤ 2048 := by omega
        obtain ⟨d, hd⟩ : ∃ d, d = dls way cnt (xs.drop at0) [] := ⟨_, rfl⟩
        have HV := Lib.hid (show dec xs way = fin4 d by rw [HD2.out, if_neg (by omega), if_neg hcb, hd])
        have hat0 : at0 ≤ n := by have := hle0 rfl; have := HL.out; omega
        have HL0 : Left d way xs cnt at0 [] := ⟨hd, fun x hx => by cases hx⟩
        clear hle0 hd hcb
        go_enter Try.func18, Try.ntmps18
        go_wp2_with fail
        refine (known_any way w).mono ?_
        rintro e w1 ⟨rfl, rfl⟩
        rw [HK.out]
        go_wp2_with fail
        refine HU.out.mono ?_
        rintro e w1 ⟨rfl, rfl⟩
        go_wp2_with fail
        go_loopw [7, 9, 29] (fun s7 s9 s29 wr => ∃ (k at_ : Nat) (acc : List Int), k ≤ cnt ∧ at_ ≤ n ∧ s29 = .int .u64 k ∧ s7 = .int .i64 at_ ∧ Left d way xs (cnt - k) at_ acc ∧ Hid (wr.ownsRow w.heap.size 2 1 s9 k (iv .i64 acc)) ∧ Hid (Below w.heap.size w wr)) (fun _ _ s29 _ => cnt - (intOf s29).toNat)
        case atStart => exact ⟨0, at0, [], by omega, hat0, rfl, rfl, HL0, Lib.hid (World.ownsRow_nil _ _ _ _), Lib.hid (Below.refl _ _)⟩
        case round =>
          obtain ⟨k, at_, acc, hk, hat, rfl, rfl, hleft, HO, HB⟩ := hrel
          rename World => wr
          by_cases hkc : k < cnt
          · obtain ⟨c', hc'⟩ : ∃ c', cnt - k = c' + 1 := ⟨cnt - k - 1, by omega⟩
            have heq := hleft.eq
            have hbd := hleft.bd
            rw [hc'] at heq
            have hii := i_any (HH.out.kept HB.out) (at_ : Int)
            rw [ru_nat] at hii
            have hle := uu_ok_le (l := xs.drop at_) (fun x hx => HBY.out x (List.mem_of_mem_drop hx))
            have hz64 := ru_lt xs (at_ : Int)
            rw [ru_nat] at hz64
            obtain ⟨a9, c9, rfl, hi9, _⟩ := IntsAt.ofOwn HO.out (fun z hz => wf_i64 (by have := hbd z hz; omega))
            have hfo := foretold_any hi9 hbd way hk0 hk2
            have hfb := fore_bound hbd way
            have herr := fin4_err (way := way) (ys := xs.drop at_) (acc := acc) (c := c')
            have hrng := fin4_rng (way := way) (ys := xs.drop at_) (acc := acc) (c := c')
            have hgo := dls_go (way := way) (ys := xs.drop at_) (acc := acc) (c := c')
            rw [← heq] at herr hrng hgo
            rw [List.drop_drop] at hgo
            have hdl : (xs.drop at_).length = n - at_ := by rw [List.length_drop, HL.out]
            rw [hdl] at hle
            obtain ⟨r, hr⟩ : ∃ r, r = uu 0 0 (xs.drop at_) := ⟨_, rfl⟩
            rw [← hr] at hii hle hz64 herr hrng hgo
            obtain ⟨z, sz, er⟩ := r
            obtain ⟨f, hf⟩ : ∃ f, f = fore acc way := ⟨_, rfl⟩
            rw [← hf] at hfo hfb hrng hgo
            simp only at hii hle hz64 herr hrng hgo
            have HII := Lib.hid hii
            have HFO := Lib.hid hfo
            have hzl := zag_lo hz64
            have hzh := zag_hi hz64
            obtain ⟨x, hx⟩ : ∃ x, x = zag z := ⟨_, rfl⟩
            rw [← hx] at HII hrng hgo hzl hzh
            obtain ⟨hfb1, hfb2⟩ := hfb
            by_cases he : er = 0
            · subst he
              have hsz := hle rfl
              have hz0' : ((0 : Int) != 0) = false := by decide
              by_cases hlo : x < -1152921504606846976 - f
              · have HV2 := Lib.hid (show dec xs way = ([], 2) by rw [HV.out]; exact hrng rfl ((inB_no _).2 (.inl (by omega))))
                clear hleft heq hbd hii hle hz64 hfo herr hrng hgo hdl hr hf hx hi9 hc'
                go_wp2_with fail
                refine HII.out.mono ?_
                rintro e w1 ⟨rfl, rfl⟩
                go_wp2_with fail
                refine HFO.out.mono ?_
                rintro e w1 ⟨rfl, m, rfl⟩
                go_wp2_with fail
                go_ret2
                rw [HV2.out]
                exact ⟨none, 0, 0, rfl, HEM.out _, HB.out.trans ⟨rfl, rfl, rfl, Nat.le_refl _, fun _ _ => rfl⟩⟩
              · by_cases hhi : 1152921504606846976 - f < x
                · have HV2 := Lib.hid (show dec xs way = ([], 2) by rw [HV.out]; exact hrng rfl ((inB_no _).2 (.inr (by omega))))
                  have hlo' : -1152921504606846976 - f ≤ x := by omega
                  clear hleft heq hbd hii hle hz64 hfo herr hrng hgo hdl hr hf hx hi9 hc' hlo
                  go_wp2_with fail
                  refine HII.out.mono ?_
                  rintro e w1 ⟨rfl, rfl⟩
                  go_wp2_with fail
                  refine HFO.out.mono ?_
                  rintro e w1 ⟨rfl, m, rfl⟩
                  go_wp2_with fail
                  go_ret2
                  rw [HV2.out]
                  exact ⟨none, 0, 0, rfl, HEM.out _, HB.out.trans ⟨rfl, rfl, rfl, Nat.le_refl _, fun _ _ => rfl⟩⟩
                · have hlo' : -1152921504606846976 - f ≤ x := by omega
                  have hhi' : x ≤ 1152921504606846976 - f := by omega
                  have hnew : Left d way xs (cnt - (k + 1)) (at_ + sz) (acc ++ [f + x]) := by
                    refine ⟨?_, ?_⟩
                    · rw [show cnt - (k + 1) = c' from by omega]
                      exact hgo rfl ((inB_iff _).2 ⟨by omega, by omega⟩)
                    · intro y hy
                      rcases List.mem_append.1 hy with g | g
                      · exact hbd y g
                      · simp at g; omega
                  have hs1 : -1152921504606846976 ≤ f + x := by omega
                  have hs2 : f + x ≤ 1152921504606846976 := by omega
                  clear hleft heq hbd hii hle hz64 hfo herr hrng hgo hdl hr hf hx hi9 hc' hlo hhi
                  go_wp2_with fail
                  refine HII.out.mono ?_
                  rintro e w1 ⟨rfl, rfl⟩
                  go_wp2_with fail
                  refine HFO.out.mono ?_
                  rintro e w1 ⟨rfl, m, rfl⟩
                  have hgo := own_below HO.out (show Below wr.heap.size wr (wr.drewN m) from ⟨rfl, rfl, rfl, Nat.le_refl _, fun _ _ => rfl⟩)
                  have HB1 := Lib.hid (show Below w.heap.size w (wr.drewN m) from HB.out.trans ⟨rfl, rfl, rfl, Nat.le_refl _, fun _ _ => rfl⟩)
                  have hbs := HB1.out.size
                  go_wp2_with (at_builtin; refine wpList_append_own _ rfl (.tmp 54) (.tmp 58) 22 rfl w.heap.size 2 i0 (.int .i64 0) 1 8 Try.underlying22 hi hz0 hz1 hz2 rfl (by decide) _ _ _ rfl (hgo.alloc _) ⟨(wr.drewN m).heap.size, 0, none⟩ 1 1 [.int .i64 (f + x)] rfl rfl (one_src _ _ _) (one_oneCell rfl) (by unfold maxLen; omega) (by omega) (by simp at hbs ⊢; omega) ?_)
                  intro v4 w4 hown4 hg4 _
                  have HO4 := Lib.hid (show w4.ownsRow w.heap.size 2 1 v4 (k + 1) (iv .i64 (acc ++ [f + x])) by rw [iv_append]; exact hown4)
                  have HB4 := Lib.hid ((HB1.out.alloc hbs _).grown hg4 (by simp at hbs ⊢; omega) (fun j hj => (hgo.lt j hj).1))
                  clear hown4 hg4 hgo
                  go_wp2_with fail
                  go_roundw
                  case rel => exact ⟨k + 1, at_ + sz, acc ++ [f + x], by omega, by omega, by go_num, by go_num, hnew, HO4, HB4⟩
                  case measure => simp [intOf]; omega
            · have HV2 := Lib.hid (show dec xs way = ([], er) by rw [HV.out]; exact herr he)
              have he1 : ((er : Int) != 0) = true := by rw [bne_iff_ne]; omega
              clear hleft heq hbd hii hle hz64 hfo herr hrng hgo hdl hr hf hx hi9 hc' he
              go_wp2_with fail
              refine HII.out.mono ?_
              rintro e w1 ⟨rfl, rfl⟩
              go_wp2_with fail
              go_ret2
              rw [HV2.out]
              exact ⟨none, 0, 0, rfl, HEM.out _, HB.out⟩
          · obtain rfl : k = cnt := by omega
            have heq := hleft.eq
            rw [Nat.sub_self] at heq
            have hd3 : d = (acc, xs.drop at_, 0) := heq
            have hbd := hleft.bd
            obtain ⟨a9, c9, rfl, hi9, _⟩ := IntsAt.ofOwn HO.out (fun z hz => wf_i64 (by have := hbd z hz; omega))
            have HI9 := Lib.hid hi9
            by_cases hend : (at_ : Int) < (n : Int)
            · have HV2 := Lib.hid (show dec xs way = ([], 5) by
                rw [HV.out, hd3]
                unfold fin4
                rw [if_neg (by simp), if_pos]
                intro e
                have := congrArg List.length e
                rw [List.length_drop, HL.out] at this
                simp at this; omega)
              clear hleft heq hd3 hbd hi9
              go_wp2_with fail
              go_ret2
              rw [HV2.out]
              exact ⟨none, 0, 0, rfl, HEM.out _, HB.out⟩
            · have HV2 := Lib.hid (show dec xs way = (acc, 0) by
                rw [HV.out, hd3]
                unfold fin4
                have hnil : xs.drop at_ = [] := List.drop_eq_nil_of_le (by rw [HL.out]; omega)
                rw [if_neg (by simp), if_neg (fun hh => hh hnil)])
              have hend2 : (n : Int) ≤ (at_ : Int) := by omega
              clear hleft heq hd3 hbd hi9 hend
              go_wp2_with fail
              go_ret2
              rw [HV2.out]
              exact ⟨a9, k, c9, rfl, HI9.out, HB.out⟩
    · have HV := Lib.hid (show dec xs way = ([], er) by rw [HD2.out, if_pos her])
      have he1 : ((er : Int) != 0) = true := by rw [bne_iff_ne]; omega
      clear hle0 her
      go_enter Try.func18, Try.ntmps18
      go_wp2_with fail
      refine (known_any way w).mono ?_
      rintro e w1 ⟨rfl, rfl⟩
      rw [HK.out]
      go_wp2_with fail
      refine HU.out.mono ?_
      rintro e w1 ⟨rfl, rfl⟩
      go_wp2_with fail
      go_ret2
      rw [HV.out]
      exact ⟨none, 0, 0, rfl, HEM.out _, Below.refl _ _⟩
end Go.Proofs.Ytcnkhliplcbfkaa
