/- The document's Decode of rows, walked. -/
import Derived.Test.YtcnkhliplcbfkaaDeltaDec
namespace Go.Proofs.Ytcnkhliplcbfkaa
open Go.RowKit NumsPlain DeltaPlain
set_option linter.unusedVariables false

set_option maxRecDepth 100000 in
set_option maxHeartbeats 8000000 in
theorem rdecode_0 {w : World} {a : Option Addr} {n c : Nat} {xs : List Nat} (h : BytesAt w a n c xs) (hn : n ≤ 100000) :
    Calls Try.prog 19 #[.slice a n c, .int .i64 0] w fun e w' => ∃ a' n' c', e = .returned (.tuple #[.slice a' n' c', .int .i64 (((dec xs 0).2 : Nat) : Int)]) ∧ IntsAt .i64 w' a' n' c' (dec xs 0).1 ∧ Below w.heap.size w w' := by
  obtain ⟨i0, hi, hz0, hz1, hz2⟩ := info_parts info_i64
  have hemp : ∀ w, IntsAt .i64 w none 0 0 [] := fun w => IntsAt.empty _ _ _ _ (by omega) (fun _ => rfl)
  have HEM := Lib.hid hemp
  have HU := Lib.hid (ru_any h (0 : Int))
  have hr0 : ru xs (0 : Int) = uu 0 0 xs := by rw [show (0 : Int) = ((0 : Nat) : Int) from rfl, ru_nat, List.drop_zero]
  rw [hr0] at HU
  have hlt64 := ru_lt xs (0 : Int)
  rw [hr0] at hlt64
  have hbyte := h.byte
  have hlen := h.len
  have hdec : dec xs 0 = if (uu 0 0 xs).2.2 ≠ 0 then ([], (uu 0 0 xs).2.2) else if 2048 < (uu 0 0 xs).1 then ([], 5) else fin4 (dls 0 (uu 0 0 xs).1 (xs.drop (uu 0 0 xs).2.1) []) := rfl
  have hle0 := uu_ok_le (l := xs) hbyte
  obtain ⟨u, hu⟩ : ∃ u, u = uu 0 0 xs := ⟨_, rfl⟩
  rw [← hu] at HU hlt64 hdec hle0
  obtain ⟨cnt, at0, er⟩ := u
  simp only at hlt64 hdec hle0
  have HH := Lib.hid h
  have HD2 := Lib.hid hdec
  have HBY := Lib.hid hbyte
  have HL := Lib.hid hlen
  clear h hr0 hbyte hlen hdec hemp hu
  unfold ruV at HU
  simp only at HU
  by_cases her : er = 0
  · subst her
    by_cases hcb : 2048 < cnt
    · have HV := Lib.hid (show dec xs 0 = ([], 5) by rw [HD2.out, if_neg (by omega), if_pos hcb])
      have hcb2 : (2048 : Int) < (cnt : Int) := by omega
      clear hle0
      go_enter Try.func19, Try.ntmps19
      go_wp2_with fail
      refine HU.out.mono ?_
      rintro e w1 ⟨rfl, rfl⟩
      go_wp2_with fail
      go_ret2
      rw [HV.out]
      exact ⟨none, 0, 0, rfl, HEM.out _, Below.refl _ _⟩
    · have hcb2 : (cnt : Int) ≤ 2048 := by omega
      obtain ⟨d, hd⟩ : ∃ d, d = dls 0 cnt (xs.drop at0) [] := ⟨_, rfl⟩
      have HV := Lib.hid (show dec xs 0 = fin4 d by rw [HD2.out, if_neg (by omega), if_neg hcb, hd])
      have hat0 : at0 ≤ n := by have := hle0 rfl; have := HL.out; omega
      have HL0 : Left d 0 xs cnt at0 [] := ⟨hd, fun x hx => by cases hx⟩
      have hown0 := World.ownsRow_lit (base := w.heap.size) (e := 2) (size := 1) w #[] 0 (Nat.le_refl _) (by unfold maxLen; omega) rfl
      have HO0 := Lib.hid (show (w.alloc (.cells #[] 2)).ownsRow w.heap.size 2 1 (.slice (some ⟨w.heap.size, 0, none⟩) 0 0) 0 (iv .i64 []) from hown0)
      have HB0 := Lib.hid ((Below.refl w.heap.size w).alloc (Nat.le_refl _) (.cells #[] 2))
      clear hle0 hd hcb hown0
      go_enter Try.func19, Try.ntmps19
      go_wp2_with fail
      refine HU.out.mono ?_
      rintro e w1 ⟨rfl, rfl⟩
      go_wp2_with fail
      go_loopw [7, 9, 10] (fun s7 s9 s10 wr => ∃ (k at_ : Nat) (acc : List Int), k ≤ cnt ∧ at_ ≤ n ∧ s10 = .int .i64 k ∧ s7 = .int .i64 at_ ∧ Left d 0 xs (cnt - k) at_ acc ∧ Hid (wr.ownsRow w.heap.size 2 1 s9 k (iv .i64 acc)) ∧ Hid (Below w.heap.size w wr)) (fun _ _ s10 _ => cnt - (intOf s10).toNat)
      case atStart => exact ⟨0, at0, [], by omega, hat0, rfl, rfl, HL0, HO0, HB0⟩
      case round =>
        obtain ⟨k, at_, acc, hk, hat, rfl, rfl, hleft, HO, HB⟩ := hrel
        rename World => wr
        by_cases hkc : k < cnt
        · obtain ⟨c', hc'⟩ : ∃ c', cnt - k = c' + 1 := ⟨cnt - k - 1, by omega⟩
          have heq := hleft.eq
          have hbd := hleft.bd
          rw [hc'] at heq
          have hii := ru_any (HH.out.kept HB.out) (at_ : Int)
          rw [ru_nat] at hii
          have hle := uu_ok_le (l := xs.drop at_) (fun x hx => HBY.out x (List.mem_of_mem_drop hx))
          have hz64 := ru_lt xs (at_ : Int)
          rw [ru_nat] at hz64
          obtain ⟨a9, c9, rfl, hi9, _⟩ := IntsAt.ofOwn HO.out (fun z hz => wf_i64 (by have := hbd z hz; omega))
          have hacc : acc.length = k := hi9.len
          have hfb := fore_bound hbd 0
          have herr := fin4_err (way := 0) (ys := xs.drop at_) (acc := acc) (c := c')
          have hrng := fin4_rng (way := 0) (ys := xs.drop at_) (acc := acc) (c := c')
          have hgo := dls_go (way := 0) (ys := xs.drop at_) (acc := acc) (c := c')
          rw [← heq] at herr hrng hgo
          rw [List.drop_drop] at hgo
          have hdl : (xs.drop at_).length = n - at_ := by rw [List.length_drop, HL.out]
          rw [hdl] at hle
          obtain ⟨r, hr⟩ : ∃ r, r = uu 0 0 (xs.drop at_) := ⟨_, rfl⟩
          rw [← hr] at hii hle hz64 herr hrng hgo
          obtain ⟨z, sz, er⟩ := r
          simp only at hii hle hz64 herr hrng hgo
          have HII := Lib.hid hii
          unfold ruV at HII
          simp only at HII
          have HZG := Lib.hid (fun w => rzag_any z hz64 w)
          have hzl := zag_lo hz64
          have hzh := zag_hi hz64
          obtain ⟨x, hx⟩ : ∃ x, x = zag z := ⟨_, rfl⟩
          rw [← hx] at HZG hrng hgo hzl hzh
          by_cases he : er = 0
          · subst he
            have hsz := hle rfl
            have hz0' : ((0 : Int) != 0) = false := by decide
            have hnew : inB (fore acc 0 + x) = true → Left d 0 xs (cnt - (k + 1)) (at_ + sz) (acc ++ [fore acc 0 + x]) := fun hin => by
              refine ⟨?_, ?_⟩
              · rw [show cnt - (k + 1) = c' from by omega]
                exact hgo rfl hin
              · intro y hy
                rcases List.mem_append.1 hy with g | g
                · exact hbd y g
                · have := (inB_iff _).1 hin
                  simp at g; omega
            have hrng2 : inB (fore acc 0 + x) = false → dec xs 0 = ([], 2) := fun hin => by rw [HV.out]; exact hrng rfl hin
            have HNEW := Lib.hid hnew
            have HRNG := Lib.hid hrng2
            clear hleft heq hii hle hz64 herr hrng hgo hdl hr hx hc' hnew hrng2
            have hf : fore acc 0 = 0 := by unfold fore; rw [if_pos (by omega)]
            rw [hf] at HNEW HRNG hfb
            rw [Int.zero_add] at HNEW HRNG
            clear hf
            clear hacc
            obtain ⟨hfb1, hfb2⟩ := hfb
            have hfb := True.intro
            by_cases hhi : 1152921504606846976 - (0) < x
            · have HV2 := Lib.hid (HRNG.out ((inB_no _).2 (.inr (by omega))))
              clear hbd hfb hi9
              go_wp2_with fail
              refine HII.out.mono ?_
              rintro e w1 ⟨rfl, rfl⟩
              go_wp2_with fail
              refine (HZG.out _).mono ?_
              rintro e w1 ⟨rfl, rfl⟩
              go_wp2_with fail
              go_ret2
              rw [HV2.out]
              exact ⟨none, 0, 0, rfl, HEM.out _, HB.out⟩
            · have hhi' : x ≤ 1152921504606846976 - (0) := by omega
              clear hhi
              by_cases hlo : x < -1152921504606846976 - (0)
              · have HV2 := Lib.hid (HRNG.out ((inB_no _).2 (.inl (by omega))))
                clear hbd hfb hi9
                go_wp2_with fail
                refine HII.out.mono ?_
                rintro e w1 ⟨rfl, rfl⟩
                go_wp2_with fail
                refine (HZG.out _).mono ?_
                rintro e w1 ⟨rfl, rfl⟩
                go_wp2_with fail
                go_ret2
                rw [HV2.out]
                exact ⟨none, 0, 0, rfl, HEM.out _, HB.out⟩
              · have hlo' : -1152921504606846976 - (0) ≤ x := by omega
                have hn := HNEW.out ((inB_iff _).2 ⟨by omega, by omega⟩)
                have hs1 : -1152921504606846976 ≤ x := by omega
                have hs2 : x ≤ 1152921504606846976 := by omega
                clear hlo hbd hfb hi9
                go_wp2_with fail
                refine HII.out.mono ?_
                rintro e w1 ⟨rfl, rfl⟩
                go_wp2_with fail
                refine (HZG.out _).mono ?_
                rintro e w1 ⟨rfl, rfl⟩
                have hgo := HO.out
                have HB1 := Lib.hid (show Below w.heap.size w wr from HB.out)
                have hbs := HB1.out.size
                go_wp2_with (at_builtin; refine wpList_append_own _ rfl (.tmp 98) (.tmp 102) 22 rfl w.heap.size 2 i0 (.int .i64 0) 1 8 Try.underlying22 hi hz0 hz1 hz2 rfl (by decide) _ _ _ rfl (hgo.alloc _) ⟨wr.heap.size, 0, none⟩ 1 1 [.int .i64 (x)] rfl rfl (one_src _ _ _) (one_oneCell rfl) (by unfold maxLen; omega) (by omega) (by simp at hbs ⊢; omega) ?_)
                intro v4 w4 hown4 hg4 _
                have HO4 := Lib.hid (show w4.ownsRow w.heap.size 2 1 v4 (k + 1) (iv .i64 (acc ++ [x])) by rw [iv_append]; exact hown4)
                have HB4 := Lib.hid ((HB1.out.alloc hbs _).grown hg4 (by simp at hbs ⊢; omega) (fun j hj => (hgo.lt j hj).1))
                clear hown4 hg4 hgo
                go_wp2_with fail
                go_roundw
                case rel => exact ⟨k + 1, at_ + sz, acc ++ [x], by omega, by omega, by go_num, by go_num, hn, HO4, HB4⟩
                case measure => simp [intOf]; omega
          · have HV2 := Lib.hid (show dec xs 0 = ([], er) by rw [HV.out]; exact herr he)
            have he1 : ((er : Int) != 0) = true := by rw [bne_iff_ne]; omega
            clear hleft heq hbd hii hle hz64 herr hrng hgo hdl hr hx hi9 hc' he hacc hfb
            go_wp2_with fail
            refine HII.out.mono ?_
            rintro e w1 ⟨rfl, rfl⟩
            go_wp2_with fail
            go_ret2
            rw [HV2.out]
            exact ⟨none, 0, 0, rfl, HEM.out _, HB.out⟩
        · obtain rfl : k = cnt := by omega
          have heq := hleft.eq
          rw [Nat.sub_self] at heq
          have hd3 : d = (acc, xs.drop at_, 0) := heq
          have hbd := hleft.bd
          obtain ⟨a9, c9, rfl, hi9, _⟩ := IntsAt.ofOwn HO.out (fun z hz => wf_i64 (by have := hbd z hz; omega))
          have HI9 := Lib.hid hi9
          by_cases hend : (at_ : Int) < (n : Int)
          · have HV2 := Lib.hid (show dec xs 0 = ([], 5) by
              rw [HV.out, hd3]
              unfold fin4
              rw [if_neg (by simp), if_pos]
              intro e
              have := congrArg List.length e
              rw [List.length_drop, HL.out] at this
              simp at this; omega)
            clear hleft heq hd3 hbd hi9
            go_wp2_with fail
            go_ret2
            rw [HV2.out]
            exact ⟨none, 0, 0, rfl, HEM.out _, HB.out⟩
          · have HV2 := Lib.hid (show dec xs 0 = (acc, 0) by
              rw [HV.out, hd3]
              unfold fin4
              have hnil : xs.drop at_ = [] := List.drop_eq_nil_of_le (by rw [HL.out]; omega)
              rw [if_neg (by simp), if_neg (fun hh => hh hnil)])
            have hend2 : (n : Int) ≤ (at_ : Int) := by omega
            clear hleft heq hd3 hbd hi9 hend
            go_wp2_with fail
            go_ret2
            rw [HV2.out]
            exact ⟨a9, k, c9, rfl, HI9.out, HB.out⟩
  · have HV := Lib.hid (show dec xs 0 = ([], er) by rw [HD2.out, if_pos her])
    have he1 : ((er : Int) != 0) = true := by rw [bne_iff_ne]; omega
    clear hle0 her
    go_enter Try.func19, Try.ntmps19
    go_wp2_with fail
    refine HU.out.mono ?_
    rintro e w1 ⟨rfl, rfl⟩
    go_wp2_with fail
    go_ret2
    rw [HV.out]
    exact ⟨none, 0, 0, rfl, HEM.out _, Below.refl _ _⟩

set_option maxRecDepth 100000 in
set_option maxHeartbeats 8000000 in
theorem rdecode_1 {w : World} {a : Option Addr} {n c : Nat} {xs : List Nat} (h : BytesAt w a n c xs) (hn : n ≤ 100000) :
    Calls Try.prog 19 #[.slice a n c, .int .i64 1] w fun e w' => ∃ a' n' c', e = .returned (.tuple #[.slice a' n' c', .int .i64 (((dec xs 1).2 : Nat) : Int)]) ∧ IntsAt .i64 w' a' n' c' (dec xs 1).1 ∧ Below w.heap.size w w' := by
  obtain ⟨i0, hi, hz0, hz1, hz2⟩ := info_parts info_i64
  have hemp : ∀ w, IntsAt .i64 w none 0 0 [] := fun w => IntsAt.empty _ _ _ _ (by omega) (fun _ => rfl)
  have HEM := Lib.hid hemp
  have HU := Lib.hid (ru_any h (0 : Int))
  have hr0 : ru xs (0 : Int) = uu 0 0 xs := by rw [show (0 : Int) = ((0 : Nat) : Int) from rfl, ru_nat, List.drop_zero]
  rw [hr0] at HU
  have hlt64 := ru_lt xs (0 : Int)
  rw [hr0] at hlt64
  have hbyte := h.byte
  have hlen := h.len
  have hdec : dec xs 1 = if (uu 0 0 xs).2.2 ≠ 0 then ([], (uu 0 0 xs).2.2) else if 2048 < (uu 0 0 xs).1 then ([], 5) else fin4 (dls 1 (uu 0 0 xs).1 (xs.drop (uu 0 0 xs).2.1) []) := rfl
  have hle0 := uu_ok_le (l := xs) hbyte
  obtain ⟨u, hu⟩ : ∃ u, u = uu 0 0 xs := ⟨_, rfl⟩
  rw [← hu] at HU hlt64 hdec hle0
  obtain ⟨cnt, at0, er⟩ := u
  simp only at hlt64 hdec hle0
  have HH := Lib.hid h
  have HD2 := Lib.hid hdec
  have HBY := Lib.hid hbyte
  have HL := Lib.hid hlen
  clear h hr0 hbyte hlen hdec hemp hu
  unfold ruV at HU
  simp only at HU
  by_cases her : er = 0
  · subst her
    by_cases hcb : 2048 < cnt
    · have HV := Lib.hid (show dec xs 1 = ([], 5) by rw [HD2.out, if_neg (by omega), if_pos hcb])
      have hcb2 : (2048 : Int) < (cnt : Int) := by omega
      clear hle0
      go_enter Try.func19, Try.ntmps19
      go_wp2_with fail
      refine HU.out.mono ?_
      rintro e w1 ⟨rfl, rfl⟩
      go_wp2_with fail
      go_ret2
      rw [HV.out]
      exact ⟨none, 0, 0, rfl, HEM.out _, Below.refl _ _⟩
    · have hcb2 : (cnt : Int) ≤ 2048 := by omega
      obtain ⟨d, hd⟩ : ∃ d, d = dls 1 cnt (xs.drop at0) [] := ⟨_, rfl⟩
      have HV := Lib.hid (show dec xs 1 = fin4 d by rw [HD2.out, if_neg (by omega), if_neg hcb, hd])
      have hat0 : at0 ≤ n := by have := hle0 rfl; have := HL.out; omega
      have HL0 : Left d 1 xs cnt at0 [] := ⟨hd, fun x hx => by cases hx⟩
      have hown0 := World.ownsRow_lit (base := w.heap.size) (e := 2) (size := 1) w #[] 0 (Nat.le_refl _) (by unfold maxLen; omega) rfl
      have HO0 := Lib.hid (show (w.alloc (.cells #[] 2)).ownsRow w.heap.size 2 1 (.slice (some ⟨w.heap.size, 0, none⟩) 0 0) 0 (iv .i64 []) from hown0)
      have HB0 := Lib.hid ((Below.refl w.heap.size w).alloc (Nat.le_refl _) (.cells #[] 2))
      clear hle0 hd hcb hown0
      go_enter Try.func19, Try.ntmps19
      go_wp2_with fail
      refine HU.out.mono ?_
      rintro e w1 ⟨rfl, rfl⟩
      go_wp2_with fail
      go_loopw [7, 9, 10] (fun s7 s9 s10 wr => ∃ (k at_ : Nat) (acc : List Int), k ≤ cnt ∧ at_ ≤ n ∧ s10 = .int .i64 k ∧ s7 = .int .i64 at_ ∧ Left d 1 xs (cnt - k) at_ acc ∧ Hid (wr.ownsRow w.heap.size 2 1 s9 k (iv .i64 acc)) ∧ Hid (Below w.heap.size w wr)) (fun _ _ s10 _ => cnt - (intOf s10).toNat)
      case atStart => exact ⟨0, at0, [], by omega, hat0, rfl, rfl, HL0, HO0, HB0⟩
      case round =>
        obtain ⟨k, at_, acc, hk, hat, rfl, rfl, hleft, HO, HB⟩ := hrel
        rename World => wr
        by_cases hkc : k < cnt
        · obtain ⟨c', hc'⟩ : ∃ c', cnt - k = c' + 1 := ⟨cnt - k - 1, by omega⟩
          have heq := hleft.eq
          have hbd := hleft.bd
          rw [hc'] at heq
          have hii := ru_any (HH.out.kept HB.out) (at_ : Int)
          rw [ru_nat] at hii
          have hle := uu_ok_le (l := xs.drop at_) (fun x hx => HBY.out x (List.mem_of_mem_drop hx))
          have hz64 := ru_lt xs (at_ : Int)
          rw [ru_nat] at hz64
          obtain ⟨a9, c9, rfl, hi9, _⟩ := IntsAt.ofOwn HO.out (fun z hz => wf_i64 (by have := hbd z hz; omega))
          have hacc : acc.length = k := hi9.len
          have hfb := fore_bound hbd 1
          have herr := fin4_err (way := 1) (ys := xs.drop at_) (acc := acc) (c := c')
          have hrng := fin4_rng (way := 1) (ys := xs.drop at_) (acc := acc) (c := c')
          have hgo := dls_go (way := 1) (ys := xs.drop at_) (acc := acc) (c := c')
          rw [← heq] at herr hrng hgo
          rw [List.drop_drop] at hgo
          have hdl : (xs.drop at_).length = n - at_ := by rw [List.length_drop, HL.out]
          rw [hdl] at hle
          obtain ⟨r, hr⟩ : ∃ r, r = uu 0 0 (xs.drop at_) := ⟨_, rfl⟩
          rw [← hr] at hii hle hz64 herr hrng hgo
          obtain ⟨z, sz, er⟩ := r
          simp only at hii hle hz64 herr hrng hgo
          have HII := Lib.hid hii
          unfold ruV at HII
          simp only at HII
          have HZG := Lib.hid (fun w => rzag_any z hz64 w)
          have hzl := zag_lo hz64
          have hzh := zag_hi hz64
          obtain ⟨x, hx⟩ : ∃ x, x = zag z := ⟨_, rfl⟩
          rw [← hx] at HZG hrng hgo hzl hzh
          by_cases he : er = 0
          · subst he
            have hsz := hle rfl
            have hz0' : ((0 : Int) != 0) = false := by decide
            have hnew : inB (fore acc 1 + x) = true → Left d 1 xs (cnt - (k + 1)) (at_ + sz) (acc ++ [fore acc 1 + x]) := fun hin => by
              refine ⟨?_, ?_⟩
              · rw [show cnt - (k + 1) = c' from by omega]
                exact hgo rfl hin
              · intro y hy
                rcases List.mem_append.1 hy with g | g
                · exact hbd y g
                · have := (inB_iff _).1 hin
                  simp at g; omega
            have hrng2 : inB (fore acc 1 + x) = false → dec xs 1 = ([], 2) := fun hin => by rw [HV.out]; exact hrng rfl hin
            have HNEW := Lib.hid hnew
            have HRNG := Lib.hid hrng2
            clear hleft heq hii hle hz64 herr hrng hgo hdl hr hx hc' hnew hrng2
            rcases Nat.eq_zero_or_pos k with hk0 | hkp
            · have hk1 : (k : Int) < 1 := by omega
              have hf : fore acc 1 = 0 := by unfold fore; rw [if_pos (by omega)]
              rw [hf] at HNEW HRNG hfb
              rw [Int.zero_add] at HNEW HRNG
              clear hf
              clear hacc
              obtain ⟨hfb1, hfb2⟩ := hfb
              have hfb := True.intro
              clear hk0
              by_cases hhi : 1152921504606846976 - (0) < x
              · have HV2 := Lib.hid (HRNG.out ((inB_no _).2 (.inr (by omega))))
                clear hbd hfb hi9
                go_wp2_with fail
                refine HII.out.mono ?_
                rintro e w1 ⟨rfl, rfl⟩
                go_wp2_with fail
                refine (HZG.out _).mono ?_
                rintro e w1 ⟨rfl, rfl⟩
                go_wp2_with fail
                go_ret2
                rw [HV2.out]
                exact ⟨none, 0, 0, rfl, HEM.out _, HB.out⟩
              · have hhi' : x ≤ 1152921504606846976 - (0) := by omega
                clear hhi
                by_cases hlo : x < -1152921504606846976 - (0)
                · have HV2 := Lib.hid (HRNG.out ((inB_no _).2 (.inl (by omega))))
                  clear hbd hfb hi9
                  go_wp2_with fail
                  refine HII.out.mono ?_
                  rintro e w1 ⟨rfl, rfl⟩
                  go_wp2_with fail
                  refine (HZG.out _).mono ?_
                  rintro e w1 ⟨rfl, rfl⟩
                  go_wp2_with fail
                  go_ret2
                  rw [HV2.out]
                  exact ⟨none, 0, 0, rfl, HEM.out _, HB.out⟩
                · have hlo' : -1152921504606846976 - (0) ≤ x := by omega
                  have hn := HNEW.out ((inB_iff _).2 ⟨by omega, by omega⟩)
                  have hs1 : -1152921504606846976 ≤ x := by omega
                  have hs2 : x ≤ 1152921504606846976 := by omega
                  clear hlo hbd hfb hi9
                  go_wp2_with fail
                  refine HII.out.mono ?_
                  rintro e w1 ⟨rfl, rfl⟩
                  go_wp2_with fail
                  refine (HZG.out _).mono ?_
                  rintro e w1 ⟨rfl, rfl⟩
                  have hgo := HO.out
                  have HB1 := Lib.hid (show Below w.heap.size w wr from HB.out)
                  have hbs := HB1.out.size
                  go_wp2_with (at_builtin; refine wpList_append_own _ rfl (.tmp 98) (.tmp 102) 22 rfl w.heap.size 2 i0 (.int .i64 0) 1 8 Try.underlying22 hi hz0 hz1 hz2 rfl (by decide) _ _ _ rfl (hgo.alloc _) ⟨wr.heap.size, 0, none⟩ 1 1 [.int .i64 (x)] rfl rfl (one_src _ _ _) (one_oneCell rfl) (by unfold maxLen; omega) (by omega) (by simp at hbs ⊢; omega) ?_)
                  intro v4 w4 hown4 hg4 _
                  have HO4 := Lib.hid (show w4.ownsRow w.heap.size 2 1 v4 (k + 1) (iv .i64 (acc ++ [x])) by rw [iv_append]; exact hown4)
                  have HB4 := Lib.hid ((HB1.out.alloc hbs _).grown hg4 (by simp at hbs ⊢; omega) (fun j hj => (hgo.lt j hj).1))
                  clear hown4 hg4 hgo
                  go_wp2_with fail
                  go_roundw
                  case rel => exact ⟨k + 1, at_ + sz, acc ++ [x], by omega, by omega, by go_num, by go_num, hn, HO4, HB4⟩
                  case measure => simp [intOf]; omega
            · obtain ⟨j, rfl⟩ : ∃ j, k = j + 1 := ⟨k - 1, by omega⟩
              obtain ⟨b, off, rfl, hlt, hcell⟩ := hi9.cells (by omega)
              obtain ⟨p, hp⟩ : ∃ p, p = acc.getD (j) 0 := ⟨_, rfl⟩
              have hcp := hcell (j) (by omega)
              rw [← hp] at hcp
              have hbp : -1152921504606846976 ≤ p ∧ p ≤ 1152921504606846976 := by rw [hp]; exact getD_mem_or hbd (by omega) _
              obtain ⟨hbp1, hbp2⟩ := hbp
              have hf : fore acc 1 = p := by unfold fore; rw [if_neg (by omega), if_pos (.inl rfl), hp, hacc]; rfl
              rw [hf] at HNEW HRNG hfb
              clear hf
              clear hacc hp hcell
              by_cases hhi : 1152921504606846976 - (p) < x
              · have HV2 := Lib.hid (HRNG.out ((inB_no _).2 (.inr (by omega))))
                clear hbd hfb hi9
                go_wp2_with fail
                refine HII.out.mono ?_
                rintro e w1 ⟨rfl, rfl⟩
                go_wp2_with fail
                refine (HZG.out _).mono ?_
                rintro e w1 ⟨rfl, rfl⟩
                go_wp2_with fail
                go_ret2
                rw [HV2.out]
                exact ⟨none, 0, 0, rfl, HEM.out _, HB.out⟩
              · have hhi' : x ≤ 1152921504606846976 - (p) := by omega
                clear hhi
                by_cases hlo : x < -1152921504606846976 - (p)
                · have HV2 := Lib.hid (HRNG.out ((inB_no _).2 (.inl (by omega))))
                  clear hbd hfb hi9
                  go_wp2_with fail
                  refine HII.out.mono ?_
                  rintro e w1 ⟨rfl, rfl⟩
                  go_wp2_with fail
                  refine (HZG.out _).mono ?_
                  rintro e w1 ⟨rfl, rfl⟩
                  go_wp2_with fail
                  go_ret2
                  rw [HV2.out]
                  exact ⟨none, 0, 0, rfl, HEM.out _, HB.out⟩
                · have hlo' : -1152921504606846976 - (p) ≤ x := by omega
                  have hn := HNEW.out ((inB_iff _).2 ⟨by omega, by omega⟩)
                  have hs1 : -1152921504606846976 ≤ p + x := by omega
                  have hs2 : p + x ≤ 1152921504606846976 := by omega
                  clear hlo hbd hfb hi9
                  go_wp2_with fail
                  refine HII.out.mono ?_
                  rintro e w1 ⟨rfl, rfl⟩
                  go_wp2_with fail
                  refine (HZG.out _).mono ?_
                  rintro e w1 ⟨rfl, rfl⟩
                  have hgo := HO.out
                  have HB1 := Lib.hid (show Below w.heap.size w wr from HB.out)
                  have hbs := HB1.out.size
                  go_wp2_with (at_builtin; refine wpList_append_own _ rfl (.tmp 98) (.tmp 102) 22 rfl w.heap.size 2 i0 (.int .i64 0) 1 8 Try.underlying22 hi hz0 hz1 hz2 rfl (by decide) _ _ _ rfl (hgo.alloc _) ⟨wr.heap.size, 0, none⟩ 1 1 [.int .i64 (p + x)] rfl rfl (one_src _ _ _) (one_oneCell rfl) (by unfold maxLen; omega) (by omega) (by simp at hbs ⊢; omega) ?_)
                  intro v4 w4 hown4 hg4 _
                  have HO4 := Lib.hid (show w4.ownsRow w.heap.size 2 1 v4 (j + 1 + 1) (iv .i64 (acc ++ [p + x])) by rw [iv_append]; exact hown4)
                  have HB4 := Lib.hid ((HB1.out.alloc hbs _).grown hg4 (by simp at hbs ⊢; omega) (fun j hj => (hgo.lt j hj).1))
                  clear hown4 hg4 hgo
                  go_wp2_with fail
                  go_roundw
                  case rel => exact ⟨j + 1 + 1, at_ + sz, acc ++ [p + x], by omega, by omega, by go_num, by go_num, hn, HO4, HB4⟩
                  case measure => simp [intOf]; omega
          · have HV2 := Lib.hid (show dec xs 1 = ([], er) by rw [HV.out]; exact herr he)
            have he1 : ((er : Int) != 0) = true := by rw [bne_iff_ne]; omega
            clear hleft heq hbd hii hle hz64 herr hrng hgo hdl hr hx hi9 hc' he hacc hfb
            go_wp2_with fail
            refine HII.out.mono ?_
            rintro e w1 ⟨rfl, rfl⟩
            go_wp2_with fail
            go_ret2
            rw [HV2.out]
            exact ⟨none, 0, 0, rfl, HEM.out _, HB.out⟩
        · obtain rfl : k = cnt := by omega
          have heq := hleft.eq
          rw [Nat.sub_self] at heq
          have hd3 : d = (acc, xs.drop at_, 0) := heq
          have hbd := hleft.bd
          obtain ⟨a9, c9, rfl, hi9, _⟩ := IntsAt.ofOwn HO.out (fun z hz => wf_i64 (by have := hbd z hz; omega))
          have HI9 := Lib.hid hi9
          by_cases hend : (at_ : Int) < (n : Int)
          · have HV2 := Lib.hid (show dec xs 1 = ([], 5) by
              rw [HV.out, hd3]
              unfold fin4
              rw [if_neg (by simp), if_pos]
              intro e
              have := congrArg List.length e
              rw [List.length_drop, HL.out] at this
              simp at this; omega)
            clear hleft heq hd3 hbd hi9
            go_wp2_with fail
            go_ret2
            rw [HV2.out]
            exact ⟨none, 0, 0, rfl, HEM.out _, HB.out⟩
          · have HV2 := Lib.hid (show dec xs 1 = (acc, 0) by
              rw [HV.out, hd3]
              unfold fin4
              have hnil : xs.drop at_ = [] := List.drop_eq_nil_of_le (by rw [HL.out]; omega)
              rw [if_neg (by simp), if_neg (fun hh => hh hnil)])
            have hend2 : (n : Int) ≤ (at_ : Int) := by omega
            clear hleft heq hd3 hbd hi9 hend
            go_wp2_with fail
            go_ret2
            rw [HV2.out]
            exact ⟨a9, k, c9, rfl, HI9.out, HB.out⟩
  · have HV := Lib.hid (show dec xs 1 = ([], er) by rw [HD2.out, if_pos her])
    have he1 : ((er : Int) != 0) = true := by rw [bne_iff_ne]; omega
    clear hle0 her
    go_enter Try.func19, Try.ntmps19
    go_wp2_with fail
    refine HU.out.mono ?_
    rintro e w1 ⟨rfl, rfl⟩
    go_wp2_with fail
    go_ret2
    rw [HV.out]
    exact ⟨none, 0, 0, rfl, HEM.out _, Below.refl _ _⟩

set_option maxRecDepth 100000 in
set_option maxHeartbeats 8000000 in
theorem rdecode_2 {w : World} {a : Option Addr} {n c : Nat} {xs : List Nat} (h : BytesAt w a n c xs) (hn : n ≤ 100000) :
    Calls Try.prog 19 #[.slice a n c, .int .i64 2] w fun e w' => ∃ a' n' c', e = .returned (.tuple #[.slice a' n' c', .int .i64 (((dec xs 2).2 : Nat) : Int)]) ∧ IntsAt .i64 w' a' n' c' (dec xs 2).1 ∧ Below w.heap.size w w' := by
  obtain ⟨i0, hi, hz0, hz1, hz2⟩ := info_parts info_i64
  have hemp : ∀ w, IntsAt .i64 w none 0 0 [] := fun w => IntsAt.empty _ _ _ _ (by omega) (fun _ => rfl)
  have HEM := Lib.hid hemp
  have HU := Lib.hid (ru_any h (0 : Int))
  have hr0 : ru xs (0 : Int) = uu 0 0 xs := by rw [show (0 : Int) = ((0 : Nat) : Int) from rfl, ru_nat, List.drop_zero]
  rw [hr0] at HU
  have hlt64 := ru_lt xs (0 : Int)
  rw [hr0] at hlt64
  have hbyte := h.byte
  have hlen := h.len
  have hdec : dec xs 2 = if (uu 0 0 xs).2.2 ≠ 0 then ([], (uu 0 0 xs).2.2) else if 2048 < (uu 0 0 xs).1 then ([], 5) else fin4 (dls 2 (uu 0 0 xs).1 (xs.drop (uu 0 0 xs).2.1) []) := rfl
  have hle0 := uu_ok_le (l := xs) hbyte
  obtain ⟨u, hu⟩ : ∃ u, u = uu 0 0 xs := ⟨_, rfl⟩
  rw [← hu] at HU hlt64 hdec hle0
  obtain ⟨cnt, at0, er⟩ := u
  simp only at hlt64 hdec hle0
  have HH := Lib.hid h
  have HD2 := Lib.hid hdec
  have HBY := Lib.hid hbyte
  have HL := Lib.hid hlen
  clear h hr0 hbyte hlen hdec hemp hu
  unfold ruV at HU
  simp only at HU
  by_cases her : er = 0
  · subst her
    by_cases hcb : 2048 < cnt
    · have HV := Lib.hid (show dec xs 2 = ([], 5) by rw [HD2.out, if_neg (by omega), if_pos hcb])
      have hcb2 : (2048 : Int) < (cnt : Int) := by omega
      clear hle0
      go_enter Try.func19, Try.ntmps19
      go_wp2_with fail
      refine HU.out.mono ?_
      rintro e w1 ⟨rfl, rfl⟩
      go_wp2_with fail
      go_ret2
      rw [HV.out]
      exact ⟨none, 0, 0, rfl, HEM.out _, Below.refl _ _⟩
    · have hcb2 : (cnt : Int) ≤ 2048 := by omega
      obtain ⟨d, hd⟩ : ∃ d, d = dls 2 cnt (xs.drop at0) [] := ⟨_, rfl⟩
      have HV := Lib.hid (show dec xs 2 = fin4 d by rw [HD2.out, if_neg (by omega), if_neg hcb, hd])
      have hat0 : at0 ≤ n := by have := hle0 rfl; have := HL.out; omega
      have HL0 : Left d 2 xs cnt at0 [] := ⟨hd, fun x hx => by cases hx⟩
      have hown0 := World.ownsRow_lit (base := w.heap.size) (e := 2) (size := 1) w #[] 0 (Nat.le_refl _) (by unfold maxLen; omega) rfl
      have HO0 := Lib.hid (show (w.alloc (.cells #[] 2)).ownsRow w.heap.size 2 1 (.slice (some ⟨w.heap.size, 0, none⟩) 0 0) 0 (iv .i64 []) from hown0)
      have HB0 := Lib.hid ((Below.refl w.heap.size w).alloc (Nat.le_refl _) (.cells #[] 2))
      clear hle0 hd hcb hown0
      go_enter Try.func19, Try.ntmps19
      go_wp2_with fail
      refine HU.out.mono ?_
      rintro e w1 ⟨rfl, rfl⟩
      go_wp2_with fail
      go_loopw [7, 9, 10] (fun s7 s9 s10 wr => ∃ (k at_ : Nat) (acc : List Int), k ≤ cnt ∧ at_ ≤ n ∧ s10 = .int .i64 k ∧ s7 = .int .i64 at_ ∧ Left d 2 xs (cnt - k) at_ acc ∧ Hid (wr.ownsRow w.heap.size 2 1 s9 k (iv .i64 acc)) ∧ Hid (Below w.heap.size w wr)) (fun _ _ s10 _ => cnt - (intOf s10).toNat)
      case atStart => exact ⟨0, at0, [], by omega, hat0, rfl, rfl, HL0, HO0, HB0⟩
      case round =>
        obtain ⟨k, at_, acc, hk, hat, rfl, rfl, hleft, HO, HB⟩ := hrel
        rename World => wr
        by_cases hkc : k < cnt
        · obtain ⟨c', hc'⟩ : ∃ c', cnt - k = c' + 1 := ⟨cnt - k - 1, by omega⟩
          have heq := hleft.eq
          have hbd := hleft.bd
          rw [hc'] at heq
          have hii := ru_any (HH.out.kept HB.out) (at_ : Int)
          rw [ru_nat] at hii
          have hle := uu_ok_le (l := xs.drop at_) (fun x hx => HBY.out x (List.mem_of_mem_drop hx))
          have hz64 := ru_lt xs (at_ : Int)
          rw [ru_nat] at hz64
          obtain ⟨a9, c9, rfl, hi9, _⟩ := IntsAt.ofOwn HO.out (fun z hz => wf_i64 (by have := hbd z hz; omega))
          have hacc : acc.length = k := hi9.len
          have hfb := fore_bound hbd 2
          have herr := fin4_err (way := 2) (ys := xs.drop at_) (acc := acc) (c := c')
          have hrng := fin4_rng (way := 2) (ys := xs.drop at_) (acc := acc) (c := c')
          have hgo := dls_go (way := 2) (ys := xs.drop at_) (acc := acc) (c := c')
          rw [← heq] at herr hrng hgo
          rw [List.drop_drop] at hgo
          have hdl : (xs.drop at_).length = n - at_ := by rw [List.length_drop, HL.out]
          rw [hdl] at hle
          obtain ⟨r, hr⟩ : ∃ r, r = uu 0 0 (xs.drop at_) := ⟨_, rfl⟩
          rw [← hr] at hii hle hz64 herr hrng hgo
          obtain ⟨z, sz, er⟩ := r
          simp only at hii hle hz64 herr hrng hgo
          have HII := Lib.hid hii
          unfold ruV at HII
          simp only at HII
          have HZG := Lib.hid (fun w => rzag_any z hz64 w)
          have hzl := zag_lo hz64
          have hzh := zag_hi hz64
          obtain ⟨x, hx⟩ : ∃ x, x = zag z := ⟨_, rfl⟩
          rw [← hx] at HZG hrng hgo hzl hzh
          by_cases he : er = 0
          · subst he
            have hsz := hle rfl
            have hz0' : ((0 : Int) != 0) = false := by decide
            have hnew : inB (fore acc 2 + x) = true → Left d 2 xs (cnt - (k + 1)) (at_ + sz) (acc ++ [fore acc 2 + x]) := fun hin => by
              refine ⟨?_, ?_⟩
              · rw [show cnt - (k + 1) = c' from by omega]
                exact hgo rfl hin
              · intro y hy
                rcases List.mem_append.1 hy with g | g
                · exact hbd y g
                · have := (inB_iff _).1 hin
                  simp at g; omega
            have hrng2 : inB (fore acc 2 + x) = false → dec xs 2 = ([], 2) := fun hin => by rw [HV.out]; exact hrng rfl hin
            have HNEW := Lib.hid hnew
            have HRNG := Lib.hid hrng2
            clear hleft heq hii hle hz64 herr hrng hgo hdl hr hx hc' hnew hrng2
            rcases Nat.eq_zero_or_pos k with hk0 | hkp
            · have hk1 : (k : Int) < 1 := by omega
              have hf : fore acc 2 = 0 := by unfold fore; rw [if_pos (by omega)]
              rw [hf] at HNEW HRNG hfb
              rw [Int.zero_add] at HNEW HRNG
              clear hf
              clear hacc
              obtain ⟨hfb1, hfb2⟩ := hfb
              have hfb := True.intro
              clear hk0
              by_cases hhi : 1152921504606846976 - (0) < x
              · have HV2 := Lib.hid (HRNG.out ((inB_no _).2 (.inr (by omega))))
                clear hbd hfb hi9
                go_wp2_with fail
                refine HII.out.mono ?_
                rintro e w1 ⟨rfl, rfl⟩
                go_wp2_with fail
                refine (HZG.out _).mono ?_
                rintro e w1 ⟨rfl, rfl⟩
                go_wp2_with fail
                go_ret2
                rw [HV2.out]
                exact ⟨none, 0, 0, rfl, HEM.out _, HB.out⟩
              · have hhi' : x ≤ 1152921504606846976 - (0) := by omega
                clear hhi
                by_cases hlo : x < -1152921504606846976 - (0)
                · have HV2 := Lib.hid (HRNG.out ((inB_no _).2 (.inl (by omega))))
                  clear hbd hfb hi9
                  go_wp2_with fail
                  refine HII.out.mono ?_
                  rintro e w1 ⟨rfl, rfl⟩
                  go_wp2_with fail
                  refine (HZG.out _).mono ?_
                  rintro e w1 ⟨rfl, rfl⟩
                  go_wp2_with fail
                  go_ret2
                  rw [HV2.out]
                  exact ⟨none, 0, 0, rfl, HEM.out _, HB.out⟩
                · have hlo' : -1152921504606846976 - (0) ≤ x := by omega
                  have hn := HNEW.out ((inB_iff _).2 ⟨by omega, by omega⟩)
                  have hs1 : -1152921504606846976 ≤ x := by omega
                  have hs2 : x ≤ 1152921504606846976 := by omega
                  clear hlo hbd hfb hi9
                  go_wp2_with fail
                  refine HII.out.mono ?_
                  rintro e w1 ⟨rfl, rfl⟩
                  go_wp2_with fail
                  refine (HZG.out _).mono ?_
                  rintro e w1 ⟨rfl, rfl⟩
                  have hgo := HO.out
                  have HB1 := Lib.hid (show Below w.heap.size w wr from HB.out)
                  have hbs := HB1.out.size
                  go_wp2_with (at_builtin; refine wpList_append_own _ rfl (.tmp 98) (.tmp 102) 22 rfl w.heap.size 2 i0 (.int .i64 0) 1 8 Try.underlying22 hi hz0 hz1 hz2 rfl (by decide) _ _ _ rfl (hgo.alloc _) ⟨wr.heap.size, 0, none⟩ 1 1 [.int .i64 (x)] rfl rfl (one_src _ _ _) (one_oneCell rfl) (by unfold maxLen; omega) (by omega) (by simp at hbs ⊢; omega) ?_)
                  intro v4 w4 hown4 hg4 _
                  have HO4 := Lib.hid (show w4.ownsRow w.heap.size 2 1 v4 (k + 1) (iv .i64 (acc ++ [x])) by rw [iv_append]; exact hown4)
                  have HB4 := Lib.hid ((HB1.out.alloc hbs _).grown hg4 (by simp at hbs ⊢; omega) (fun j hj => (hgo.lt j hj).1))
                  clear hown4 hg4 hgo
                  go_wp2_with fail
                  go_roundw
                  case rel => exact ⟨k + 1, at_ + sz, acc ++ [x], by omega, by omega, by go_num, by go_num, hn, HO4, HB4⟩
                  case measure => simp [intOf]; omega
            · rcases Nat.lt_or_ge k 2 with hk2 | hk2
              · obtain rfl : k = 1 := by omega
                obtain ⟨b, off, rfl, hlt, hcell⟩ := hi9.cells (by omega)
                obtain ⟨p, hp⟩ : ∃ p, p = acc.getD (0) 0 := ⟨_, rfl⟩
                have hcp := hcell (0) (by omega)
                rw [← hp, Nat.add_zero] at hcp
                have hbp : -1152921504606846976 ≤ p ∧ p ≤ 1152921504606846976 := by rw [hp]; exact getD_mem_or hbd (by omega) _
                obtain ⟨hbp1, hbp2⟩ := hbp
                have hf : fore acc 2 = p := by unfold fore; rw [if_neg (by omega), if_pos (.inr hacc), hp, hacc]
                rw [hf] at HNEW HRNG hfb
                clear hf
                clear hacc hp hcell
                by_cases hhi : 1152921504606846976 - (p) < x
                · have HV2 := Lib.hid (HRNG.out ((inB_no _).2 (.inr (by omega))))
                  clear hbd hfb hi9
                  go_wp2_with fail
                  refine HII.out.mono ?_
                  rintro e w1 ⟨rfl, rfl⟩
                  go_wp2_with fail
                  refine (HZG.out _).mono ?_
                  rintro e w1 ⟨rfl, rfl⟩
                  go_wp2_with fail
                  go_ret2
                  rw [HV2.out]
                  exact ⟨none, 0, 0, rfl, HEM.out _, HB.out⟩
                · have hhi' : x ≤ 1152921504606846976 - (p) := by omega
                  clear hhi
                  by_cases hlo : x < -1152921504606846976 - (p)
                  · have HV2 := Lib.hid (HRNG.out ((inB_no _).2 (.inl (by omega))))
                    clear hbd hfb hi9
                    go_wp2_with fail
                    refine HII.out.mono ?_
                    rintro e w1 ⟨rfl, rfl⟩
                    go_wp2_with fail
                    refine (HZG.out _).mono ?_
                    rintro e w1 ⟨rfl, rfl⟩
                    go_wp2_with fail
                    go_ret2
                    rw [HV2.out]
                    exact ⟨none, 0, 0, rfl, HEM.out _, HB.out⟩
                  · have hlo' : -1152921504606846976 - (p) ≤ x := by omega
                    have hn := HNEW.out ((inB_iff _).2 ⟨by omega, by omega⟩)
                    have hs1 : -1152921504606846976 ≤ p + x := by omega
                    have hs2 : p + x ≤ 1152921504606846976 := by omega
                    clear hlo hbd hfb hi9
                    go_wp2_with fail
                    refine HII.out.mono ?_
                    rintro e w1 ⟨rfl, rfl⟩
                    go_wp2_with fail
                    refine (HZG.out _).mono ?_
                    rintro e w1 ⟨rfl, rfl⟩
                    have hgo := HO.out
                    have HB1 := Lib.hid (show Below w.heap.size w wr from HB.out)
                    have hbs := HB1.out.size
                    go_wp2_with (at_builtin; refine wpList_append_own _ rfl (.tmp 98) (.tmp 102) 22 rfl w.heap.size 2 i0 (.int .i64 0) 1 8 Try.underlying22 hi hz0 hz1 hz2 rfl (by decide) _ _ _ rfl (hgo.alloc _) ⟨wr.heap.size, 0, none⟩ 1 1 [.int .i64 (p + x)] rfl rfl (one_src _ _ _) (one_oneCell rfl) (by unfold maxLen; omega) (by omega) (by simp at hbs ⊢; omega) ?_)
                    intro v4 w4 hown4 hg4 _
                    have HO4 := Lib.hid (show w4.ownsRow w.heap.size 2 1 v4 (1 + 1) (iv .i64 (acc ++ [p + x])) by rw [iv_append]; exact hown4)
                    have HB4 := Lib.hid ((HB1.out.alloc hbs _).grown hg4 (by simp at hbs ⊢; omega) (fun j hj => (hgo.lt j hj).1))
                    clear hown4 hg4 hgo
                    go_wp2_with fail
                    go_roundw
                    case rel => exact ⟨1 + 1, at_ + sz, acc ++ [p + x], by omega, by omega, by go_num, by go_num, hn, HO4, HB4⟩
                    case measure => simp [intOf]; omega
              · obtain ⟨j, rfl⟩ : ∃ j, k = j + 2 := ⟨k - 2, by omega⟩
                obtain ⟨b, off, rfl, hlt, hcell⟩ := hi9.cells (by omega)
                obtain ⟨p, hp⟩ : ∃ p, p = acc.getD (j + 1) 0 := ⟨_, rfl⟩
                have hcp := hcell (j + 1) (by omega)
                rw [← hp] at hcp
                have hbp : -1152921504606846976 ≤ p ∧ p ≤ 1152921504606846976 := by rw [hp]; exact getD_mem_or hbd (by omega) _
                obtain ⟨hbp1, hbp2⟩ := hbp
                obtain ⟨q, hq⟩ : ∃ q, q = acc.getD (j) 0 := ⟨_, rfl⟩
                have hcq := hcell (j) (by omega)
                rw [← hq] at hcq
                have hbq : -1152921504606846976 ≤ q ∧ q ≤ 1152921504606846976 := by rw [hq]; exact getD_mem_or hbd (by omega) _
                obtain ⟨hbq1, hbq2⟩ := hbq
                have hf : fore acc 2 = 2 * p - q := by unfold fore; rw [if_neg (by omega), if_neg (by omega), hp, hq, hacc]; rfl
                rw [hf] at HNEW HRNG hfb
                clear hf
                clear hacc hp hq hcell
                by_cases hhi : 1152921504606846976 - (2 * p - q) < x
                · have HV2 := Lib.hid (HRNG.out ((inB_no _).2 (.inr (by omega))))
                  clear hbd hfb hi9
                  go_wp2_with fail
                  refine HII.out.mono ?_
                  rintro e w1 ⟨rfl, rfl⟩
                  go_wp2_with fail
                  refine (HZG.out _).mono ?_
                  rintro e w1 ⟨rfl, rfl⟩
                  go_wp2_with fail
                  go_quiet (fail)
                  rename Nat => nq
                  go_wp2_with fail
                  go_ret2
                  rw [HV2.out]
                  exact ⟨none, 0, 0, rfl, HEM.out _, HB.out.trans ⟨rfl, rfl, rfl, Nat.le_refl _, fun _ _ => rfl⟩⟩
                · have hhi' : x ≤ 1152921504606846976 - (2 * p - q) := by omega
                  clear hhi
                  by_cases hlo : x < -1152921504606846976 - (2 * p - q)
                  · have HV2 := Lib.hid (HRNG.out ((inB_no _).2 (.inl (by omega))))
                    clear hbd hfb hi9
                    go_wp2_with fail
                    refine HII.out.mono ?_
                    rintro e w1 ⟨rfl, rfl⟩
                    go_wp2_with fail
                    refine (HZG.out _).mono ?_
                    rintro e w1 ⟨rfl, rfl⟩
                    go_wp2_with fail
                    go_quiet (fail)
                    rename Nat => nq
                    go_wp2_with fail
                    go_ret2
                    rw [HV2.out]
                    exact ⟨none, 0, 0, rfl, HEM.out _, HB.out.trans ⟨rfl, rfl, rfl, Nat.le_refl _, fun _ _ => rfl⟩⟩
                  · have hlo' : -1152921504606846976 - (2 * p - q) ≤ x := by omega
                    have hn := HNEW.out ((inB_iff _).2 ⟨by omega, by omega⟩)
                    have hs1 : -1152921504606846976 ≤ 2 * p - q + x := by omega
                    have hs2 : 2 * p - q + x ≤ 1152921504606846976 := by omega
                    clear hlo hbd hfb hi9
                    go_wp2_with fail
                    refine HII.out.mono ?_
                    rintro e w1 ⟨rfl, rfl⟩
                    go_wp2_with fail
                    refine (HZG.out _).mono ?_
                    rintro e w1 ⟨rfl, rfl⟩
                    go_wp2_with fail
                    go_quiet (fail)
                    rename Nat => nq
                    have hgo := own_below HO.out (show Below wr.heap.size wr (wr.drewN nq) from ⟨rfl, rfl, rfl, Nat.le_refl _, fun _ _ => rfl⟩)
                    have HB1 := Lib.hid (show Below w.heap.size w (wr.drewN nq) from HB.out.trans ⟨rfl, rfl, rfl, Nat.le_refl _, fun _ _ => rfl⟩)
                    have hbs := HB1.out.size
                    go_wp2_with (at_builtin; refine wpList_append_own _ rfl (.tmp 98) (.tmp 102) 22 rfl w.heap.size 2 i0 (.int .i64 0) 1 8 Try.underlying22 hi hz0 hz1 hz2 rfl (by decide) _ _ _ rfl (hgo.alloc _) ⟨(wr.drewN nq).heap.size, 0, none⟩ 1 1 [.int .i64 (2 * p - q + x)] rfl rfl (one_src _ _ _) (one_oneCell rfl) (by unfold maxLen; omega) (by omega) (by simp at hbs ⊢; omega) ?_)
                    intro v4 w4 hown4 hg4 _
                    have HO4 := Lib.hid (show w4.ownsRow w.heap.size 2 1 v4 (j + 2 + 1) (iv .i64 (acc ++ [2 * p - q + x])) by rw [iv_append]; exact hown4)
                    have HB4 := Lib.hid ((HB1.out.alloc hbs _).grown hg4 (by simp at hbs ⊢; omega) (fun j hj => (hgo.lt j hj).1))
                    clear hown4 hg4 hgo
                    go_wp2_with fail
                    go_roundw
                    case rel => exact ⟨j + 2 + 1, at_ + sz, acc ++ [2 * p - q + x], by omega, by omega, by go_num, by go_num, hn, HO4, HB4⟩
                    case measure => simp [intOf]; omega
          · have HV2 := Lib.hid (show dec xs 2 = ([], er) by rw [HV.out]; exact herr he)
            have he1 : ((er : Int) != 0) = true := by rw [bne_iff_ne]; omega
            clear hleft heq hbd hii hle hz64 herr hrng hgo hdl hr hx hi9 hc' he hacc hfb
            go_wp2_with fail
            refine HII.out.mono ?_
            rintro e w1 ⟨rfl, rfl⟩
            go_wp2_with fail
            go_ret2
            rw [HV2.out]
            exact ⟨none, 0, 0, rfl, HEM.out _, HB.out⟩
        · obtain rfl : k = cnt := by omega
          have heq := hleft.eq
          rw [Nat.sub_self] at heq
          have hd3 : d = (acc, xs.drop at_, 0) := heq
          have hbd := hleft.bd
          obtain ⟨a9, c9, rfl, hi9, _⟩ := IntsAt.ofOwn HO.out (fun z hz => wf_i64 (by have := hbd z hz; omega))
          have HI9 := Lib.hid hi9
          by_cases hend : (at_ : Int) < (n : Int)
          · have HV2 := Lib.hid (show dec xs 2 = ([], 5) by
              rw [HV.out, hd3]
              unfold fin4
              rw [if_neg (by simp), if_pos]
              intro e
              have := congrArg List.length e
              rw [List.length_drop, HL.out] at this
              simp at this; omega)
            clear hleft heq hd3 hbd hi9
            go_wp2_with fail
            go_ret2
            rw [HV2.out]
            exact ⟨none, 0, 0, rfl, HEM.out _, HB.out⟩
          · have HV2 := Lib.hid (show dec xs 2 = (acc, 0) by
              rw [HV.out, hd3]
              unfold fin4
              have hnil : xs.drop at_ = [] := List.drop_eq_nil_of_le (by rw [HL.out]; omega)
              rw [if_neg (by simp), if_neg (fun hh => hh hnil)])
            have hend2 : (n : Int) ≤ (at_ : Int) := by omega
            clear hleft heq hd3 hbd hi9 hend
            go_wp2_with fail
            go_ret2
            rw [HV2.out]
            exact ⟨a9, k, c9, rfl, HI9.out, HB.out⟩
  · have HV := Lib.hid (show dec xs 2 = ([], er) by rw [HD2.out, if_pos her])
    have he1 : ((er : Int) != 0) = true := by rw [bne_iff_ne]; omega
    clear hle0 her
    go_enter Try.func19, Try.ntmps19
    go_wp2_with fail
    refine HU.out.mono ?_
    rintro e w1 ⟨rfl, rfl⟩
    go_wp2_with fail
    go_ret2
    rw [HV.out]
    exact ⟨none, 0, 0, rfl, HEM.out _, Below.refl _ _⟩

set_option maxHeartbeats 1000000 in
theorem rdecode_any {w : World} {a : Option Addr} {n c : Nat} {xs : List Nat} (h : BytesAt w a n c xs) (hn : n ≤ 100000) (way : Int) :
    Calls Try.prog 19 #[.slice a n c, .int .i64 way] w fun e w' => ∃ a' n' c', e = .returned (.tuple #[.slice a' n' c', .int .i64 (((dec xs way).2 : Nat) : Int)]) ∧ IntsAt .i64 w' a' n' c' (dec xs way).1 ∧ Below w.heap.size w w' := by
  cases hk : known way with
  | true =>
    have hkk := (known_iff way).1 hk
    have hw : way = 0 ∨ way = 1 ∨ way = 2 := by omega
    rcases hw with rfl | rfl | rfl
    · exact rdecode_0 h hn
    · exact rdecode_1 h hn
    · exact rdecode_2 h hn
  | false =>
    have HV := Lib.hid (show dec xs way = ([], 1) by unfold dec; rw [if_pos hk])
    have hw := (known_no way).1 hk
    have e0 : (way != 0) = true := by rw [bne_iff_ne]; omega
    have e1 : (way != 1) = true := by rw [bne_iff_ne]; omega
    have e2 : (way != 2) = true := by rw [bne_iff_ne]; omega
    clear h hw hk
    go_enter Try.func19, Try.ntmps19
    go_wp2_with fail
    go_ret2
    rw [HV.out]
    exact ⟨none, 0, 0, rfl, IntsAt.empty _ _ _ _ (by omega) (fun _ => rfl), Below.refl _ _⟩
end Go.Proofs.Ytcnkhliplcbfkaa
