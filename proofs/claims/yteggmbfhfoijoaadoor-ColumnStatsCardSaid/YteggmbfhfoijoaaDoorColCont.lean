/- A bare chunk's content, walked. -/
import Derived.Test.YteggmbfhfoijoaaDoorColPut
namespace Go.Proofs.YteggmbfhfoijoaaDoor
open Go.RowKit BitsPlain NumsPlain CrcPlain
set_option linter.unusedVariables false

theorem cn_at (pre : List Nat) {n : Nat} (r : List Nat) {most : Int} {above : Nat} (h : n < 18446744073709551616) (hm : (n : Int) ≤ most) : cn (pre ++ (pu n ++ r)) pre.length 0 most above = (n, pre.length + (pu n).length, 0) := by
  have h1 := ru_nat (pre ++ (pu n ++ r)) pre.length
  rw [List.drop_left] at h1
  have h2 := ru_nat (pu n ++ r) 0
  rw [List.drop_zero] at h2
  have h3 : ru (pu n ++ r) ((0 : Nat) : Int) = (n, (pu n).length, 0) := ru_back h r
  rw [h2] at h3
  have hr : ru (pre ++ (pu n ++ r)) (pre.length : Int) = (n, (pu n).length, 0) := by rw [h1]; exact h3
  have hc : cu (pre ++ (pu n ++ r)) pre.length 0 = (n, pre.length + (pu n).length, 0) := by
    unfold cu
    rw [if_pos rfl, hr, if_pos rfl]
  unfold cn
  rw [if_neg (by simp), hc, if_neg (by simp), if_neg (by simp only; omega)]
theorem cb_all (pre C : List Nat) : cb (pre ++ C) pre.length 0 (C.length : Int) = (C, pre.length + C.length, 0) := by
  unfold cb
  rw [if_neg (by simp), if_neg (by rw [List.length_append]; omega), List.drop_left, Int.toNat_natCast, List.take_length]

set_option maxRecDepth 100000 in
set_option maxHeartbeats 4000000 in
theorem content_bare {w : World} {a : Option Addr} {n c k : Nat} {C : List Nat} (h : BytesAt w a n c ([k, 0] ++ pu C.length ++ C)) (hk : k ≤ 4) (hC : C.length ≤ 65536) :
    Calls Tryd.prog 30 #[.slice a n c] w fun e w' => ∃ a' c', e = .returned (.tuple #[.slice a' C.length c', .bool true]) ∧ BytesAt w' a' C.length c' C ∧ Below w.heap.size w w' := by
  have HN := Lib.hid (new_any h)
  have hlen := h.len
  have hp10 := pu_ten (n := C.length) (by omega)
  obtain ⟨p, hp⟩ : ∃ p, p = (pu C.length).length := ⟨_, rfl⟩
  obtain ⟨m, hm⟩ : ∃ m, m = C.length := ⟨_, rfl⟩
  have hn1 : n ≤ 2 + p + m ∧ 2 + p + m ≤ n := by
    rw [← hlen]
    simp only [List.length_append, List.length_cons, List.length_nil]
    omega
  obtain ⟨xs, hxs⟩ : ∃ xs, xs = [k, 0] ++ pu C.length ++ C := ⟨_, rfl⟩
  have e1 : cn xs 0 0 4 2 = (k, 1, 0) := by
    have := cn_at [] (n := k) (0 :: pu C.length ++ C) (most := 4) (above := 2) (by omega) (by omega)
    rw [pu_small (by omega)] at this
    rw [hxs]
    exact this
  have e2 : cn xs 1 0 1 2 = (0, 2, 0) := by
    have := cn_at [k] (n := 0) (pu C.length ++ C) (most := 1) (above := 2) (by omega) (by omega)
    rw [pu_small (by omega)] at this
    rw [hxs]
    exact this
  have e3 : cn xs 2 0 65536 2 = (m, 2 + p, 0) := by
    have := cn_at [k, 0] (n := C.length) C (most := 65536) (above := 2) (by omega) (by omega)
    rw [hxs, List.append_assoc, hm, hp]
    exact this
  have e4 : cb xs (2 + p) 0 (m : Int) = (C, 2 + p + m, 0) := by
    have := cb_all ([k, 0] ++ pu C.length) C
    rw [List.length_append, ← hp] at this
    rw [hxs, hm]
    exact this
  have hce : cend n (2 + p + m) 0 = 0 := by unfold cend; rw [if_pos rfl, if_neg (by omega)]
  have hsub : (n : Int) - ((2 + p : Nat) : Int) = (m : Int) := by omega
  obtain ⟨i3, hi3⟩ : ∃ i3, i3 = 2 + p := ⟨_, rfl⟩
  rw [← hi3] at e3 e4 hce hsub
  obtain ⟨i4, hi4⟩ : ∃ i4, i4 = i3 + m := ⟨_, rfl⟩
  rw [← hi4] at e4 hce
  have E1 := Lib.hid e1
  have E2 := Lib.hid e2
  have E3 := Lib.hid e3
  have E4 := Lib.hid e4
  have HCE := Lib.hid hce
  have hm6 : m ≤ 65536 := by omega
  have hp10 : p ≤ 10 := by omega
  have hi3n : i3 ≤ 12 := by omega
  have hn2 : n ≤ 70000 := by omega
  have HM := Lib.hid hm
  rw [← hxs] at HN
  rw [← hm]
  clear h e1 e2 e3 e4 hxs hlen hp hce hi3 hi4 hm hn1
  go_enter Tryd.func30, Tryd.ntmps30
  go_wp2_with fail
  refine HN.out.mono ?_
  rintro e w1 ⟨B, a', c', rfl, hcur, hb1, hB, _⟩
  have HB1 := Lib.hid hb1
  have HBB := Lib.hid (show ∀ k, some B = some k → w.heap.size ≤ k from fun k hk => by cases hk; exact hB)
  have hnum := cnum_any hcur 4 (by omega) (by omega)
  rw [E1.out] at hnum
  have HNUM := Lib.hid hnum
  clear hcur hb1 hB hnum
  go_wp2_with fail
  refine HNUM.out.mono ?_
  rintro e w2 ⟨rfl, hcur, hg2⟩
  have HB2 := Lib.hid (HB1.out.grown hg2 HB1.out.size HBB.out)
  have hnum := cnum_any hcur 1 (by omega) (by omega)
  rw [E2.out] at hnum
  have HNUM2 := Lib.hid hnum
  clear hcur hg2 hnum
  go_wp2_with fail
  refine HNUM2.out.mono ?_
  rintro e w3 ⟨rfl, hcur, hg3⟩
  have HB3 := Lib.hid (HB2.out.grown hg3 HB2.out.size HBB.out)
  have hnum := cnum_any hcur 65536 (by omega) (by omega)
  rw [E3.out] at hnum
  have HNUM3 := Lib.hid hnum
  clear hcur hg3 hnum
  go_wp2_with fail
  refine HNUM3.out.mono ?_
  rintro e w4 ⟨rfl, hcur, hg4⟩
  have HB4 := Lib.hid (HB3.out.grown hg4 HB3.out.size HBB.out)
  have HAT := Lib.hid (at_any hcur)
  have hcb := cb_any hcur (m : Int) (by omega) (by omega)
  rw [E4.out] at hcb
  have HCB := Lib.hid hcb
  clear hcur hg4 hcb
  go_wp2_with fail
  refine HAT.out.mono ?_
  rintro e w5 ⟨rfl, rfl⟩
  go_wp2_with fail
  refine HCB.out.mono ?_
  rintro e w6 ⟨⟨a6, c6, rfl, h6⟩, hcur, hg6⟩
  rw [← HM.out] at h6
  rw [← HM.out]
  have HB6 := Lib.hid (HB4.out.grown hg6 HB4.out.size HBB.out)
  have hend := end_any hcur
  rw [HCE.out] at hend
  have HEND := Lib.hid hend
  have H6 := Lib.hid h6
  clear hcur hg6 h6 hend
  go_wp2_with fail
  refine HEND.out.mono ?_
  rintro e w7 ⟨rfl, q, rfl⟩
  go_wp2_with fail
  first | go_ret2 | go_ret
  exact ⟨a6, c6, rfl, H6.out.drewN q, HB6.out.trans ((show Below w6.heap.size w6 (w6.drewN q) from ⟨rfl, rfl, rfl, Nat.le_refl _, fun _ _ => rfl⟩).mono HB6.out.size)⟩
end Go.Proofs.YteggmbfhfoijoaaDoor
