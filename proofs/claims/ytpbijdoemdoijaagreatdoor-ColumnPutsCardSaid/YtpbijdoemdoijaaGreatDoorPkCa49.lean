/- Texts put together by packtpl2.py: SqWords, SqRFixed, SqRTok. -/
import Derived.Test.YtpbijdoemdoijaaGreatDoorPkCa3
import Derived.Test.YtpbijdoemdoijaaGreatDoorPkCa4
import Derived.Test.YtpbijdoemdoijaaGreatDoorPkCa16
import Derived.Test.YtpbijdoemdoijaaGreatDoorPkCa48
import Derived.Maps.AppendAt
section PkCa49_0
/- The words of the fixed code, as the document makes them, are the program's letters. -/
namespace Go.Proofs.YtpbijdoemdoijaaGreatDoor
open Go.RowKit BitsPlain PrefPlain
set_option linter.unusedVariables false

def flx : List Int := List.replicate 144 8 ++ List.replicate 112 9 ++ List.replicate 24 7 ++ List.replicate 8 8
def fdx : List Int := List.replicate 32 5
def T7 : List Int := (List.range 24).map fun i => ((i + 256 : Nat) : Int)
def T8 : List Int := ((List.range 144) ++ (List.range 8).map (· + 280)).map fun (i : Nat) => (i : Int)
def T9 : List Int := (List.range 112).map fun i => ((i + 144 : Nat) : Int)
def T5 : List Int := (List.range 32).map fun (i : Nat) => (i : Int)
theorem flx_len : flx.length = 288 := by decide +kernel
theorem fdx_len : fdx.length = 32 := by decide +kernel
theorem t7 : sy flx 288 7 = T7 := by decide +kernel
theorem t8 : sy flx 288 8 = T8 := by decide +kernel
theorem t9 : sy flx 288 9 = T9 := by decide +kernel
theorem t5 : sy fdx 32 5 = T5 := by decide +kernel
theorem fw_flx : fw (cn flx) 7 = 0 ∧ fw (cn flx) 8 = 48 ∧ fw (cn flx) 9 = 400 := by decide +kernel
theorem fw_fdx : fw (cn fdx) 5 = 0 := by decide +kernel
theorem fits_flx : fitsB (cn flx) (mo flx flx.length) = true := by decide +kernel
theorem fits_fdx : fitsB (cn fdx) (mo fdx fdx.length) = true := by decide +kernel
theorem okL_flx : okL flx flx.length := by rw [flx_len]; unfold okL; decide +kernel
theorem okL_fdx : okL fdx fdx.length := by rw [fdx_len]; unfold okL; decide +kernel
theorem x8 : ∀ x, x < 144 → flx.getD x 0 = 8 ∧ T8.idxOf (x : Int) = x := by decide +kernel
theorem x9 : ∀ x, x < 112 → flx.getD (x + 144) 0 = 9 ∧ T9.idxOf ((x + 144 : Nat) : Int) = x := by decide +kernel
theorem x7 : ∀ x, x < 24 → flx.getD (x + 256) 0 = 7 ∧ T7.idxOf ((x + 256 : Nat) : Int) = x := by decide +kernel
theorem xh : ∀ x, x < 8 → flx.getD (x + 280) 0 = 8 ∧ T8.idxOf ((x + 280 : Nat) : Int) = 144 + x := by decide +kernel
theorem x5 : ∀ x, x < 32 → fdx.getD x 0 = 5 ∧ T5.idxOf (x : Int) = x := by decide +kernel
theorem wof_flx {x : Nat} (h : x < 288) : 0 < flx.getD x 0 ∧ wof flx x = txt (lw x).1 (lw x).2 := by
  unfold wof pl lw
  rw [flx_len]
  by_cases h1 : x < 144
  · have e := x8 x h1
    rw [e.1, if_pos h1, show (8 : Int).toNat = 8 from rfl, t8, e.2, fw_flx.2.1]
    exact ⟨by omega, rfl⟩
  · by_cases h2 : x < 256
    · obtain ⟨y, rfl⟩ : ∃ y, x = y + 144 := ⟨x - 144, by omega⟩
      have e := x9 y (by omega)
      rw [e.1, if_neg h1, if_pos h2, show (9 : Int).toNat = 9 from rfl, t9, e.2, fw_flx.2.2]
      exact ⟨by omega, by rw [show 400 + (y + 144) - 144 = 400 + y from by omega]⟩
    · by_cases h3 : x < 280
      · obtain ⟨y, rfl⟩ : ∃ y, x = y + 256 := ⟨x - 256, by omega⟩
        have e := x7 y (by omega)
        rw [e.1, if_neg h1, if_neg h2, if_pos h3, show (7 : Int).toNat = 7 from rfl, t7, e.2, fw_flx.1]
        exact ⟨by omega, by rw [Nat.zero_add, Nat.add_sub_cancel]⟩
      · obtain ⟨y, rfl⟩ : ∃ y, x = y + 280 := ⟨x - 280, by omega⟩
        have e := xh y (by omega)
        rw [e.1, if_neg h1, if_neg h2, if_neg h3, show (8 : Int).toNat = 8 from rfl, t8, e.2, fw_flx.2.1]
        exact ⟨by omega, by rw [show 48 + (144 + y) = 192 + (y + 280) - 280 from by omega]⟩
theorem wof_fdx {x : Nat} (h : x < 32) : 0 < fdx.getD x 0 ∧ wof fdx x = txt x 5 := by
  unfold wof pl
  have e := x5 x h
  rw [fdx_len, e.1, show (5 : Int).toNat = 5 from rfl, t5, e.2, fw_fdx, Nat.zero_add]
  exact ⟨by omega, rfl⟩
theorem wt_flx {x : Nat} (h : x < 288) : wt flx 16 0 x = txt (lw x).1 (lw x).2 := by
  rw [wt_end okL_flx x (by rw [flx_len]; exact h), if_pos (wof_flx h).1, (wof_flx h).2]
theorem wt_fdx {x : Nat} (h : x < 32) : wt fdx 16 0 x = txt x 5 := by
  rw [wt_end okL_fdx x (by rw [fdx_len]; exact h), if_pos (wof_fdx h).1, (wof_fdx h).2]
end Go.Proofs.YtpbijdoemdoijaaGreatDoor
end PkCa49_0
section PkCa49_1
/- The lengths of the fixed codes, as the document makes them (entrepotref06.Fixed), walked. -/
namespace Go.Proofs.YtpbijdoemdoijaaGreatDoor
open Go.RowKit BitsPlain PrefPlain
set_option linter.unusedVariables false

theorem info_int7 : (Tryz.prog.info? 3).map (fun i => (i.zero, i.size, i.bytes)) = some (some (.int .i64 0), 1, 8) := by kernel_rfl
theorem apart_grow {v v' d : Value} {N N' : Nat} (h : ∀ k, v.ownBlock = some k → d.ownBlock ≠ some k) (hd : ∀ k, d.ownBlock = some k → k < N) (hN : N ≤ N') (hat : v'.ownBlock = v.ownBlock ∨ v'.ownBlock = some N') : ∀ k, v'.ownBlock = some k → d.ownBlock ≠ some k := by
  intro k hk hk2
  rcases hat with e | e
  · rw [e] at hk; exact h k hk hk2
  · rw [e] at hk
    cases hk
    have := hd _ hk2
    omega
theorem apart_kept {w w' : World} {base n size : Nat} {e : TypeId} {v d : Value} {xs : List Value} (h : w.ownsRow base e size d n xs) (hg : w.grownBy w' v.ownBlock) (ha : ∀ k, v.ownBlock = some k → d.ownBlock ≠ some k) : w'.ownsRow base e size d n xs := by
  refine h.kept hg ?_
  cases hv : d.ownBlock with
  | none => exact .inl rfl
  | some k => exact .inr fun e => ha k e.symm hv
theorem take_snoc_i {l : List Int} {s : Nat} (h : s < l.length) : l.take (s + 1) = l.take s ++ [l.getD s 0] := by
  rw [List.take_add_one, List.getElem?_eq_getElem h]
  simp [h]
theorem flx_at {s : Nat} (h : s < 288) : flx.getD s 0 = if 144 ≤ s ∧ s ≤ 255 then 9 else if 256 ≤ s ∧ s ≤ 279 then 7 else 8 := by
  have : ∀ s, s < 288 → flx.getD s 0 = if 144 ≤ s ∧ s ≤ 255 then 9 else if 256 ≤ s ∧ s ≤ 279 then 7 else 8 := by decide +kernel
  exact this s h
theorem fdx_at {s : Nat} (h : s < 32) : fdx.getD s 0 = 5 := (x5 s h).1
theorem flx_wf : ∀ z ∈ flx, (Lit.int .i64 z).wf = true := by decide +kernel
theorem fdx_wf : ∀ z ∈ fdx, (Lit.int .i64 z).wf = true := by decide +kernel

set_option maxRecDepth 100000 in
set_option maxHeartbeats 4000000 in
theorem rfixed_any {w : World} :
    Calls Tryz.prog 108 #[] w fun e w' => ∃ a1 c1 a2 c2, e = .returned (.tuple #[.slice a1 288 c1, .slice a2 32 c2]) ∧ IntsAt .i64 w' a1 288 c1 flx ∧ IntsAt .i64 w' a2 32 c2 fdx ∧ Below w.heap.size w w' := by
  obtain ⟨i0, hi, hz0, hz1, hz2⟩ := info_parts info_int7
  obtain ⟨w1, hw1⟩ : ∃ w1, w1 = w.alloc (.cells #[] 3) := ⟨_, rfl⟩
  obtain ⟨w2, hw2⟩ : ∃ w2, w2 = w1.alloc (.cells #[] 3) := ⟨_, rfl⟩
  have s1 : w1.heap.size = w.heap.size + 1 := by rw [hw1]; show (w.heap.push _).size = _; exact Array.size_push ..
  have s2 : w2.heap.size = w1.heap.size + 1 := by rw [hw2]; show (w1.heap.push _).size = _; exact Array.size_push ..
  have b1 : Below w.heap.size w w1 := by rw [hw1]; exact (Below.refl _ _).alloc (Nat.le_refl _) _
  have b12 : Below w1.heap.size w1 w2 := by rw [hw2]; exact (Below.refl _ _).alloc (Nat.le_refl _) _
  have o1 := World.ownsRow_lit (base := w.heap.size) (e := 3) (size := 1) w #[] 0 (Nat.le_refl _) (by unfold maxLen; omega) rfl
  rw [← hw1] at o1
  have o12 := own_below o1 b12
  have o2 := World.ownsRow_lit (base := w.heap.size) (e := 3) (size := 1) w1 #[] 0 (by omega) (by unfold maxLen; omega) rfl
  rw [← hw2] at o2
  have HO1 := Lib.hid o12
  have HO2 := Lib.hid o2
  have HB2 := Lib.hid (b1.trans (b12.mono (by omega)))
  have HW := Lib.hid (show w2 = (w.alloc (.cells #[] 3)).alloc (.cells #[] 3) by rw [hw2, hw1])
  have HS1 := Lib.hid s1
  have HAP := Lib.hid (show ∀ k, (Value.slice (some ⟨w.heap.size, 0, none⟩) 0 0).ownBlock = some k → (Value.slice (some ⟨w1.heap.size, 0, none⟩) 0 0).ownBlock ≠ some k from by
    intro k h1 h2
    simp [Value.ownBlock] at h1 h2
    omega)
  clear hw1 hw2 s1 s2 b1 b12 o1 o12 o2
  go_enter Tryz.func108, Tryz.ntmps108
  go_wp2_with fail
  rw [← HW.out]
  go_loopw [2, 4, 5] (fun s2 s4 _ wr => ∃ s : Nat, s ≤ 288 ∧ s4 = .int .i64 s ∧ Hid (wr.ownsRow w.heap.size 3 1 s2 s (iv .i64 (flx.take s))) ∧ Hid (wr.ownsRow w.heap.size 3 1 (.slice (some ⟨w.heap.size + 1, 0, none⟩) 0 0) 0 (iv .i64 [])) ∧ Hid (∀ k, s2.ownBlock = some k → (Value.slice (some ⟨w.heap.size + 1, 0, none⟩) 0 0).ownBlock ≠ some k) ∧ Hid (Below w.heap.size w wr)) (fun _ s4 _ _ => 288 - (intOf s4).toNat)
  case atStart => exact ⟨0, by omega, rfl, HO1, by rw [← HS1.out]; exact HO2, by rw [← HS1.out]; exact HAP, HB2⟩
  case round =>
    obtain ⟨s, hs, rfl, HL, HD, HA, HB⟩ := hrel
    rename World => wr
    by_cases hlt : s < 288
    · have hv := flx_at hlt
      have hsn := take_snoc_i (l := flx) (s := s) (by rw [flx_len]; exact hlt)
      have hown := HL.out
      have hbs := HB.out.size
      have hda := HD.out
      have main : ∀ z : Int, flx.getD s 0 = z → ∀ (v' : Value) (w' : World), w'.ownsRow w.heap.size 3 1 v' (s + 1) (iv .i64 (flx.take s) ++ [.int .i64 z]) → (wr.alloc (.cells #[.int .i64 z] 3)).grownBy w' u2.ownBlock → (v'.ownBlock = u2.ownBlock ∨ v'.ownBlock = some (wr.heap.size + 1)) →
          Hid (w'.ownsRow w.heap.size 3 1 v' (s + 1) (iv .i64 (flx.take (s + 1)))) ∧ Hid (w'.ownsRow w.heap.size 3 1 (.slice (some ⟨w.heap.size + 1, 0, none⟩) 0 0) 0 (iv .i64 [])) ∧ Hid (∀ k, v'.ownBlock = some k → (Value.slice (some ⟨w.heap.size + 1, 0, none⟩) 0 0).ownBlock ≠ some k) ∧ Hid (Below w.heap.size w w') := by
        intro z hz v' w' h1 h2 h3
        have hal : Below wr.heap.size wr (wr.alloc (.cells #[.int .i64 z] 3)) := (Below.refl _ _).alloc (Nat.le_refl _) _
        have hd2 := hda.alloc (.cells #[.int .i64 z] 3)
        refine ⟨Lib.hid ?_, Lib.hid (apart_kept hd2 h2 HA.out), Lib.hid (apart_grow HA.out (fun k hk => (hda.lt k hk).2) (Nat.le_succ _) h3), Lib.hid ((HB.out.alloc hbs _).grown h2 (Nat.le_trans hbs hal.size) (fun k hk => (hown.lt k hk).1))⟩
        rw [hsn, iv_append, hz]
        exact h1
      have HM := Lib.hid main
      have HS0 := Lib.hid (show w.heap.size ≤ (wr.alloc (.cells #[.int .i64 0] 3)).heap.size from by simp; omega)
      clear main hda hsn
      by_cases c1 : 144 ≤ s ∧ s ≤ 255
      · rw [if_pos c1] at hv
        have HV := Lib.hid hv
        obtain ⟨c1a, c1b⟩ := c1
        have d1 : (144 : Int) ≤ (s : Int) := by omega
        have d2 : (s : Int) ≤ 255 := by omega
        clear hv
        go_wp2_with (at_builtin; refine wpList_append_own_at _ rfl (.tmp 25) (.tmp 27) 77 rfl w.heap.size 3 i0 (.int .i64 0) 1 8 Tryz.underlying77 hi hz0 hz1 hz2 rfl (by decide) _ _ _ rfl (hown.alloc _) ⟨wr.heap.size, 0, none⟩ 1 1 [.int .i64 9] rfl rfl (one_src _ _ _) (one_oneCell rfl) (by unfold maxLen; omega) (by omega) (by simp; omega) ?_)
        intro v' w5 ho5 hg5 _ hat5
        obtain ⟨q1, q2, q3, q4⟩ := HM.out 9 HV.out v' w5 ho5 hg5 hat5
        clear ho5 hg5 hat5 hown
        go_wp2_with fail
        go_roundw
        case rel => exact ⟨s + 1, by omega, by go_num, q1, q2, q3, q4⟩
        case measure => simp [intOf]; omega
      · rw [if_neg c1] at hv
        by_cases c2 : 256 ≤ s ∧ s ≤ 279
        · rw [if_pos c2] at hv
          have HV := Lib.hid hv
          obtain ⟨c2a, c2b⟩ := c2
          have d1 : (144 : Int) ≤ (s : Int) := by omega
          have d2 : ¬ (s : Int) ≤ 255 := by omega
          have d3 : (256 : Int) ≤ (s : Int) := by omega
          have d4 : (s : Int) ≤ 279 := by omega
          clear hv c1
          go_wp2_with (at_builtin; refine wpList_append_own_at _ rfl (.tmp 25) (.tmp 27) 77 rfl w.heap.size 3 i0 (.int .i64 0) 1 8 Tryz.underlying77 hi hz0 hz1 hz2 rfl (by decide) _ _ _ rfl (hown.alloc _) ⟨wr.heap.size, 0, none⟩ 1 1 [.int .i64 7] rfl rfl (one_src _ _ _) (one_oneCell rfl) (by unfold maxLen; omega) (by omega) (by simp; omega) ?_)
          intro v' w5 ho5 hg5 _ hat5
          obtain ⟨q1, q2, q3, q4⟩ := HM.out 7 HV.out v' w5 ho5 hg5 hat5
          clear ho5 hg5 hat5 hown
          go_wp2_with fail
          go_roundw
          case rel => exact ⟨s + 1, by omega, by go_num, q1, q2, q3, q4⟩
          case measure => simp [intOf]; omega
        · rw [if_neg c2] at hv
          have HV := Lib.hid hv
          have c3 : s < 144 ∨ 280 ≤ s := by omega
          clear hv c1 c2
          rcases c3 with c3 | c3
          · have d1 : ¬ (144 : Int) ≤ (s : Int) := by omega
            have d2 : ¬ (256 : Int) ≤ (s : Int) := by omega
            go_wp2_with (at_builtin; refine wpList_append_own_at _ rfl (.tmp 25) (.tmp 27) 77 rfl w.heap.size 3 i0 (.int .i64 0) 1 8 Tryz.underlying77 hi hz0 hz1 hz2 rfl (by decide) _ _ _ rfl (hown.alloc _) ⟨wr.heap.size, 0, none⟩ 1 1 [.int .i64 8] rfl rfl (one_src _ _ _) (one_oneCell rfl) (by unfold maxLen; omega) (by omega) (by simp; omega) ?_)
            intro v' w5 ho5 hg5 _ hat5
            obtain ⟨q1, q2, q3, q4⟩ := HM.out 8 HV.out v' w5 ho5 hg5 hat5
            clear ho5 hg5 hat5 hown
            go_wp2_with fail
            go_roundw
            case rel => exact ⟨s + 1, by omega, by go_num, q1, q2, q3, q4⟩
            case measure => simp [intOf]; omega
          · have d1 : (144 : Int) ≤ (s : Int) := by omega
            have d2 : ¬ (s : Int) ≤ 255 := by omega
            have d3 : (256 : Int) ≤ (s : Int) := by omega
            have d4 : ¬ (s : Int) ≤ 279 := by omega
            go_wp2_with (at_builtin; refine wpList_append_own_at _ rfl (.tmp 25) (.tmp 27) 77 rfl w.heap.size 3 i0 (.int .i64 0) 1 8 Tryz.underlying77 hi hz0 hz1 hz2 rfl (by decide) _ _ _ rfl (hown.alloc _) ⟨wr.heap.size, 0, none⟩ 1 1 [.int .i64 8] rfl rfl (one_src _ _ _) (one_oneCell rfl) (by unfold maxLen; omega) (by omega) (by simp; omega) ?_)
            intro v' w5 ho5 hg5 _ hat5
            obtain ⟨q1, q2, q3, q4⟩ := HM.out 8 HV.out v' w5 ho5 hg5 hat5
            clear ho5 hg5 hat5 hown
            go_wp2_with fail
            go_roundw
            case rel => exact ⟨s + 1, by omega, by go_num, q1, q2, q3, q4⟩
            case measure => simp [intOf]; omega
    · have HLL : Hid (wr.ownsRow w.heap.size 3 1 u2 288 (iv .i64 flx)) := Lib.hid (by
        have ho := HL.out
        have e : s = 288 := by omega
        subst e
        rw [List.take_of_length_le (by rw [flx_len]; exact Nat.le_refl _)] at ho
        exact ho)
      have hsi : ¬ (s : Int) < 288 := by omega
      clear hlt
      go_wp2_with fail
      go_loopw [3, 6] (fun s3 s6 wx => ∃ s : Nat, s ≤ 32 ∧ s6 = .int .i64 s ∧ Hid (wx.ownsRow w.heap.size 3 1 s3 s (iv .i64 (fdx.take s))) ∧ Hid (wx.ownsRow w.heap.size 3 1 u2 288 (iv .i64 flx)) ∧ Hid (∀ k, s3.ownBlock = some k → u2.ownBlock ≠ some k) ∧ Hid (Below w.heap.size w wx)) (fun _ s6 _ => 32 - (intOf s6).toNat)
      case atStart => exact ⟨0, by omega, rfl, HD, HLL, Lib.hid (fun k h1 h2 => HA.out k h2 h1), HB⟩
      case round =>
        obtain ⟨s, hs, rfl, HX, HY, HP, HBX⟩ := hrel
        rename World => wx
        by_cases hlt : s < 32
        · have hv := fdx_at hlt
          have hsn := take_snoc_i (l := fdx) (s := s) (by rw [fdx_len]; exact hlt)
          rw [hv] at hsn
          have HSN := Lib.hid hsn
          have hown := HX.out
          have hbs := HBX.out.size
          clear hsn hv
          go_wp2_with (at_builtin; refine wpList_append_own_at _ rfl (.tmp 33) (.tmp 34) 77 rfl w.heap.size 3 i0 (.int .i64 0) 1 8 Tryz.underlying77 hi hz0 hz1 hz2 rfl (by decide) _ _ _ rfl (hown.alloc _) ⟨wx.heap.size, 0, none⟩ 1 1 [.int .i64 5] rfl rfl (one_src _ _ _) (one_oneCell rfl) (by unfold maxLen; omega) (by omega) (by simp; omega) ?_)
          intro v' w5 ho5 hg5 _ hat5
          have hal : Below wx.heap.size wx (wx.alloc (.cells #[.int .i64 5] 3)) := (Below.refl _ _).alloc (Nat.le_refl _) _
          have q1 := Lib.hid (show w5.ownsRow w.heap.size 3 1 v' (s + 1) (iv .i64 (fdx.take (s + 1))) from by rw [HSN.out, iv_append]; exact ho5)
          have q2 := Lib.hid (apart_kept (HY.out.alloc (.cells #[.int .i64 5] 3)) hg5 HP.out)
          have q3 := Lib.hid (apart_grow HP.out (fun k hk => (HY.out.lt k hk).2) (Nat.le_succ _) hat5)
          have q4 := Lib.hid ((HBX.out.alloc hbs _).grown hg5 (Nat.le_trans hbs hal.size) (fun k hk => (hown.lt k hk).1))
          clear ho5 hg5 hat5 hown hal
          go_wp2_with fail
          go_roundw
          case rel => exact ⟨s + 1, by omega, by go_num, q1, q2, q3, q4⟩
          case measure => simp [intOf]; omega
        · obtain rfl : s = 32 := by omega
          have hx := HX.out
          rw [List.take_of_length_le (by rw [fdx_len]; exact Nat.le_refl _)] at hx
          obtain ⟨a1, c1, rfl, h1, _⟩ := IntsAt.ofOwn HY.out flx_wf
          obtain ⟨a2, c2, rfl, h2, _⟩ := IntsAt.ofOwn hx fdx_wf
          have H1 := Lib.hid h1
          have H2 := Lib.hid h2
          clear hx h1 h2 hlt
          go_wp2_with fail
          first | go_ret2 | go_ret
          exact ⟨a1, c1, a2, c2, rfl, H1.out, H2.out, HBX.out⟩
end Go.Proofs.YtpbijdoemdoijaaGreatDoor
end PkCa49_1
section PkCa49_2
/- The document's tokens, walked. Written by gensqrtok.py. -/
namespace Go.Proofs.YtpbijdoemdoijaaGreatDoor
open Go.RowKit
set_option linter.unusedVariables false

theorem rtok_info : (Tryz.prog.info? 129).map (fun i => (i.zero, i.size, i.bytes)) = some (some (.agg #[.int .i64 0, .int .i64 0, .int .u8 0]), 3, 24) := by kernel_rfl
theorem own_heapT {w w' : World} {base n : Nat} {e : TypeId} {size : Nat} {v : Value} {xs : List Value} (h : w.ownsRow base e size v n xs) (hk : ∀ k, v.ownBlock = some k → w'.heap[k]? = w.heap[k]?) : w'.ownsRow base e size v n xs := by
  refine ⟨h.1, ?_⟩
  rcases h.2 with hn | ⟨g, cap, cur, rfl, hbs, hgg, rest⟩
  · exact .inl hn
  · exact .inr ⟨g, cap, cur, rfl, hbs, (hk g rfl).trans hgg, rest⟩
theorem Two.set3 {T : Nat} {a w : World} (h : Two T T a w) (x y z : Value) : Two T T a (((w.setCell ⟨T, 0, none⟩ x).setCell ⟨T, 1, none⟩ y).setCell ⟨T, 2, none⟩ z) := ((h.setA 0 x).setA 1 y).setA 2 z
/-- what the end of a round needs: whatever the world is called, if its heap is this one with a new row of three cells -/
theorem row_end {w wt wv : World} {T : Nat} {v : Value} {l : List (Nat × Nat × Nat)} {t : Nat × Nat × Nat} {e : TypeId} (hT : w.heap.size ≤ T) (hlt : T < wt.heap.size) (ht2 : Two T T wt wv) (ho : wt.ownsRow w.heap.size e 3 v l.length (tcs l)) (hk : ∀ k, v.ownBlock = some k → k < T) (cs : Array Value) (hcs : cs = tc t) (S : Nat) (hS : S = wv.heap.size) :
    (∀ wq : World, wq.heap = (wv.alloc (.cells cs e)).heap → wq.ownsRow w.heap.size e 3 v l.length (tcs l) ∧ (∀ j u, (tc t).toList[j]? = some u → wq.cell? ((⟨S, 0, none⟩ : Addr).add j) = some u) ∧ w.heap.size ≤ wq.heap.size ∧ T < wq.heap.size ∧ wq.heap[T]? = wv.heap[T]?) := by
  subst hcs
  subst hS
  intro wq hq
  have h1 := ht2.size
  refine ⟨own_heapT ho (fun k hk' => ?_), fun j u hj => ?_, ?_, ?_, ?_⟩
  · have := hk k hk'
    rw [hq, heap_alloc_old _ _ (by omega)]
    exact ht2.block k (by omega) (by omega) (by omega)
  · have := tc_src wv t e j u hj
    unfold World.cell? at this ⊢
    rw [hq]
    exact this
  · rw [hq]
    show w.heap.size ≤ (wv.heap.push _).size
    rw [Array.size_push]
    omega
  · rw [hq]
    show T < (wv.heap.push _).size
    rw [Array.size_push]
    omega
  · rw [hq, heap_alloc_old _ _ (by omega)]

set_option maxRecDepth 100000 in
set_option maxHeartbeats 8000000 in
theorem rtokens_any {w : World} {a : Option Addr} {n c : Nat} {b : List Nat} (h : BytesAt w a n c b) (hn : n ≤ 65536) :
    Calls Tryz.prog 110 #[.slice a n c] w fun e w' => ∃ v, e = .returned v ∧ w'.ownsRow w.heap.size 129 3 v (toks b).length (tcs (toks b)) ∧ Below w.heap.size w w' := by
  obtain ⟨i0, hi, hz0, hz1, hz2⟩ := info_parts rtok_info
  have hcap := h.cap
  have hcm := h.capm
  have hlen := h.len
  have HH := Lib.hid h
  have hown0 : (w.alloc (.cells #[] 129)).ownsRow w.heap.size 129 3 (.slice (some ⟨w.heap.size, 0, none⟩) 0 0) 0 (tcs []) := World.ownsRow_lit (base := w.heap.size) (e := 129) (size := 3) w #[] 0 (Nat.le_refl _) (by unfold maxLen; omega) rfl
  have HO0 := Lib.hid hown0
  clear h hown0
  go_enter Tryz.func110, Tryz.ntmps110
  go_wp2_with fail
  go_loopw [3, 4] (fun s3 s4 wr => ∃ (p : Nat) (l : List (Nat × Nat × Nat)), p ≤ n ∧ s4 = .int .i64 p ∧ l.length ≤ p ∧ Hid (wr.ownsRow w.heap.size 129 3 s3 l.length (tcs l)) ∧ Hid (l ++ toksFrom b (n - p) p = toks b) ∧ Hid (Below w.heap.size w wr)) (fun _ s4 _ => n - (intOf s4).toNat)
  case atStart => exact ⟨0, [], by omega, rfl, by simp, HO0, Lib.hid (by rw [Nat.sub_zero, toks, hlen]; rfl), Lib.hid ((Below.refl _ _).alloc (Nat.le_refl _) _)⟩
  case round =>
    obtain ⟨p, l, hp, rfl, hlp, HO, HL, HB⟩ := hrel
    rename World => wr
    by_cases hpn : p < n
    · have hpi : (p : Int) < (n : Int) := by omega
      obtain ⟨g, off, rfl, hlt, hcell⟩ := bytes_at (HH.out.kept HB.out) (i := p) hpn
      have x0 := hcell p hpn
      obtain ⟨y, hy⟩ : ∃ y, y = b.getD p 0 := ⟨_, rfl⟩
      rw [← hy] at x0
      obtain ⟨wt, hwt⟩ : ∃ wt, wt = wr.alloc (.cells #[.int .i64 0, .int .i64 0, .int .u8 (y : Int)] 129) := ⟨_, rfl⟩
      obtain ⟨T, hT⟩ : ∃ T, T = wr.heap.size := ⟨_, rfl⟩
      have gT : wt.heap[T]? = some (.cells (tc (tokD b p 0)) 129 (0, 0)) := by rw [hwt, hT, tokD_zero, ← hy]; exact heap_alloc_new _ _
      have lT := (Array.getElem?_eq_some_iff.1 gT).1
      have hbt : Below wr.heap.size wr wt := by rw [hwt]; exact (Below.refl _ _).alloc (Nat.le_refl _) _
      have HOT := Lib.hid (own_below HO.out hbt)
      have hwT : w.heap.size ≤ T := by rw [hT]; exact HB.out.size
      have HKT := Lib.hid (show ∀ k, Value.ownBlock u3 = some k → k < T from by rw [hT]; exact own_lt HO.out)
      have HBT := Lib.hid (HB.out.trans (hbt.mono HB.out.size))
      have HGT := Lib.hid gT
      have HWT := Lib.hid hwt
      have HTT := Lib.hid hT
      clear hcell hy gT hbt hwt hT
      go_wp2_with fail
      rw [← HTT.out, ← HWT.out]
      go_loopw [6] (fun s6 wx => ∃ d : Nat, d ≤ min p 32768 ∧ s6 = .int .i64 ((d : Int) + 1) ∧ Hid (wx.heap[T]? = some (.cells (tc (tokD b p d)) 129 (0, 0))) ∧ Hid (Two T T wt wx)) (fun s6 _ => p + 1 - (intOf s6).toNat)
      case atStart => exact ⟨0, by omega, rfl, HGT, Lib.hid (Two.refl T T wt)⟩
      case round =>
        obtain ⟨d, hd, rfl, HTD, HTX⟩ := hrel
        rename World => wx
        obtain ⟨⟨t1, t2, t3⟩, ht⟩ : ∃ t, t = tokD b p d := ⟨_, rfl⟩
        have gx := HTD.out
        rw [← ht] at gx
        have l1 : t1 = (bestD b p d).1 := by rw [← tokD_len, ← ht]
        have m0 := cell_of gx (i := 0) (u := .int .i64 (t1 : Int)) rfl
        have m1 := cell_of gx (i := 1) (u := .int .i64 (t2 : Int)) rfl
        have m2 := cell_of gx (i := 2) (u := .int .u8 (t3 : Int)) rfl
        have n0 := fro_of gx 0
        have n1 := fro_of gx 1
        have n2 := fro_of gx 2
        have HGX := Lib.hid gx
        have HL1 := Lib.hid l1
        have HT := Lib.hid ht
        clear gx l1 ht
        by_cases hdp : d + 1 ≤ p
        · have g1 : (d : Int) + 1 ≤ (p : Int) := by omega
          by_cases hdf : d + 1 ≤ 32768
          · have g2 : (d : Int) + 1 ≤ 32768 := by omega
            have hsx := HTX.out.size
            have hbx : Below w.heap.size w wx := HTX.out.old HBT.out hwT hwT HBT.out.size
            have HA := Lib.hid (by have := alike_any (w := wx) (HH.out.kept hbx) (i := p - (d + 1)) (j := p) (by omega) (by omega); rw [show ((p - (d + 1) : Nat) : Int) = (p : Int) - ((d : Int) + 1) from by omega] at this; exact this)
            obtain ⟨m, hm⟩ : ∃ m, m = like b (p - (d + 1)) p (most b p) := ⟨_, rfl⟩
            rw [← hm] at HA
            have HM := Lib.hid hm
            have hmm : m ≤ 258 := by have := @like_le b (most b p) (p - (d + 1)) p; unfold most at this hm; omega
            have hstep := bestD_step b p d
            rw [← HM.out, ← HL1.out] at hstep
            have HST := Lib.hid hstep
            have HMO := Lib.hid (show most b p ≤ 258 by unfold most; omega)
            clear hm hbx hstep
            go_wp2_with fail
            refine HA.out.mono ?_
            rintro e wy ⟨rfl, q, rfl⟩
            by_cases h3 : 3 ≤ m
            · have g3 : (3 : Int) ≤ (m : Int) := by omega
              by_cases hgt : t1 < m
              · have g4 : (t1 : Int) < (m : Int) := by omega
                have HNB := Lib.hid (show (m, d + 1, 0) = tokD b p (d + 1) by
                  have h1 := HST.out
                  rw [if_pos ⟨h3, hgt⟩] at h1
                  unfold tokD
                  rw [h1, if_neg (by simp only; omega)])
                by_cases h258 : m = 258
                · have h5 : ((m : Int) == 258) = true := by rw [beq_iff_eq]; omega
                  have HEQ := Lib.hid (show (m, d + 1, 0) = tokAt b p by
                    rw [HNB.out]
                    exact end_full (by omega) (by rw [← tokD_len, ← HNB.out]; have := HMO.out; simp only; omega))
                  clear h258
                  have HTV := Lib.hid (HTX.out.set3 (.int .i64 (m : Int)) (.int .i64 ((d : Int) + 1)) (.int .u8 0))
                  have HRE := Lib.hid (row_end (w := w) (wv := ((wx.setCell ⟨T, 0, none⟩ (.int .i64 (m : Int))).setCell ⟨T, 1, none⟩ (.int .i64 ((d : Int) + 1))).setCell ⟨T, 2, none⟩ (.int .u8 0)) (t := (m, d + 1, 0)) hwT lT HTV.out HOT.out HKT.out #[.int .i64 (m : Int), .int .i64 ((d : Int) + 1), .int .u8 0] (by simp [tc]) wx.heap.size (by first | rfl | simp only [World.setCell, Array.size_modify]))
                  have HLL := Lib.hid (show (l ++ [(m, d + 1, 0)]) ++ toksFrom b (n - (p + max 1 (m))) (p + max 1 (m)) = toks b by
                    have h1 := toks_next (b := b) (p := p) (by omega)
                    rw [← HEQ.out, hlen] at h1
                    rw [← HL.out, h1, List.append_assoc]
                    rfl)
                  have hps := tok_pos (b := b) (p := p) (by omega)
                  rw [← HEQ.out, hlen] at hps
                  simp only at hps
                  obtain ⟨sz, hsz2⟩ : ∃ sz, sz = max 1 (m) := ⟨_, rfl⟩
                  rw [← hsz2] at hps HLL
                  have hszi : max (m : Int) 1 = (sz : Int) := by omega
                  clear hsz2
                  go_wp2_with (at_builtin; refine wpList_append_own_at _ rfl (.tmp 46) (.tmp 48) 126 rfl w.heap.size 129 i0 _ 3 24 Tryz.underlying126 hi hz0 hz1 hz2 rfl (by decide) _ _ _ rfl (HRE.out _ rfl).1 ⟨wx.heap.size, 0, none⟩ 1 1 (tc (m, d + 1, 0)).toList rfl rfl (HRE.out _ rfl).2.1 (tc_one _) (by unfold maxLen; omega) (by omega) (HRE.out _ rfl).2.2.1 ?_)
                  intro v' w5 ho5 hg5 _ hat5
                  have hbv : Below w.heap.size w (((wx.setCell ⟨T, 0, none⟩ (.int .i64 (m : Int))).setCell ⟨T, 1, none⟩ (.int .i64 ((d : Int) + 1))).setCell ⟨T, 2, none⟩ (.int .u8 0)) := HTV.out.old HBT.out hwT hwT HBT.out.size
                  have hbq := hbv.alloc hbv.size (.cells #[.int .i64 (m : Int), .int .i64 ((d : Int) + 1), .int .u8 0] 129)
                  have HB5 := Lib.hid (show Below w.heap.size w w5 by
                    refine Below.grown (a := w) (B := w.heap.size) ?_ hg5 (HRE.out _ rfl).2.2.1 (own_block HOT.out)
                    exact ⟨hbq.os, hbq.tape, hbq.output, hbq.size, hbq.block⟩)
                  have gT5 := ((hg5.block T (HRE.out _ rfl).2.2.2.1 (fun e => by have := HKT.out T e.symm; omega)).trans (HRE.out _ rfl).2.2.2.2).trans (set3 HGX.out _ _ _)
                  have m5 := cell_of gT5 (i := 0) (u := .int .i64 (m : Int)) rfl
                  have HO5 := Lib.hid (show w5.ownsRow w.heap.size 129 3 v' (l ++ [(m, d + 1, 0)]).length (tcs (l ++ [(m, d + 1, 0)])) from by rw [tcs_snoc, List.length_append]; exact ho5)
                  clear ho5 hg5 hat5 hbv hbq gT5
                  go_wp2_with fail
                  go_roundw
                  case rel => exact ⟨p + sz, _, by omega, by go_num, by simp; omega, HO5, HLL, HB5⟩
                  case measure => simp [intOf]; omega
                · have h5 : ((m : Int) == 258) = false := by rw [beq_eq_false_iff_ne]; omega
                  go_wp2_with fail
                  go_roundw
                  case rel => exact ⟨d + 1, by omega, by go_num, Lib.hid (by rw [← HNB.out]; exact set3 HGX.out _ _ _), Lib.hid ((HTX.out.set3 _ _ _).drewN _)⟩
                  case measure => simp [intOf]; omega
              · have g4 : decide ((t1 : Int) < (m : Int)) = false := decide_eq_false (by omega)
                have HNB := Lib.hid (show (t1, t2, t3) = tokD b p (d + 1) by
                  rw [HT.out]
                  refine tokD_congr ?_
                  have h1 := HST.out
                  rw [if_neg (fun h => hgt h.2)] at h1
                  exact h1.symm)
                by_cases h258 : m = 258
                · have h5 : ((m : Int) == 258) = true := by rw [beq_iff_eq]; omega
                  have HEQ := Lib.hid (show (t1, t2, t3) = tokAt b p by
                    rw [HNB.out]
                    exact end_full (by omega) (by rw [← tokD_len, ← HNB.out]; have := HMO.out; simp only; omega))
                  clear h258
                  have HTV := HTX
                  have HRE := Lib.hid (row_end (w := w) (wv := wx) (t := (t1, t2, t3)) hwT lT HTV.out HOT.out HKT.out #[.int .i64 (t1 : Int), .int .i64 (t2 : Int), .int .u8 (t3 : Int)] (by simp [tc]) wx.heap.size (by first | rfl | simp only [World.setCell, Array.size_modify]))
                  have HLL := Lib.hid (show (l ++ [(t1, t2, t3)]) ++ toksFrom b (n - (p + max 1 (t1))) (p + max 1 (t1)) = toks b by
                    have h1 := toks_next (b := b) (p := p) (by omega)
                    rw [← HEQ.out, hlen] at h1
                    rw [← HL.out, h1, List.append_assoc]
                    rfl)
                  have hps := tok_pos (b := b) (p := p) (by omega)
                  rw [← HEQ.out, hlen] at hps
                  simp only at hps
                  obtain ⟨sz, hsz2⟩ : ∃ sz, sz = max 1 (t1) := ⟨_, rfl⟩
                  rw [← hsz2] at hps HLL
                  have hszi : max (t1 : Int) 1 = (sz : Int) := by omega
                  clear hsz2
                  go_wp2_with (at_builtin; refine wpList_append_own_at _ rfl (.tmp 46) (.tmp 48) 126 rfl w.heap.size 129 i0 _ 3 24 Tryz.underlying126 hi hz0 hz1 hz2 rfl (by decide) _ _ _ rfl (HRE.out _ rfl).1 ⟨wx.heap.size, 0, none⟩ 1 1 (tc (t1, t2, t3)).toList rfl rfl (HRE.out _ rfl).2.1 (tc_one _) (by unfold maxLen; omega) (by omega) (HRE.out _ rfl).2.2.1 ?_)
                  intro v' w5 ho5 hg5 _ hat5
                  have hbv : Below w.heap.size w (wx) := HTV.out.old HBT.out hwT hwT HBT.out.size
                  have hbq := hbv.alloc hbv.size (.cells #[.int .i64 (t1 : Int), .int .i64 (t2 : Int), .int .u8 (t3 : Int)] 129)
                  have HB5 := Lib.hid (show Below w.heap.size w w5 by
                    refine Below.grown (a := w) (B := w.heap.size) ?_ hg5 (HRE.out _ rfl).2.2.1 (own_block HOT.out)
                    exact ⟨hbq.os, hbq.tape, hbq.output, hbq.size, hbq.block⟩)
                  have gT5 := ((hg5.block T (HRE.out _ rfl).2.2.2.1 (fun e => by have := HKT.out T e.symm; omega)).trans (HRE.out _ rfl).2.2.2.2).trans HGX.out
                  have m5 := cell_of gT5 (i := 0) (u := .int .i64 (t1 : Int)) rfl
                  have HO5 := Lib.hid (show w5.ownsRow w.heap.size 129 3 v' (l ++ [(t1, t2, t3)]).length (tcs (l ++ [(t1, t2, t3)])) from by rw [tcs_snoc, List.length_append]; exact ho5)
                  clear ho5 hg5 hat5 hbv hbq gT5
                  go_wp2_with fail
                  go_roundw
                  case rel => exact ⟨p + sz, _, by omega, by go_num, by simp; omega, HO5, HLL, HB5⟩
                  case measure => simp [intOf]; omega
                · have h5 : ((m : Int) == 258) = false := by rw [beq_eq_false_iff_ne]; omega
                  go_wp2_with fail
                  go_roundw
                  case rel => exact ⟨d + 1, by omega, by go_num, Lib.hid (by rw [← HNB.out]; exact HGX.out), Lib.hid (HTX.out.drewN _)⟩
                  case measure => simp [intOf]; omega
            · have g3 : decide ((3 : Int) ≤ (m : Int)) = false := decide_eq_false (by omega)
              have h5 : ((m : Int) == 258) = false := by rw [beq_eq_false_iff_ne]; omega
              have HNB := Lib.hid (show (t1, t2, t3) = tokD b p (d + 1) by
                rw [HT.out]
                refine tokD_congr ?_
                have h1 := HST.out
                rw [if_neg (fun h => h3 h.1)] at h1
                exact h1.symm)
              go_wp2_with fail
              go_roundw
              case rel => exact ⟨d + 1, by omega, by go_num, Lib.hid (by rw [← HNB.out]; exact HGX.out), Lib.hid (HTX.out.drewN _)⟩
              case measure => simp [intOf]; omega
          · have g2 : decide ((d : Int) + 1 ≤ 32768) = false := decide_eq_false (by omega)
            have HEQ := Lib.hid (show (t1, t2, t3) = tokAt b p by rw [HT.out, tokAt_eq, show d = min p 32768 from by omega])
            have HTV := HTX
            have HRE := Lib.hid (row_end (w := w) (wv := wx) (t := (t1, t2, t3)) hwT lT HTV.out HOT.out HKT.out #[.int .i64 (t1 : Int), .int .i64 (t2 : Int), .int .u8 (t3 : Int)] (by simp [tc]) wx.heap.size (by first | rfl | simp only [World.setCell, Array.size_modify]))
            have HLL := Lib.hid (show (l ++ [(t1, t2, t3)]) ++ toksFrom b (n - (p + max 1 (t1))) (p + max 1 (t1)) = toks b by
              have h1 := toks_next (b := b) (p := p) (by omega)
              rw [← HEQ.out, hlen] at h1
              rw [← HL.out, h1, List.append_assoc]
              rfl)
            have hps := tok_pos (b := b) (p := p) (by omega)
            rw [← HEQ.out, hlen] at hps
            simp only at hps
            obtain ⟨sz, hsz2⟩ : ∃ sz, sz = max 1 (t1) := ⟨_, rfl⟩
            rw [← hsz2] at hps HLL
            have hszi : max (t1 : Int) 1 = (sz : Int) := by omega
            clear hsz2
            go_wp2_with (at_builtin; refine wpList_append_own_at _ rfl (.tmp 46) (.tmp 48) 126 rfl w.heap.size 129 i0 _ 3 24 Tryz.underlying126 hi hz0 hz1 hz2 rfl (by decide) _ _ _ rfl (HRE.out _ rfl).1 ⟨wx.heap.size, 0, none⟩ 1 1 (tc (t1, t2, t3)).toList rfl rfl (HRE.out _ rfl).2.1 (tc_one _) (by unfold maxLen; omega) (by omega) (HRE.out _ rfl).2.2.1 ?_)
            intro v' w5 ho5 hg5 _ hat5
            have hbv : Below w.heap.size w (wx) := HTV.out.old HBT.out hwT hwT HBT.out.size
            have hbq := hbv.alloc hbv.size (.cells #[.int .i64 (t1 : Int), .int .i64 (t2 : Int), .int .u8 (t3 : Int)] 129)
            have HB5 := Lib.hid (show Below w.heap.size w w5 by
              refine Below.grown (a := w) (B := w.heap.size) ?_ hg5 (HRE.out _ rfl).2.2.1 (own_block HOT.out)
              exact ⟨hbq.os, hbq.tape, hbq.output, hbq.size, hbq.block⟩)
            have gT5 := ((hg5.block T (HRE.out _ rfl).2.2.2.1 (fun e => by have := HKT.out T e.symm; omega)).trans (HRE.out _ rfl).2.2.2.2).trans HGX.out
            have m5 := cell_of gT5 (i := 0) (u := .int .i64 (t1 : Int)) rfl
            have HO5 := Lib.hid (show w5.ownsRow w.heap.size 129 3 v' (l ++ [(t1, t2, t3)]).length (tcs (l ++ [(t1, t2, t3)])) from by rw [tcs_snoc, List.length_append]; exact ho5)
            clear ho5 hg5 hat5 hbv hbq gT5
            go_wp2_with fail
            go_roundw
            case rel => exact ⟨p + sz, _, by omega, by go_num, by simp; omega, HO5, HLL, HB5⟩
            case measure => simp [intOf]; omega
        · have g1 : decide ((d : Int) + 1 ≤ (p : Int)) = false := decide_eq_false (by omega)
          have HEQ := Lib.hid (show (t1, t2, t3) = tokAt b p by rw [HT.out, tokAt_eq, show d = min p 32768 from by omega])
          have HTV := HTX
          have HRE := Lib.hid (row_end (w := w) (wv := wx) (t := (t1, t2, t3)) hwT lT HTV.out HOT.out HKT.out #[.int .i64 (t1 : Int), .int .i64 (t2 : Int), .int .u8 (t3 : Int)] (by simp [tc]) wx.heap.size (by first | rfl | simp only [World.setCell, Array.size_modify]))
          have HLL := Lib.hid (show (l ++ [(t1, t2, t3)]) ++ toksFrom b (n - (p + max 1 (t1))) (p + max 1 (t1)) = toks b by
            have h1 := toks_next (b := b) (p := p) (by omega)
            rw [← HEQ.out, hlen] at h1
            rw [← HL.out, h1, List.append_assoc]
            rfl)
          have hps := tok_pos (b := b) (p := p) (by omega)
          rw [← HEQ.out, hlen] at hps
          simp only at hps
          obtain ⟨sz, hsz2⟩ : ∃ sz, sz = max 1 (t1) := ⟨_, rfl⟩
          rw [← hsz2] at hps HLL
          have hszi : max (t1 : Int) 1 = (sz : Int) := by omega
          clear hsz2
          go_wp2_with (at_builtin; refine wpList_append_own_at _ rfl (.tmp 46) (.tmp 48) 126 rfl w.heap.size 129 i0 _ 3 24 Tryz.underlying126 hi hz0 hz1 hz2 rfl (by decide) _ _ _ rfl (HRE.out _ rfl).1 ⟨wx.heap.size, 0, none⟩ 1 1 (tc (t1, t2, t3)).toList rfl rfl (HRE.out _ rfl).2.1 (tc_one _) (by unfold maxLen; omega) (by omega) (HRE.out _ rfl).2.2.1 ?_)
          intro v' w5 ho5 hg5 _ hat5
          have hbv : Below w.heap.size w (wx) := HTV.out.old HBT.out hwT hwT HBT.out.size
          have hbq := hbv.alloc hbv.size (.cells #[.int .i64 (t1 : Int), .int .i64 (t2 : Int), .int .u8 (t3 : Int)] 129)
          have HB5 := Lib.hid (show Below w.heap.size w w5 by
            refine Below.grown (a := w) (B := w.heap.size) ?_ hg5 (HRE.out _ rfl).2.2.1 (own_block HOT.out)
            exact ⟨hbq.os, hbq.tape, hbq.output, hbq.size, hbq.block⟩)
          have gT5 := ((hg5.block T (HRE.out _ rfl).2.2.2.1 (fun e => by have := HKT.out T e.symm; omega)).trans (HRE.out _ rfl).2.2.2.2).trans HGX.out
          have m5 := cell_of gT5 (i := 0) (u := .int .i64 (t1 : Int)) rfl
          have HO5 := Lib.hid (show w5.ownsRow w.heap.size 129 3 v' (l ++ [(t1, t2, t3)]).length (tcs (l ++ [(t1, t2, t3)])) from by rw [tcs_snoc, List.length_append]; exact ho5)
          clear ho5 hg5 hat5 hbv hbq gT5
          go_wp2_with fail
          go_roundw
          case rel => exact ⟨p + sz, _, by omega, by go_num, by simp; omega, HO5, HLL, HB5⟩
          case measure => simp [intOf]; omega
    · have hpn' : p = n := by omega
      subst hpn'
      have hLL := HL.out
      rw [Nat.sub_self, toksFrom, List.append_nil] at hLL
      have HLL := Lib.hid hLL
      clear hLL
      have hni2 : ¬ ((p : Int) < (p : Int)) := by omega
      go_wp2_with fail
      first | go_ret2 | go_ret
      refine ⟨_, rfl, ?_, HB.out⟩
      rw [← HLL.out]
      exact HO.out
end Go.Proofs.YtpbijdoemdoijaaGreatDoor
end PkCa49_2
