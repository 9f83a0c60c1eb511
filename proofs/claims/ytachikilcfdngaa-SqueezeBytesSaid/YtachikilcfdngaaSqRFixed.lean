/- The lengths of the fixed codes, as the document makes them (entrepotref06.Fixed), walked. -/
import Derived.Test.YtachikilcfdngaaSqWords
import Derived.Test.YtachikilcfdngaaInts
import Derived.Maps.AppendAt
namespace Go.Proofs.Ytachikilcfdngaa
open Go.RowKit BitsPlain PrefPlain
set_option linter.unusedVariables false

theorem info_int7 : (Try.prog.info? 3).map (fun i => (i.zero, i.size, i.bytes)) = some (some (.int .i64 0), 1, 8) := by kernel_rfl
theorem apart_grow {v v' d : Value} {N N' : Nat} (h : ∀ k, v.ownBlock = some k → d.ownBlock ≠ some k) (hd : ∀ k, d.ownBlock = some k → k < N) (hN : N ≤ N') (hat : v'.ownBlock = v.ownBlock ∨ v'.ownBlock = some N') : ∀ k, v'.ownBlock = some k → d.ownBlock ≠ some k := by
  intro k hk hk2
  rcases hat with e | e
  · rw [e] at hk; exact h k hk hk2
  · rw [e] at hk
    cases hk
    have := hd _ hk2
    omega
theorem apart_kept {w w' : World} {base n size : Nat} {e : TypeId} {v d : Value} {xs : List Value} (h : w.ownsRow base e size d n xs) (hg : w.grownBy w' v.ownBlock) (ha : ∀ k, v.ownBlock = some k → d.ownBlock ≠ some k) : w'.ownsRow base e size d n xs := by
  refine h.kept hg ?_
  cases hv : d.ownBlock with
  | none => exact .inl rfl
  | some k => exact .inr fun e => ha k e.symm hv
theorem take_snoc_i {l : List Int} {s : Nat} (h : s < l.length) : l.take (s + 1) = l.take s ++ [l.getD s 0] := by
  rw [List.take_add_one, List.getElem?_eq_getElem h]
  simp [h]
theorem flx_at {s : Nat} (h : s < 288) : flx.getD s 0 = if 144 ≤ s ∧ s ≤ 255 then 9 else if 256 ≤ s ∧ s ≤ 279 then 7 else 8 := by
  have : ∀ s, s < 288 → flx.getD s 0 = if 144 ≤ s ∧ s ≤ 255 then 9 else if 256 ≤ s ∧ s ≤ 279 then 7 else 8 := by decide +kernel
  exact this s h
theorem fdx_at {s : Nat} (h : s < 32) : fdx.getD s 0 = 5 := (x5 s h).1
theorem flx_wf : ∀ z ∈ flx, (Lit.int .i64 z).wf = true := by decide +kernel
theorem fdx_wf : ∀ z ∈ fdx, (Lit.int .i64 z).wf = true := by decide +kernel

set_option maxRecDepth 100000 in
set_option maxHeartbeats 4000000 in
theorem rfixed_any {w : World} :
    Calls Try.prog 53 #[] w fun e w' => ∃ a1 c1 a2 c2, e = .returned (.tuple #[.slice a1 288 c1, .slice a2 32 c2]) ∧ IntsAt .i64 w' a1 288 c1 flx ∧ IntsAt .i64 w' a2 32 c2 fdx ∧ Below w.heap.size w w' := by
  obtain ⟨i0, hi, hz0, hz1, hz2⟩ := info_parts info_int7
  obtain ⟨w1, hw1⟩ : ∃ w1, w1 = w.alloc (.cells #[] 3) := ⟨_, rfl⟩
  obtain ⟨w2, hw2⟩ : ∃ w2, w2 = w1.alloc (.cells #[] 3) := ⟨_, rfl⟩
  have s1 : w1.heap.size = w.heap.size + 1 := by rw [hw1]; show (w.heap.push _).size = _; exact Array.size_push ..
  have s2 : w2.heap.size = w1.heap.size + 1 := by rw [hw2]; show (w1.heap.push _).size = _; exact Array.size_push ..
  have b1 : Below w.heap.size w w1 := by rw [hw1]; exact (Below.refl _ _).alloc (Nat.le_refl _) _
  have b12 : Below w1.heap.size w1 w2 := by rw [hw2]; exact (Below.refl _ _).alloc (Nat.le_refl _) _
  have o1 := World.ownsRow_lit (base := w.heap.size) (e := 3) (size := 1) w #[] 0 (Nat.le_refl _) (by unfold maxLen; omega) rfl
  rw [← hw1] at o1
  have o12 := own_below o1 b12
  have o2 := World.ownsRow_lit (base := w.heap.size) (e := 3) (size := 1) w1 #[] 0 (by omega) (by unfold maxLen; omega) rfl
  rw [← hw2] at o2
  have HO1 := Lib.hid o12
  have HO2 := Lib.hid o2
  have HB2 := Lib.hid (b1.trans (b12.mono (by omega)))
  have HW := Lib.hid (show w2 = (w.alloc (.cells #[] 3)).alloc (.cells #[] 3) by rw [hw2, hw1])
  have HS1 := Lib.hid s1
  have HAP := Lib.hid (show ∀ k, (Value.slice (some ⟨w.heap.size, 0, none⟩) 0 0).ownBlock = some k → (Value.slice (some ⟨w1.heap.size, 0, none⟩) 0 0).ownBlock ≠ some k from by
    intro k h1 h2
    simp [Value.ownBlock] at h1 h2
    omega)
  clear hw1 hw2 s1 s2 b1 b12 o1 o12 o2
  go_enter Try.func53, Try.ntmps53
  go_wp2_with fail
  rw [← HW.out]
  go_loopw [2, 4, 5] (fun s2 s4 _ wr => ∃ s : Nat, s ≤ 288 ∧ s4 = .int .i64 s ∧ Hid (wr.ownsRow w.heap.size 3 1 s2 s (iv .i64 (flx.take s))) ∧ Hid (wr.ownsRow w.heap.size 3 1 (.slice (some ⟨w.heap.size + 1, 0, none⟩) 0 0) 0 (iv .i64 [])) ∧ Hid (∀ k, s2.ownBlock = some k → (Value.slice (some ⟨w.heap.size + 1, 0, none⟩) 0 0).ownBlock ≠ some k) ∧ Hid (Below w.heap.size w wr)) (fun _ s4 _ _ => 288 - (intOf s4).toNat)
  case atStart => exact ⟨0, by omega, rfl, HO1, by rw [← HS1.out]; exact HO2, by rw [← HS1.out]; exact HAP, HB2⟩
  case round =>
    obtain ⟨s, hs, rfl, HL, HD, HA, HB⟩ := hrel
    rename World => wr
    by_cases hlt : s < 288
    · have hv := flx_at hlt
      have hsn := take_snoc_i (l := flx) (s := s) (by rw [flx_len]; exact hlt)
      have hown := HL.out
      have hbs := HB.out.size
      have hda := HD.out
      have main : ∀ z : Int, flx.getD s 0 = z → ∀ (v' : Value) (w' : World), w'.ownsRow w.heap.size 3 1 v' (s + 1) (iv .i64 (flx.take s) ++ [.int .i64 z]) → (wr.alloc (.cells #[.int .i64 z] 3)).grownBy w' u2.ownBlock → (v'.ownBlock = u2.ownBlock ∨ v'.ownBlock = some (wr.heap.size + 1)) →
          Hid (w'.ownsRow w.heap.size 3 1 v' (s + 1) (iv .i64 (flx.take (s + 1)))) ∧ Hid (w'.ownsRow w.heap.size 3 1 (.slice (some ⟨w.heap.size + 1, 0, none⟩) 0 0) 0 (iv .i64 [])) ∧ Hid (∀ k, v'.ownBlock = some k → (Value.slice (some ⟨w.heap.size + 1, 0, none⟩) 0 0).ownBlock ≠ some k) ∧ Hid (Below w.heap.size w w') := by
        intro z hz v' w' h1 h2 h3
        have hal : Below wr.heap.size wr (wr.alloc (.cells #[.int .i64 z] 3)) := (Below.refl _ _).alloc (Nat.le_refl _) _
        have hd2 := hda.alloc (.cells #[.int .i64 z] 3)
        refine ⟨Lib.hid ?_, Lib.hid (apart_kept hd2 h2 HA.out), Lib.hid (apart_grow HA.out (fun k hk => (hda.lt k hk).2) (Nat.le_succ _) h3), Lib.hid ((HB.out.alloc hbs _).grown h2 (Nat.le_trans hbs hal.size) (fun k hk => (hown.lt k hk).1))⟩
        rw [hsn, iv_append, hz]
        exact h1
      have HM := Lib.hid main
      have HS0 := Lib.hid (show w.heap.size ≤ (wr.alloc (.cells #[.int .i64 0] 3)).heap.size from by simp; omega)
      clear main hda hsn
      by_cases c1 : 144 ≤ s ∧ s ≤ 255
      · rw [if_pos c1] at hv
        have HV := Lib.hid hv
        obtain ⟨c1a, c1b⟩ := c1
        have d1 : (144 : Int) ≤ (s : Int) := by omega
        have d2 : (s : Int) ≤ 255 := by omega
        clear hv
        go_wp2_with (at_builtin; refine wpList_append_own_at _ rfl (.tmp 25) (.tmp 27) 23 rfl w.heap.size 3 i0 (.int .i64 0) 1 8 Try.underlying23 hi hz0 hz1 hz2 rfl (by decide) _ _ _ rfl (hown.alloc _) ⟨wr.heap.size, 0, none⟩ 1 1 [.int .i64 9] rfl rfl (one_src _ _ _) (one_oneCell rfl) (by unfold maxLen; omega) (by omega) (by simp; omega) ?_)
        intro v' w5 ho5 hg5 _ hat5
        obtain ⟨q1, q2, q3, q4⟩ := HM.out 9 HV.out v' w5 ho5 hg5 hat5
        clear ho5 hg5 hat5 hown
        go_wp2_with fail
        go_roundw
        case rel => exact ⟨s + 1, by omega, by go_num, q1, q2, q3, q4⟩
        case measure => simp [intOf]; omega
      · rw [if_neg c1] at hv
        by_cases c2 : 256 ≤ s ∧ s ≤ 279
        · rw [if_pos c2] at hv
          have HV := Lib.hid hv
          obtain ⟨c2a, c2b⟩ := c2
          have d1 : (144 : Int) ≤ (s : Int) := by omega
          have d2 : ¬ (s : Int) ≤ 255 := by omega
          have d3 : (256 : Int) ≤ (s : Int) := by omega
          have d4 : (s : Int) ≤ 279 := by omega
          clear hv c1
          go_wp2_with (at_builtin; refine wpList_append_own_at _ rfl (.tmp 25) (.tmp 27) 23 rfl w.heap.size 3 i0 (.int .i64 0) 1 8 Try.underlying23 hi hz0 hz1 hz2 rfl (by decide) _ _ _ rfl (hown.alloc _) ⟨wr.heap.size, 0, none⟩ 1 1 [.int .i64 7] rfl rfl (one_src _ _ _) (one_oneCell rfl) (by unfold maxLen; omega) (by omega) (by simp; omega) ?_)
          intro v' w5 ho5 hg5 _ hat5
          obtain ⟨q1, q2, q3, q4⟩ := HM.out 7 HV.out v' w5 ho5 hg5 hat5
          clear ho5 hg5 hat5 hown
          go_wp2_with fail
          go_roundw
          case rel => exact ⟨s + 1, by omega, by go_num, q1, q2, q3, q4⟩
          case measure => simp [intOf]; omega
        · rw [if_neg c2] at hv
          have HV := Lib.hid hv
          have c3 : s < 144 ∨ 280 ≤ s := by omega
          clear hv c1 c2
          rcases c3 with c3 | c3
          · have d1 : ¬ (144 : Int) ≤ (s : Int) := by omega
            have d2 : ¬ (256 : Int) ≤ (s : Int) := by omega
            go_wp2_with (at_builtin; refine wpList_append_own_at _ rfl (.tmp 25) (.tmp 27) 23 rfl w.heap.size 3 i0 (.int .i64 0) 1 8 Try.underlying23 hi hz0 hz1 hz2 rfl (by decide) _ _ _ rfl (hown.alloc _) ⟨wr.heap.size, 0, none⟩ 1 1 [.int .i64 8] rfl rfl (one_src _ _ _) (one_oneCell rfl) (by unfold maxLen; omega) (by omega) (by simp; omega) ?_)
            intro v' w5 ho5 hg5 _ hat5
            obtain ⟨q1, q2, q3, q4⟩ := HM.out 8 HV.out v' w5 ho5 hg5 hat5
            clear ho5 hg5 hat5 hown
            go_wp2_with fail
            go_roundw
            case rel => exact ⟨s + 1, by omega, by go_num, q1, q2, q3, q4⟩
            case measure => simp [intOf]; omega
          · have d1 : (144 : Int) ≤ (s : Int) := by omega
            have d2 : ¬ (s : Int) ≤ 255 := by omega
            have d3 : (256 : Int) ≤ (s : Int) := by omega
            have d4 : ¬ (s : Int) ≤ 279 := by omega
            go_wp2_with (at_builtin; refine wpList_append_own_at _ rfl (.tmp 25) (.tmp 27) 23 rfl w.heap.size 3 i0 (.int .i64 0) 1 8 Try.underlying23 hi hz0 hz1 hz2 rfl (by decide) _ _ _ rfl (hown.alloc _) ⟨wr.heap.size, 0, none⟩ 1 1 [.int .i64 8] rfl rfl (one_src _ _ _) (one_oneCell rfl) (by unfold maxLen; omega) (by omega) (by simp; omega) ?_)
            intro v' w5 ho5 hg5 _ hat5
            obtain ⟨q1, q2, q3, q4⟩ := HM.out 8 HV.out v' w5 ho5 hg5 hat5
            clear ho5 hg5 hat5 hown
            go_wp2_with fail
            go_roundw
            case rel => exact ⟨s + 1, by omega, by go_num, q1, q2, q3, q4⟩
            case measure => simp [intOf]; omega
    · have HLL : Hid (wr.ownsRow w.heap.size 3 1 u2 288 (iv .i64 flx)) := Lib.hid (by
        have ho := HL.out
        have e : s = 288 := by omega
        subst e
        rw [List.take_of_length_le (by rw [flx_len]; exact Nat.le_refl _)] at ho
        exact ho)
      have hsi : ¬ (s : Int) < 288 := by omega
      clear hlt
      go_wp2_with fail
      go_loopw [3, 6] (fun s3 s6 wx => ∃ s : Nat, s ≤ 32 ∧ s6 = .int .i64 s ∧ Hid (wx.ownsRow w.heap.size 3 1 s3 s (iv .i64 (fdx.take s))) ∧ Hid (wx.ownsRow w.heap.size 3 1 u2 288 (iv .i64 flx)) ∧ Hid (∀ k, s3.ownBlock = some k → u2.ownBlock ≠ some k) ∧ Hid (Below w.heap.size w wx)) (fun _ s6 _ => 32 - (intOf s6).toNat)
      case atStart => exact ⟨0, by omega, rfl, HD, HLL, Lib.hid (fun k h1 h2 => HA.out k h2 h1), HB⟩
      case round =>
        obtain ⟨s, hs, rfl, HX, HY, HP, HBX⟩ := hrel
        rename World => wx
        by_cases hlt : s < 32
        · have hv := fdx_at hlt
          have hsn := take_snoc_i (l := fdx) (s := s) (by rw [fdx_len]; exact hlt)
          rw [hv] at hsn
          have HSN := Lib.hid hsn
          have hown := HX.out
          have hbs := HBX.out.size
          clear hsn hv
          go_wp2_with (at_builtin; refine wpList_append_own_at _ rfl (.tmp 33) (.tmp 34) 23 rfl w.heap.size 3 i0 (.int .i64 0) 1 8 Try.underlying23 hi hz0 hz1 hz2 rfl (by decide) _ _ _ rfl (hown.alloc _) ⟨wx.heap.size, 0, none⟩ 1 1 [.int .i64 5] rfl rfl (one_src _ _ _) (one_oneCell rfl) (by unfold maxLen; omega) (by omega) (by simp; omega) ?_)
          intro v' w5 ho5 hg5 _ hat5
          have hal : Below wx.heap.size wx (wx.alloc (.cells #[.int .i64 5] 3)) := (Below.refl _ _).alloc (Nat.le_refl _) _
          have q1 := Lib.hid (show w5.ownsRow w.heap.size 3 1 v' (s + 1) (iv .i64 (fdx.take (s + 1))) from by rw [HSN.out, iv_append]; exact ho5)
          have q2 := Lib.hid (apart_kept (HY.out.alloc (.cells #[.int .i64 5] 3)) hg5 HP.out)
          have q3 := Lib.hid (apart_grow HP.out (fun k hk => (HY.out.lt k hk).2) (Nat.le_succ _) hat5)
          have q4 := Lib.hid ((HBX.out.alloc hbs _).grown hg5 (Nat.le_trans hbs hal.size) (fun k hk => (hown.lt k hk).1))
          clear ho5 hg5 hat5 hown hal
          go_wp2_with fail
          go_roundw
          case rel => exact ⟨s + 1, by omega, by go_num, q1, q2, q3, q4⟩
          case measure => simp [intOf]; omega
        · obtain rfl : s = 32 := by omega
          have hx := HX.out
          rw [List.take_of_length_le (by rw [fdx_len]; exact Nat.le_refl _)] at hx
          obtain ⟨a1, c1, rfl, h1, _⟩ := IntsAt.ofOwn HY.out flx_wf
          obtain ⟨a2, c2, rfl, h2, _⟩ := IntsAt.ofOwn hx fdx_wf
          have H1 := Lib.hid h1
          have H2 := Lib.hid h2
          clear hx h1 h2 hlt
          go_wp2_with fail
          first | go_ret2 | go_ret
          exact ⟨a1, c1, a2, c2, rfl, H1.out, H2.out, HBX.out⟩
end Go.Proofs.Ytachikilcfdngaa
