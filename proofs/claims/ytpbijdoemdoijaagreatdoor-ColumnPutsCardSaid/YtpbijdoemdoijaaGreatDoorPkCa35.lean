/- Texts put together by packtpl2.py: DeltaRef2, DeltaRef3. -/
import Derived.Test.YtpbijdoemdoijaaGreatDoorPkCa34
section PkCa35_0
/- The document's Turn and Encode of rows, walked. -/
namespace Go.Proofs.YtpbijdoemdoijaaGreatDoor
open Go.RowKit NumsPlain DeltaPlain
set_option linter.unusedVariables false

theorem tl_snoc {l : List Int} {way : Int} {k : Nat} (hk : k < l.length) : (tl l way).take (k + 1) = (tl l way).take k ++ [tn l way k] := by
  have h : k < (tl l way).length := by rw [tl_length]; exact hk
  rw [List.take_add_one, List.getElem?_eq_getElem h]
  simp [tl]

/-- the first k of a turned row -/
def tk (l : List Int) (way : Int) (k : Nat) : List Int := (tl l way).take k
theorem tk_succ {l : List Int} {way : Int} {k : Nat} (hk : k < l.length) : tk l way (k + 1) = tk l way k ++ [tn l way k] := tl_snoc hk
theorem tk_full {l : List Int} {way : Int} {k : Nat} (hk : l.length ≤ k) : tk l way k = tl l way := List.take_of_length_le (by rw [tl_length]; exact hk)
theorem tk_len {l : List Int} {way : Int} {k : Nat} (hk : k ≤ l.length) : (tk l way k).length = k := by simp [tk, tl_length]; omega

set_option maxRecDepth 100000 in
set_option maxHeartbeats 4000000 in
theorem rturn_any {w : World} {a : Option Addr} {n c : Nat} {zs : List Int} (h : IntsAt .i64 w a n c zs) (way : Int) (hc : chk zs way = 0) :
    Calls Tryz.prog 73 #[.slice a n c, .int .i64 way] w fun e w' => ∃ a' c', e = .returned (.slice a' n c') ∧ w'.ownsRow w.heap.size 2 1 (.slice a' n c') n (iv .i64 (tl zs way)) ∧ IntsAt .i64 w' a' n c' (tl zs way) ∧ Below w.heap.size w w' := by
  obtain ⟨i0, hi, hz0, hz1, hz2⟩ := info_parts info_i64
  obtain ⟨h0, h2, hl, hb⟩ := chk_ok hc
  have hlen := h.len
  have hcap := h.cap
  have hcm := h.capm
  have hn : n ≤ 2048 := by omega
  have HH := Lib.hid h
  have HL := Lib.hid hlen
  have HB := Lib.hid hb
  have HO0 := Lib.hid (show ∀ wy : Int, Hid ((w.alloc (.cells #[] 2)).ownsRow w.heap.size 2 1 (.slice (some ⟨w.heap.size, 0, none⟩) 0 0) 0 (iv .i64 (tk zs wy 0))) from fun wy => Lib.hid (
    World.ownsRow_lit (base := w.heap.size) (e := 2) (size := 1) w #[] 0 (Nat.le_refl _) (by unfold maxLen; omega) rfl))
  have HB0 := Lib.hid ((Below.refl w.heap.size w).alloc (Nat.le_refl _) (.cells #[] 2))
  have hw : way = 0 ∨ way = 1 ∨ way = 2 := by omega
  clear h hlen hb hc h0 h2 hl
  rcases hw with rfl | rfl | rfl
  · go_enter Tryz.func73, Tryz.ntmps73
    go_wp2_with fail
    go_loopw [5, 12] (fun s5 s12 wr => ∃ k : Nat, k ≤ n ∧ s12 = .int .i64 k ∧ Hid (wr.ownsRow w.heap.size 2 1 s5 k (iv .i64 (tk zs 0 k))) ∧ Hid (Below w.heap.size w wr)) (fun _ s12 _ => n - (intOf s12).toNat)
    case atStart => exact ⟨0, by omega, rfl, HO0.out 0, HB0⟩
    case round =>
      obtain ⟨k, hk, rfl, HO, HBW⟩ := hrel
      rename World => wr
      by_cases hkn : k < n
      · obtain ⟨b, off, rfl, hlt, hcell⟩ := (HH.out.kept HBW.out).cells (by omega)
        obtain ⟨x, hx0⟩ : ∃ x, x = zs.getD (k) 0 := ⟨_, rfl⟩
        have hck := hcell (k) (by omega)
        rw [← hx0] at hck
        have bx : -1152921504606846976 ≤ x ∧ x ≤ 1152921504606846976 := by rw [hx0]; exact getD_mem_or HB.out (by omega) _
        obtain ⟨bx1, bx2⟩ := bx
        have hx1 := True.intro
        have hx2 := True.intro
        have HTN := Lib.hid (show tk zs 0 (k + 1) = tk zs 0 (k) ++ [x] by rw [tk_succ (by rw [HL.out]; omega)]; congr 2; simp [tn, hx0])
        clear hcell hx0 hx1 hx2
        have hgo := HO.out
        have HBW1 := HBW
        have hbs := HBW1.out.size
        go_wp2_with (at_builtin; refine wpList_append_own _ rfl (.tmp 51) (.tmp 53) 22 rfl w.heap.size 2 i0 (.int .i64 0) 1 8 Tryz.underlying22 hi hz0 hz1 hz2 rfl (by decide) _ _ _ rfl (hgo.alloc _) ⟨wr.heap.size, 0, none⟩ 1 1 [.int .i64 (x)] rfl rfl (one_src _ _ _) (one_oneCell rfl) (by unfold maxLen; omega) (by omega) (by simp at hbs ⊢; omega) ?_)
        intro v4 w4 hown4 hg4 _
        have HO4 := Lib.hid (show w4.ownsRow w.heap.size 2 1 v4 (k + 1) (iv .i64 (tk zs 0 (k + 1))) by
          rw [HTN.out, iv_append]; exact hown4)
        have HB4 := Lib.hid ((HBW1.out.alloc hbs _).grown hg4 (by simp at hbs ⊢; omega) (fun j hj => (hgo.lt j hj).1))
        clear hown4 hg4 hgo
        go_wp2_with fail
        go_roundw
        case rel => exact ⟨k + 1, by omega, by go_num, HO4, HB4⟩
        case measure => simp [intOf]; omega
      · obtain rfl : k = n := by omega
        have hfull : tk zs 0 k = tl zs 0 := tk_full (by rw [HL.out]; exact Nat.le_refl _)
        have ho := HO.out
        rw [hfull] at ho
        obtain ⟨a4, c4, rfl, hy4, _⟩ := IntsAt.ofOwn ho (tl_wf HB.out 0)
        have HY4 := Lib.hid hy4
        have HO4 := Lib.hid ho
        clear ho hy4 hfull
        go_wp2_with fail
        go_ret
        exact ⟨a4, c4, rfl, HO4.out, HY4.out, HBW.out⟩
  · go_enter Tryz.func73, Tryz.ntmps73
    go_wp2_with fail
    go_loopw [5, 12] (fun s5 s12 wr => ∃ k : Nat, k ≤ n ∧ s12 = .int .i64 k ∧ Hid (wr.ownsRow w.heap.size 2 1 s5 k (iv .i64 (tk zs 1 k))) ∧ Hid (Below w.heap.size w wr)) (fun _ s12 _ => n - (intOf s12).toNat)
    case atStart => exact ⟨0, by omega, rfl, HO0.out 1, HB0⟩
    case round =>
      obtain ⟨k, hk, rfl, HO, HBW⟩ := hrel
      rename World => wr
      by_cases hkn : k < n
      · rcases Nat.eq_zero_or_pos k with hk0 | hkp
        · have hk1 : (k : Int) < 1 := by omega
          obtain ⟨b, off, rfl, hlt, hcell⟩ := (HH.out.kept HBW.out).cells (by omega)
          obtain ⟨x, hx0⟩ : ∃ x, x = zs.getD (k) 0 := ⟨_, rfl⟩
          have hck := hcell (k) (by omega)
          rw [← hx0] at hck
          have bx : -1152921504606846976 ≤ x ∧ x ≤ 1152921504606846976 := by rw [hx0]; exact getD_mem_or HB.out (by omega) _
          obtain ⟨bx1, bx2⟩ := bx
          have hx1 := True.intro
          have hx2 := True.intro
          have HTN := Lib.hid (show tk zs 1 (k + 1) = tk zs 1 (k) ++ [x] by rw [tk_succ (by rw [HL.out]; omega)]; congr 2; simp [tn, hx0, hk0])
          clear hk0 hcell hx0 hx1 hx2
          have hgo := HO.out
          have HBW1 := HBW
          have hbs := HBW1.out.size
          go_wp2_with (at_builtin; refine wpList_append_own _ rfl (.tmp 51) (.tmp 53) 22 rfl w.heap.size 2 i0 (.int .i64 0) 1 8 Tryz.underlying22 hi hz0 hz1 hz2 rfl (by decide) _ _ _ rfl (hgo.alloc _) ⟨wr.heap.size, 0, none⟩ 1 1 [.int .i64 (x)] rfl rfl (one_src _ _ _) (one_oneCell rfl) (by unfold maxLen; omega) (by omega) (by simp at hbs ⊢; omega) ?_)
          intro v4 w4 hown4 hg4 _
          have HO4 := Lib.hid (show w4.ownsRow w.heap.size 2 1 v4 (k + 1) (iv .i64 (tk zs 1 (k + 1))) by
            rw [HTN.out, iv_append]; exact hown4)
          have HB4 := Lib.hid ((HBW1.out.alloc hbs _).grown hg4 (by simp at hbs ⊢; omega) (fun j hj => (hgo.lt j hj).1))
          clear hown4 hg4 hgo
          go_wp2_with fail
          go_roundw
          case rel => exact ⟨k + 1, by omega, by go_num, HO4, HB4⟩
          case measure => simp [intOf]; omega
        · obtain ⟨j, rfl⟩ : ∃ j, k = j + 1 := ⟨k - 1, by omega⟩
          obtain ⟨b, off, rfl, hlt, hcell⟩ := (HH.out.kept HBW.out).cells (by omega)
          obtain ⟨x, hx0⟩ : ∃ x, x = zs.getD (j + 1) 0 := ⟨_, rfl⟩
          have hck := hcell (j + 1) (by omega)
          rw [← hx0] at hck
          have bx : -1152921504606846976 ≤ x ∧ x ≤ 1152921504606846976 := by rw [hx0]; exact getD_mem_or HB.out (by omega) _
          obtain ⟨bx1, bx2⟩ := bx
          obtain ⟨y, hx1⟩ : ∃ y, y = zs.getD (j) 0 := ⟨_, rfl⟩
          have hck1 := hcell (j) (by omega)
          rw [← hx1] at hck1
          have by_ : -1152921504606846976 ≤ y ∧ y ≤ 1152921504606846976 := by rw [hx1]; exact getD_mem_or HB.out (by omega) _
          obtain ⟨by1, by2⟩ := by_
          have hx2 := True.intro
          have HTN := Lib.hid (show tk zs 1 (j + 1 + 1) = tk zs 1 (j + 1) ++ [x - y] by rw [tk_succ (by rw [HL.out]; omega)]; congr 2; simp [tn, hx0, hx1])
          clear hcell hx0 hx1 hx2
          have hgo := HO.out
          have HBW1 := HBW
          have hbs := HBW1.out.size
          go_wp2_with (at_builtin; refine wpList_append_own _ rfl (.tmp 51) (.tmp 53) 22 rfl w.heap.size 2 i0 (.int .i64 0) 1 8 Tryz.underlying22 hi hz0 hz1 hz2 rfl (by decide) _ _ _ rfl (hgo.alloc _) ⟨wr.heap.size, 0, none⟩ 1 1 [.int .i64 (x - y)] rfl rfl (one_src _ _ _) (one_oneCell rfl) (by unfold maxLen; omega) (by omega) (by simp at hbs ⊢; omega) ?_)
          intro v4 w4 hown4 hg4 _
          have HO4 := Lib.hid (show w4.ownsRow w.heap.size 2 1 v4 (j + 1 + 1) (iv .i64 (tk zs 1 (j + 1 + 1))) by
            rw [HTN.out, iv_append]; exact hown4)
          have HB4 := Lib.hid ((HBW1.out.alloc hbs _).grown hg4 (by simp at hbs ⊢; omega) (fun j hj => (hgo.lt j hj).1))
          clear hown4 hg4 hgo
          go_wp2_with fail
          go_roundw
          case rel => exact ⟨j + 1 + 1, by omega, by go_num, HO4, HB4⟩
          case measure => simp [intOf]; omega
      · obtain rfl : k = n := by omega
        have hfull : tk zs 1 k = tl zs 1 := tk_full (by rw [HL.out]; exact Nat.le_refl _)
        have ho := HO.out
        rw [hfull] at ho
        obtain ⟨a4, c4, rfl, hy4, _⟩ := IntsAt.ofOwn ho (tl_wf HB.out 1)
        have HY4 := Lib.hid hy4
        have HO4 := Lib.hid ho
        clear ho hy4 hfull
        go_wp2_with fail
        go_ret
        exact ⟨a4, c4, rfl, HO4.out, HY4.out, HBW.out⟩
  · go_enter Tryz.func73, Tryz.ntmps73
    go_wp2_with fail
    go_loopw [5, 12] (fun s5 s12 wr => ∃ k : Nat, k ≤ n ∧ s12 = .int .i64 k ∧ Hid (wr.ownsRow w.heap.size 2 1 s5 k (iv .i64 (tk zs 2 k))) ∧ Hid (Below w.heap.size w wr)) (fun _ s12 _ => n - (intOf s12).toNat)
    case atStart => exact ⟨0, by omega, rfl, HO0.out 2, HB0⟩
    case round =>
      obtain ⟨k, hk, rfl, HO, HBW⟩ := hrel
      rename World => wr
      by_cases hkn : k < n
      · rcases Nat.lt_or_ge k 2 with hk2 | hk2
        · rcases Nat.eq_zero_or_pos k with hk0 | hkp
          · have hk1 : (k : Int) < 1 := by omega
            obtain ⟨b, off, rfl, hlt, hcell⟩ := (HH.out.kept HBW.out).cells (by omega)
            obtain ⟨x, hx0⟩ : ∃ x, x = zs.getD (k) 0 := ⟨_, rfl⟩
            have hck := hcell (k) (by omega)
            rw [← hx0] at hck
            have bx : -1152921504606846976 ≤ x ∧ x ≤ 1152921504606846976 := by rw [hx0]; exact getD_mem_or HB.out (by omega) _
            obtain ⟨bx1, bx2⟩ := bx
            have hx1 := True.intro
            have hx2 := True.intro
            have HTN := Lib.hid (show tk zs 2 (k + 1) = tk zs 2 (k) ++ [x] by rw [tk_succ (by rw [HL.out]; omega)]; congr 2; simp [tn, hx0, hk0])
            clear hk0 hcell hx0 hx1 hx2
            have hgo := HO.out
            have HBW1 := HBW
            have hbs := HBW1.out.size
            go_wp2_with (at_builtin; refine wpList_append_own _ rfl (.tmp 51) (.tmp 53) 22 rfl w.heap.size 2 i0 (.int .i64 0) 1 8 Tryz.underlying22 hi hz0 hz1 hz2 rfl (by decide) _ _ _ rfl (hgo.alloc _) ⟨wr.heap.size, 0, none⟩ 1 1 [.int .i64 (x)] rfl rfl (one_src _ _ _) (one_oneCell rfl) (by unfold maxLen; omega) (by omega) (by simp at hbs ⊢; omega) ?_)
            intro v4 w4 hown4 hg4 _
            have HO4 := Lib.hid (show w4.ownsRow w.heap.size 2 1 v4 (k + 1) (iv .i64 (tk zs 2 (k + 1))) by
              rw [HTN.out, iv_append]; exact hown4)
            have HB4 := Lib.hid ((HBW1.out.alloc hbs _).grown hg4 (by simp at hbs ⊢; omega) (fun j hj => (hgo.lt j hj).1))
            clear hown4 hg4 hgo
            go_wp2_with fail
            go_roundw
            case rel => exact ⟨k + 1, by omega, by go_num, HO4, HB4⟩
            case measure => simp [intOf]; omega
          · obtain rfl : k = 1 := by omega
            obtain ⟨b, off, rfl, hlt, hcell⟩ := (HH.out.kept HBW.out).cells (by omega)
            obtain ⟨x, hx0⟩ : ∃ x, x = zs.getD (1) 0 := ⟨_, rfl⟩
            have hck := hcell (1) (by omega)
            rw [← hx0] at hck
            have bx : -1152921504606846976 ≤ x ∧ x ≤ 1152921504606846976 := by rw [hx0]; exact getD_mem_or HB.out (by omega) _
            obtain ⟨bx1, bx2⟩ := bx
            obtain ⟨y, hx1⟩ : ∃ y, y = zs.getD (0) 0 := ⟨_, rfl⟩
            have hck1 := hcell (0) (by omega)
            rw [← hx1, Nat.add_zero] at hck1
            have by_ : -1152921504606846976 ≤ y ∧ y ≤ 1152921504606846976 := by rw [hx1]; exact getD_mem_or HB.out (by omega) _
            obtain ⟨by1, by2⟩ := by_
            have hx2 := True.intro
            have HTN := Lib.hid (show tk zs 2 (1 + 1) = tk zs 2 (1) ++ [x - y] by rw [tk_succ (by rw [HL.out]; omega)]; congr 2; simp [tn, hx0, hx1])
            clear hcell hx0 hx1 hx2
            have hgo := HO.out
            have HBW1 := HBW
            have hbs := HBW1.out.size
            go_wp2_with (at_builtin; refine wpList_append_own _ rfl (.tmp 51) (.tmp 53) 22 rfl w.heap.size 2 i0 (.int .i64 0) 1 8 Tryz.underlying22 hi hz0 hz1 hz2 rfl (by decide) _ _ _ rfl (hgo.alloc _) ⟨wr.heap.size, 0, none⟩ 1 1 [.int .i64 (x - y)] rfl rfl (one_src _ _ _) (one_oneCell rfl) (by unfold maxLen; omega) (by omega) (by simp at hbs ⊢; omega) ?_)
            intro v4 w4 hown4 hg4 _
            have HO4 := Lib.hid (show w4.ownsRow w.heap.size 2 1 v4 (1 + 1) (iv .i64 (tk zs 2 (1 + 1))) by
              rw [HTN.out, iv_append]; exact hown4)
            have HB4 := Lib.hid ((HBW1.out.alloc hbs _).grown hg4 (by simp at hbs ⊢; omega) (fun j hj => (hgo.lt j hj).1))
            clear hown4 hg4 hgo
            go_wp2_with fail
            go_roundw
            case rel => exact ⟨1 + 1, by omega, by go_num, HO4, HB4⟩
            case measure => simp [intOf]; omega
        · obtain ⟨j, rfl⟩ : ∃ j, k = j + 2 := ⟨k - 2, by omega⟩
          obtain ⟨b, off, rfl, hlt, hcell⟩ := (HH.out.kept HBW.out).cells (by omega)
          obtain ⟨x, hx0⟩ : ∃ x, x = zs.getD (j + 2) 0 := ⟨_, rfl⟩
          have hck := hcell (j + 2) (by omega)
          rw [← hx0] at hck
          have bx : -1152921504606846976 ≤ x ∧ x ≤ 1152921504606846976 := by rw [hx0]; exact getD_mem_or HB.out (by omega) _
          obtain ⟨bx1, bx2⟩ := bx
          obtain ⟨y, hx1⟩ : ∃ y, y = zs.getD (j + 1) 0 := ⟨_, rfl⟩
          have hck1 := hcell (j + 1) (by omega)
          rw [← hx1] at hck1
          have by_ : -1152921504606846976 ≤ y ∧ y ≤ 1152921504606846976 := by rw [hx1]; exact getD_mem_or HB.out (by omega) _
          obtain ⟨by1, by2⟩ := by_
          obtain ⟨z, hx2⟩ : ∃ z, z = zs.getD (j) 0 := ⟨_, rfl⟩
          have hck2 := hcell (j) (by omega)
          rw [← hx2] at hck2
          have bz : -1152921504606846976 ≤ z ∧ z ≤ 1152921504606846976 := by rw [hx2]; exact getD_mem_or HB.out (by omega) _
          obtain ⟨bz1, bz2⟩ := bz
          have HTN := Lib.hid (show tk zs 2 (j + 2 + 1) = tk zs 2 (j + 2) ++ [x - 2 * y + z] by rw [tk_succ (by rw [HL.out]; omega)]; congr 2; simp [tn, hx0, hx1, hx2])
          clear hcell hx0 hx1 hx2
          go_wp2_with fail
          go_quiet (fail)
          rename Nat => nq
          have hgo := own_below HO.out (show Below wr.heap.size wr (wr.drewN nq) from ⟨rfl, rfl, rfl, Nat.le_refl _, fun _ _ => rfl⟩)
          have HBW1 := Lib.hid (show Below w.heap.size w (wr.drewN nq) from HBW.out.trans ⟨rfl, rfl, rfl, Nat.le_refl _, fun _ _ => rfl⟩)
          have hbs := HBW1.out.size
          go_wp2_with (at_builtin; refine wpList_append_own _ rfl (.tmp 51) (.tmp 53) 22 rfl w.heap.size 2 i0 (.int .i64 0) 1 8 Tryz.underlying22 hi hz0 hz1 hz2 rfl (by decide) _ _ _ rfl (hgo.alloc _) ⟨(wr.drewN nq).heap.size, 0, none⟩ 1 1 [.int .i64 (x - 2 * y + z)] rfl rfl (one_src _ _ _) (one_oneCell rfl) (by unfold maxLen; omega) (by omega) (by simp at hbs ⊢; omega) ?_)
          intro v4 w4 hown4 hg4 _
          have HO4 := Lib.hid (show w4.ownsRow w.heap.size 2 1 v4 (j + 2 + 1) (iv .i64 (tk zs 2 (j + 2 + 1))) by
            rw [HTN.out, iv_append]; exact hown4)
          have HB4 := Lib.hid ((HBW1.out.alloc hbs _).grown hg4 (by simp at hbs ⊢; omega) (fun j hj => (hgo.lt j hj).1))
          clear hown4 hg4 hgo
          go_wp2_with fail
          go_roundw
          case rel => exact ⟨j + 2 + 1, by omega, by go_num, HO4, HB4⟩
          case measure => simp [intOf]; omega
      · obtain rfl : k = n := by omega
        have hfull : tk zs 2 k = tl zs 2 := tk_full (by rw [HL.out]; exact Nat.le_refl _)
        have ho := HO.out
        rw [hfull] at ho
        obtain ⟨a4, c4, rfl, hy4, _⟩ := IntsAt.ofOwn ho (tl_wf HB.out 2)
        have HY4 := Lib.hid hy4
        have HO4 := Lib.hid ho
        clear ho hy4 hfull
        go_wp2_with fail
        go_ret
        exact ⟨a4, c4, rfl, HO4.out, HY4.out, HBW.out⟩
end Go.Proofs.YtpbijdoemdoijaaGreatDoor
end PkCa35_0
section PkCa35_1
/- The document's Encode of rows, walked; the chapter's example. -/
namespace Go.Proofs.YtpbijdoemdoijaaGreatDoor
open Go.RowKit NumsPlain DeltaPlain
set_option linter.unusedVariables false

set_option maxRecDepth 100000 in
set_option maxHeartbeats 2000000 in
theorem rencode_any {w : World} {a : Option Addr} {n c : Nat} {zs : List Int} (h : IntsAt .i64 w a n c zs) (way : Int) (hc : chk zs way = 0) :
    Calls Tryz.prog 40 #[.slice a n c, .int .i64 way] w fun e w' => ∃ a' n' c', e = .returned (.slice a' n' c') ∧ BytesAt w' a' n' c' (enc zs way) ∧ Below w.heap.size w w' := by
  obtain ⟨h0, h2, hl, hb⟩ := chk_ok hc
  obtain ⟨ts, hts⟩ : ∃ ts, ts = tl zs way := ⟨_, rfl⟩
  have htb := tl_bound hb way
  rw [← hts] at htb
  have hlen := h.len
  have htl : ts.length = n := by rw [hts, tl_length, hlen]
  have he : enc zs way = pu n ++ ts.flatMap pz := by rw [hts, ← hlen]; rfl
  have hn : n ≤ 2048 := by omega
  have hby : ∀ k, ∀ y ∈ eb0 n ts k, y < 256 := fun k => eb0_byte (by omega) htb
  have hlen' : ∀ k, (eb0 n ts k).length ≤ 30000 := fun k => by
    have := eb0_len (N := n) (k := k) (by omega) htb
    omega
  have HC := Lib.hid hc
  have HE := Lib.hid he
  have HTB := Lib.hid htb
  have HTL := Lib.hid htl
  have HBY := Lib.hid hby
  have HLEN := Lib.hid hlen'
  have HH := Lib.hid h
  have HTS := Lib.hid hts
  have HP := Lib.hid (rputu_any n (by omega) w)
  clear h hc hb hts htb htl he hby hlen hlen' h0 h2 hl
  go_enter Tryz.func40, Tryz.ntmps40
  go_wp2_with fail
  refine HP.out.mono ?_
  rintro e w1 ⟨v1, rfl, hown1, hb1⟩
  have HO1 := Lib.hid (show w1.ownsRow w.heap.size 5 1 v1 (eb0 n ts 0).length (bv (eb0 n ts 0)) by
    rw [eb0_zero]; exact hown1)
  have HB1 := Lib.hid hb1
  have HT := Lib.hid (rturn_any (HH.out.kept hb1) way HC.out)
  clear hown1 hb1
  rw [← HTS.out] at HT
  go_wp2_with fail
  refine HT.out.mono ?_
  rintro e w2 ⟨a2, c2, rfl, hown2, hi2, hb2⟩
  have HT2 := Lib.hid hown2
  have HO2 := Lib.hid (own_below HO1.out hb2)
  have HB2 := Lib.hid (HB1.out.trans (hb2.mono HB1.out.size))
  have hcap := hi2.cap
  have hcm := hi2.capm
  have hz1 := HB1.out.size
  clear hown2 hb2 hi2
  go_wp2_with fail
  go_loopw [5, 16] (fun s5 s16 wr => ∃ k : Nat, k ≤ n ∧ s16 = .int .i64 k ∧ Hid (wr.ownsRow w.heap.size 5 1 s5 (eb0 n ts k).length (bv (eb0 n ts k))) ∧ Hid (Below w.heap.size w wr) ∧ Hid (wr.ownsRow w1.heap.size 2 1 (.slice a2 n c2) n (iv .i64 ts))) (fun _ s16 _ => n - (intOf s16).toNat)
  case atStart => exact ⟨0, by omega, rfl, HO2, HB2, HT2⟩
  case round =>
    obtain ⟨k, hk, rfl, HO, HB, HT⟩ := hrel
    rename World => wr
    by_cases hkn : k < n
    · have hi := IntsAt.own HT.out (fun z hz => wf_i64 (by have := HTB.out z hz; omega))
      obtain ⟨b, off, rfl, hlt, hcell⟩ := hi.cells (by omega)
      have hck := hcell k hkn
      obtain ⟨x, hx⟩ : ∃ x, x = ts.getD k 0 := ⟨_, rfl⟩
      rw [← hx] at hck
      have hxb : -4611686018427387904 ≤ x ∧ x ≤ 4611686018427387904 := by rw [hx]; exact getD_mem_or HTB.out (by omega) k
      have HX := Lib.hid (show eb0 n ts (k + 1) = eb0 n ts k ++ pu (zig x) by rw [hx]; exact eb0_succ (by rw [HTL.out]; exact hkn))
      have HZ := Lib.hid (rzig_any x (by omega) (by omega) wr)
      have HPI := Lib.hid (rputu_any (zig x) (zig_lt (by omega) (by omega)) wr)
      have HPB := Lib.hid (pu_bytes (zig_lt (m := x) (by omega) (by omega)))
      have hl2 : (pu (zig x)).length ≤ 10 := pz_len hxb
      have hl1 := HLEN.out k
      clear hcell hx hxb hi
      go_wp2_with fail
      refine HZ.out.mono ?_
      rintro e w3 ⟨rfl, rfl⟩
      go_wp2_with fail
      refine HPI.out.mono ?_
      rintro e w3 ⟨v3, rfl, hown3, hb3⟩
      obtain ⟨a3, c3, rfl, hy3, _⟩ := BytesAt.ofOwn hown3 HPB.out (by omega)
      have HY3 := Lib.hid hy3
      have hgo := own_below HO.out hb3
      have hgt := own_below HT.out hb3
      have HB3 := Lib.hid (HB.out.trans (hb3.mono HB.out.size))
      have hbs := HB3.out.size
      clear hy3 hb3 hown3
      go_wp2_with (at_builtin; refine wpList_append_bytes rfl (.tmp 20) (.tmp 23) rfl w.heap.size _ _ _ rfl hgo _ _ _ _ rfl HY3.out (by omega) hbs ?_)
      intro v4 w4 hown4 hg4
      have HO4 := Lib.hid (show w4.ownsRow w.heap.size 5 1 v4 (eb0 n ts (k + 1)).length (bv (eb0 n ts (k + 1))) by
        rw [HX.out, List.length_append]; exact hown4)
      have HB4 := Lib.hid (HB3.out.grown hg4 hbs (fun j hj => (hgo.lt j hj).1))
      have HT4 := Lib.hid (hgt.kept hg4 (own_ne2 hgt hgo (by decide)))
      clear hown4 hg4 hgo hgt
      go_wp2_with fail
      go_roundw
      case rel => exact ⟨k + 1, by omega, by go_num, HO4, HB4, HT4⟩
      case measure => simp [intOf]; omega
    · have hkn2 : k = n := by omega
      have hfull : eb0 n ts k = pu n ++ ts.flatMap pz := eb0_full (by rw [HTL.out]; omega)
      have ho := HO.out
      have hby := HBY.out k
      have hll := HLEN.out k
      obtain ⟨E, hE⟩ : ∃ E, E = eb0 n ts k := ⟨_, rfl⟩
      rw [← hE] at ho hby hll
      have HF := Lib.hid (hE.trans hfull)
      obtain ⟨a4, c4, rfl, hy4, _⟩ := BytesAt.ofOwn ho hby (by omega)
      have HY4 := Lib.hid hy4
      clear ho hby hll hy4 hfull hkn2 hE
      go_wp2_with fail
      go_ret
      refine ⟨a4, _, c4, rfl, ?_, HB.out⟩
      rw [HE.out, ← HF.out]; exact HY4.out

theorem enc_ex : enc [10, 20, 31, 31] 2 = [4, 20, 20, 2, 21] := by
  have h4 : pu 4 = [4] := pu_small (by omega)
  have e : tl [10, 20, 31, 31] 2 = [10, 10, 1, -11] := by decide
  have z1 : pz 10 = [20] := by unfold pz; rw [show zig 10 = 20 from by decide]; exact pu_small (by omega)
  have z2 : pz 1 = [2] := by unfold pz; rw [show zig 1 = 2 from by decide]; exact pu_small (by omega)
  have z3 : pz (-11) = [21] := by unfold pz; rw [show zig (-11) = 21 from by decide]; exact pu_small (by omega)
  unfold enc
  rw [e]
  simp [h4, z1, z2, z3]

end Go.Proofs.YtpbijdoemdoijaaGreatDoor
end PkCa35_1
