/- The document's Turn and Encode of rows, walked. -/
import Derived.Test.YtcnkhliplcbfkaaDeltaRef
namespace Go.Proofs.Ytcnkhliplcbfkaa
open Go.RowKit NumsPlain DeltaPlain
set_option linter.unusedVariables false

theorem tl_snoc {l : List Int} {way : Int} {k : Nat} (hk : k < l.length) : (tl l way).take (k + 1) = (tl l way).take k ++ [tn l way k] := by
  have h : k < (tl l way).length := by rw [tl_length]; exact hk
  rw [List.take_add_one, List.getElem?_eq_getElem h]
  simp [tl]

/-- the first k of a turned row -/
def tk (l : List Int) (way : Int) (k : Nat) : List Int := (tl l way).take k
theorem tk_succ {l : List Int} {way : Int} {k : Nat} (hk : k < l.length) : tk l way (k + 1) = tk l way k ++ [tn l way k] := tl_snoc hk
theorem tk_full {l : List Int} {way : Int} {k : Nat} (hk : l.length ≤ k) : tk l way k = tl l way := List.take_of_length_le (by rw [tl_length]; exact hk)
theorem tk_len {l : List Int} {way : Int} {k : Nat} (hk : k ≤ l.length) : (tk l way k).length = k := by simp [tk, tl_length]; omega

set_option maxRecDepth 100000 in
set_option maxHeartbeats 4000000 in
theorem rturn_any {w : World} {a : Option Addr} {n c : Nat} {zs : List Int} (h : IntsAt .i64 w a n c zs) (way : Int) (hc : chk zs way = 0) :
    Calls Try.prog 14 #[.slice a n c, .int .i64 way] w fun e w' => ∃ a' c', e = .returned (.slice a' n c') ∧ w'.ownsRow w.heap.size 2 1 (.slice a' n c') n (iv .i64 (tl zs way)) ∧ IntsAt .i64 w' a' n c' (tl zs way) ∧ Below w.heap.size w w' := by
  obtain ⟨i0, hi, hz0, hz1, hz2⟩ := info_parts info_i64
  obtain ⟨h0, h2, hl, hb⟩ := chk_ok hc
  have hlen := h.len
  have hcap := h.cap
  have hcm := h.capm
  have hn : n ≤ 2048 := by omega
  have HH := Lib.hid h
  have HL := Lib.hid hlen
  have HB := Lib.hid hb
  have HO0 := Lib.hid (show ∀ wy : Int, Hid ((w.alloc (.cells #[] 2)).ownsRow w.heap.size 2 1 (.slice (some ⟨w.heap.size, 0, none⟩) 0 0) 0 (iv .i64 (tk zs wy 0))) from fun wy => Lib.hid (
    World.ownsRow_lit (base := w.heap.size) (e := 2) (size := 1) w #[] 0 (Nat.le_refl _) (by unfold maxLen; omega) rfl))
  have HB0 := Lib.hid ((Below.refl w.heap.size w).alloc (Nat.le_refl _) (.cells #[] 2))
  have hw : way = 0 ∨ way = 1 ∨ way = 2 := by omega
  clear h hlen hb hc h0 h2 hl
  rcases hw with rfl | rfl | rfl
  · go_enter Try.func14, Try.ntmps14
    go_wp2_with fail
    go_loopw [5, 12] (fun s5 s12 wr => ∃ k : Nat, k ≤ n ∧ s12 = .int .i64 k ∧ Hid (wr.ownsRow w.heap.size 2 1 s5 k (iv .i64 (tk zs 0 k))) ∧ Hid (Below w.heap.size w wr)) (fun _ s12 _ => n - (intOf s12).toNat)
    case atStart => exact ⟨0, by omega, rfl, HO0.out 0, HB0⟩
    case round =>
      obtain ⟨k, hk, rfl, HO, HBW⟩ := hrel
      rename World => wr
      by_cases hkn : k < n
      · obtain ⟨b, off, rfl, hlt, hcell⟩ := (HH.out.kept HBW.out).cells (by omega)
        obtain ⟨x, hx0⟩ : ∃ x, x = zs.getD (k) 0 := ⟨_, rfl⟩
        have hck := hcell (k) (by omega)
        rw [← hx0] at hck
        have bx : -1152921504606846976 ≤ x ∧ x ≤ 1152921504606846976 := by rw [hx0]; exact getD_mem_or HB.out (by omega) _
        obtain ⟨bx1, bx2⟩ := bx
        have hx1 := True.intro
        have hx2 := True.intro
        have HTN := Lib.hid (show tk zs 0 (k + 1) = tk zs 0 (k) ++ [x] by rw [tk_succ (by rw [HL.out]; omega)]; congr 2; simp [tn, hx0])
        clear hcell hx0 hx1 hx2
        have hgo := HO.out
        have HBW1 := HBW
        have hbs := HBW1.out.size
        go_wp2_with (at_builtin; refine wpList_append_own _ rfl (.tmp 51) (.tmp 53) 22 rfl w.heap.size 2 i0 (.int .i64 0) 1 8 Try.underlying22 hi hz0 hz1 hz2 rfl (by decide) _ _ _ rfl (hgo.alloc _) ⟨wr.heap.size, 0, none⟩ 1 1 [.int .i64 (x)] rfl rfl (one_src _ _ _) (one_oneCell rfl) (by unfold maxLen; omega) (by omega) (by simp at hbs ⊢; omega) ?_)
        intro v4 w4 hown4 hg4 _
        have HO4 := Lib.hid (show w4.ownsRow w.heap.size 2 1 v4 (k + 1) (iv .i64 (tk zs 0 (k + 1))) by
          rw [HTN.out, iv_append]; exact hown4)
        have HB4 := Lib.hid ((HBW1.out.alloc hbs _).grown hg4 (by simp at hbs ⊢; omega) (fun j hj => (hgo.lt j hj).1))
        clear hown4 hg4 hgo
        go_wp2_with fail
        go_roundw
        case rel => exact ⟨k + 1, by omega, by go_num, HO4, HB4⟩
        case measure => simp [intOf]; omega
      · obtain rfl : k = n := by omega
        have hfull : tk zs 0 k = tl zs 0 := tk_full (by rw [HL.out]; exact Nat.le_refl _)
        have ho := HO.out
        rw [hfull] at ho
        obtain ⟨a4, c4, rfl, hy4, _⟩ := IntsAt.ofOwn ho (tl_wf HB.out 0)
        have HY4 := Lib.hid hy4
        have HO4 := Lib.hid ho
        clear ho hy4 hfull
        go_wp2_with fail
        go_ret
        exact ⟨a4, c4, rfl, HO4.out, HY4.out, HBW.out⟩
  · go_enter Try.func14, Try.ntmps14
    go_wp2_with fail
    go_loopw [5, 12] (fun s5 s12 wr => ∃ k : Nat, k ≤ n ∧ s12 = .int .i64 k ∧ Hid (wr.ownsRow w.heap.size 2 1 s5 k (iv .i64 (tk zs 1 k))) ∧ Hid (Below w.heap.size w wr)) (fun _ s12 _ => n - (intOf s12).toNat)
    case atStart => exact ⟨0, by omega, rfl, HO0.out 1, HB0⟩
    case round =>
      obtain ⟨k, hk, rfl, HO, HBW⟩ := hrel
      rename World => wr
      by_cases hkn : k < n
      · rcases Nat.eq_zero_or_pos k with hk0 | hkp
        · have hk1 : (k : Int) < 1 := by omega
          obtain ⟨b, off, rfl, hlt, hcell⟩ := (HH.out.kept HBW.out).cells (by omega)
          obtain ⟨x, hx0⟩ : ∃ x, x = zs.getD (k) 0 := ⟨_, rfl⟩
          have hck := hcell (k) (by omega)
          rw [← hx0] at hck
          have bx : -1152921504606846976 ≤ x ∧ x ≤ 1152921504606846976 := by rw [hx0]; exact getD_mem_or HB.out (by omega) _
          obtain ⟨bx1, bx2⟩ := bx
          have hx1 := True.intro
          have hx2 := True.intro
          have HTN := Lib.hid (show tk zs 1 (k + 1) = tk zs 1 (k) ++ [x] by rw [tk_succ (by rw [HL.out]; omega)]; congr 2; simp [tn, hx0, hk0])
          clear hk0 hcell hx0 hx1 hx2
          have hgo := HO.out
          have HBW1 := HBW
          have hbs := HBW1.out.size
          go_wp2_with (at_builtin; refine wpList_append_own _ rfl (.tmp 51) (.tmp 53) 22 rfl w.heap.size 2 i0 (.int .i64 0) 1 8 Try.underlying22 hi hz0 hz1 hz2 rfl (by decide) _ _ _ rfl (hgo.alloc _) ⟨wr.heap.size, 0, none⟩ 1 1 [.int .i64 (x)] rfl rfl (one_src _ _ _) (one_oneCell rfl) (by unfold maxLen; omega) (by omega) (by simp at hbs ⊢; omega) ?_)
          intro v4 w4 hown4 hg4 _
          have HO4 := Lib.hid (show w4.ownsRow w.heap.size 2 1 v4 (k + 1) (iv .i64 (tk zs 1 (k + 1))) by
            rw [HTN.out, iv_append]; exact hown4)
          have HB4 := Lib.hid ((HBW1.out.alloc hbs _).grown hg4 (by simp at hbs ⊢; omega) (fun j hj => (hgo.lt j hj).1))
          clear hown4 hg4 hgo
          go_wp2_with fail
          go_roundw
          case rel => exact ⟨k + 1, by omega, by go_num, HO4, HB4⟩
          case measure => simp [intOf]; omega
        · obtain ⟨j, rfl⟩ : ∃ j, k = j + 1 := ⟨k - 1, by omega⟩
          obtain ⟨b, off, rfl, hlt, hcell⟩ := (HH.out.kept HBW.out).cells (by omega)
          obtain ⟨x, hx0⟩ : ∃ x, x = zs.getD (j + 1) 0 := ⟨_, rfl⟩
          have hck := hcell (j + 1) (by omega)
          rw [← hx0] at hck
          have bx : -1152921504606846976 ≤ x ∧ x ≤ 1152921504606846976 := by rw [hx0]; exact getD_mem_or HB.out (by omega) _
          obtain ⟨bx1, bx2⟩ := bx
          obtain ⟨y, hx1⟩ : ∃ y, y = zs.getD (j) 0 := ⟨_, rfl⟩
          have hck1 := hcell (j) (by omega)
          rw [← hx1] at hck1
          have by_ : -1152921504606846976 ≤ y ∧ y ≤ 1152921504606846976 := by rw [hx1]; exact getD_mem_or HB.out (by omega) _
          obtain ⟨by1, by2⟩ := by_
          have hx2 := True.intro
          have HTN := Lib.hid (show tk zs 1 (j + 1 + 1) = tk zs 1 (j + 1) ++ [x - y] by rw [tk_succ (by rw [HL.out]; omega)]; congr 2; simp [tn, hx0, hx1])
          clear hcell hx0 hx1 hx2
          have hgo := HO.out
          have HBW1 := HBW
          have hbs := HBW1.out.size
          go_wp2_with (at_builtin; refine wpList_append_own _ rfl (.tmp 51) (.tmp 53) 22 rfl w.heap.size 2 i0 (.int .i64 0) 1 8 Try.underlying22 hi hz0 hz1 hz2 rfl (by decide) _ _ _ rfl (hgo.alloc _) ⟨wr.heap.size, 0, none⟩ 1 1 [.int .i64 (x - y)] rfl rfl (one_src _ _ _) (one_oneCell rfl) (by unfold maxLen; omega) (by omega) (by simp at hbs ⊢; omega) ?_)
          intro v4 w4 hown4 hg4 _
          have HO4 := Lib.hid (show w4.ownsRow w.heap.size 2 1 v4 (j + 1 + 1) (iv .i64 (tk zs 1 (j + 1 + 1))) by
            rw [HTN.out, iv_append]; exact hown4)
          have HB4 := Lib.hid ((HBW1.out.alloc hbs _).grown hg4 (by simp at hbs ⊢; omega) (fun j hj => (hgo.lt j hj).1))
          clear hown4 hg4 hgo
          go_wp2_with fail
          go_roundw
          case rel => exact ⟨j + 1 + 1, by omega, by go_num, HO4, HB4⟩
          case measure => simp [intOf]; omega
      · obtain rfl : k = n := by omega
        have hfull : tk zs 1 k = tl zs 1 := tk_full (by rw [HL.out]; exact Nat.le_refl _)
        have ho := HO.out
        rw [hfull] at ho
        obtain ⟨a4, c4, rfl, hy4, _⟩ := IntsAt.ofOwn ho (tl_wf HB.out 1)
        have HY4 := Lib.hid hy4
        have HO4 := Lib.hid ho
        clear ho hy4 hfull
        go_wp2_with fail
        go_ret
        exact ⟨a4, c4, rfl, HO4.out, HY4.out, HBW.out⟩
  · go_enter Try.func14, Try.ntmps14
    go_wp2_with fail
    go_loopw [5, 12] (fun s5 s12 wr => ∃ k : Nat, k ≤ n ∧ s12 = .int .i64 k ∧ Hid (wr.ownsRow w.heap.size 2 1 s5 k (iv .i64 (tk zs 2 k))) ∧ Hid (Below w.heap.size w wr)) (fun _ s12 _ => n - (intOf s12).toNat)
    case atStart => exact ⟨0, by omega, rfl, HO0.out 2, HB0⟩
    case round =>
      obtain ⟨k, hk, rfl, HO, HBW⟩ := hrel
      rename World => wr
      by_cases hkn : k < n
      · rcases Nat.lt_or_ge k 2 with hk2 | hk2
        · rcases Nat.eq_zero_or_pos k with hk0 | hkp
          · have hk1 : (k : Int) < 1 := by omega
            obtain ⟨b, off, rfl, hlt, hcell⟩ := (HH.out.kept HBW.out).cells (by omega)
            obtain ⟨x, hx0⟩ : ∃ x, x = zs.getD (k) 0 := ⟨_, rfl⟩
            have hck := hcell (k) (by omega)
            rw [← hx0] at hck
            have bx : -1152921504606846976 ≤ x ∧ x ≤ 1152921504606846976 := by rw [hx0]; exact getD_mem_or HB.out (by omega) _
            obtain ⟨bx1, bx2⟩ := bx
            have hx1 := True.intro
            have hx2 := True.intro
            have HTN := Lib.hid (show tk zs 2 (k + 1) = tk zs 2 (k) ++ [x] by rw [tk_succ (by rw [HL.out]; omega)]; congr 2; simp [tn, hx0, hk0])
            clear hk0 hcell hx0 hx1 hx2
            have hgo := HO.out
            have HBW1 := HBW
            have hbs := HBW1.out.size
            go_wp2_with (at_builtin; refine wpList_append_own _ rfl (.tmp 51) (.tmp 53) 22 rfl w.heap.size 2 i0 (.int .i64 0) 1 8 Try.underlying22 hi hz0 hz1 hz2 rfl (by decide) _ _ _ rfl (hgo.alloc _) ⟨wr.heap.size, 0, none⟩ 1 1 [.int .i64 (x)] rfl rfl (one_src _ _ _) (one_oneCell rfl) (by unfold maxLen; omega) (by omega) (by simp at hbs ⊢; omega) ?_)
            intro v4 w4 hown4 hg4 _
            have HO4 := Lib.hid (show w4.ownsRow w.heap.size 2 1 v4 (k + 1) (iv .i64 (tk zs 2 (k + 1))) by
              rw [HTN.out, iv_append]; exact hown4)
            have HB4 := Lib.hid ((HBW1.out.alloc hbs _).grown hg4 (by simp at hbs ⊢; omega) (fun j hj => (hgo.lt j hj).1))
            clear hown4 hg4 hgo
            go_wp2_with fail
            go_roundw
            case rel => exact ⟨k + 1, by omega, by go_num, HO4, HB4⟩
            case measure => simp [intOf]; omega
          · obtain rfl : k = 1 := by omega
            obtain ⟨b, off, rfl, hlt, hcell⟩ := (HH.out.kept HBW.out).cells (by omega)
            obtain ⟨x, hx0⟩ : ∃ x, x = zs.getD (1) 0 := ⟨_, rfl⟩
            have hck := hcell (1) (by omega)
            rw [← hx0] at hck
            have bx : -1152921504606846976 ≤ x ∧ x ≤ 1152921504606846976 := by rw [hx0]; exact getD_mem_or HB.out (by omega) _
            obtain ⟨bx1, bx2⟩ := bx
            obtain ⟨y, hx1⟩ : ∃ y, y = zs.getD (0) 0 := ⟨_, rfl⟩
            have hck1 := hcell (0) (by omega)
            rw [← hx1, Nat.add_zero] at hck1
            have by_ : -1152921504606846976 ≤ y ∧ y ≤ 1152921504606846976 := by rw [hx1]; exact getD_mem_or HB.out (by omega) _
            obtain ⟨by1, by2⟩ := by_
            have hx2 := True.intro
            have HTN := Lib.hid (show tk zs 2 (1 + 1) = tk zs 2 (1) ++ [x - y] by rw [tk_succ (by rw [HL.out]; omega)]; congr 2; simp [tn, hx0, hx1])
            clear hcell hx0 hx1 hx2
            have hgo := HO.out
            have HBW1 := HBW
            have hbs := HBW1.out.size
            go_wp2_with (at_builtin; refine wpList_append_own _ rfl (.tmp 51) (.tmp 53) 22 rfl w.heap.size 2 i0 (.int .i64 0) 1 8 Try.underlying22 hi hz0 hz1 hz2 rfl (by decide) _ _ _ rfl (hgo.alloc _) ⟨wr.heap.size, 0, none⟩ 1 1 [.int .i64 (x - y)] rfl rfl (one_src _ _ _) (one_oneCell rfl) (by unfold maxLen; omega) (by omega) (by simp at hbs ⊢; omega) ?_)
            intro v4 w4 hown4 hg4 _
            have HO4 := Lib.hid (show w4.ownsRow w.heap.size 2 1 v4 (1 + 1) (iv .i64 (tk zs 2 (1 + 1))) by
              rw [HTN.out, iv_append]; exact hown4)
            have HB4 := Lib.hid ((HBW1.out.alloc hbs _).grown hg4 (by simp at hbs ⊢; omega) (fun j hj => (hgo.lt j hj).1))
            clear hown4 hg4 hgo
            go_wp2_with fail
            go_roundw
            case rel => exact ⟨1 + 1, by omega, by go_num, HO4, HB4⟩
            case measure => simp [intOf]; omega
        · obtain ⟨j, rfl⟩ : ∃ j, k = j + 2 := ⟨k - 2, by omega⟩
          obtain ⟨b, off, rfl, hlt, hcell⟩ := (HH.out.kept HBW.out).cells (by omega)
          obtain ⟨x, hx0⟩ : ∃ x, x = zs.getD (j + 2) 0 := ⟨_, rfl⟩
          have hck := hcell (j + 2) (by omega)
          rw [← hx0] at hck
          have bx : -1152921504606846976 ≤ x ∧ x ≤ 1152921504606846976 := by rw [hx0]; exact getD_mem_or HB.out (by omega) _
          obtain ⟨bx1, bx2⟩ := bx
          obtain ⟨y, hx1⟩ : ∃ y, y = zs.getD (j + 1) 0 := ⟨_, rfl⟩
          have hck1 := hcell (j + 1) (by omega)
          rw [← hx1] at hck1
          have by_ : -1152921504606846976 ≤ y ∧ y ≤ 1152921504606846976 := by rw [hx1]; exact getD_mem_or HB.out (by omega) _
          obtain ⟨by1, by2⟩ := by_
          obtain ⟨z, hx2⟩ : ∃ z, z = zs.getD (j) 0 := ⟨_, rfl⟩
          have hck2 := hcell (j) (by omega)
          rw [← hx2] at hck2
          have bz : -1152921504606846976 ≤ z ∧ z ≤ 1152921504606846976 := by rw [hx2]; exact getD_mem_or HB.out (by omega) _
          obtain ⟨bz1, bz2⟩ := bz
          have HTN := Lib.hid (show tk zs 2 (j + 2 + 1) = tk zs 2 (j + 2) ++ [x - 2 * y + z] by rw [tk_succ (by rw [HL.out]; omega)]; congr 2; simp [tn, hx0, hx1, hx2])
          clear hcell hx0 hx1 hx2
          go_wp2_with fail
          go_quiet (fail)
          rename Nat => nq
          have hgo := own_below HO.out (show Below wr.heap.size wr (wr.drewN nq) from ⟨rfl, rfl, rfl, Nat.le_refl _, fun _ _ => rfl⟩)
          have HBW1 := Lib.hid (show Below w.heap.size w (wr.drewN nq) from HBW.out.trans ⟨rfl, rfl, rfl, Nat.le_refl _, fun _ _ => rfl⟩)
          have hbs := HBW1.out.size
          go_wp2_with (at_builtin; refine wpList_append_own _ rfl (.tmp 51) (.tmp 53) 22 rfl w.heap.size 2 i0 (.int .i64 0) 1 8 Try.underlying22 hi hz0 hz1 hz2 rfl (by decide) _ _ _ rfl (hgo.alloc _) ⟨(wr.drewN nq).heap.size, 0, none⟩ 1 1 [.int .i64 (x - 2 * y + z)] rfl rfl (one_src _ _ _) (one_oneCell rfl) (by unfold maxLen; omega) (by omega) (by simp at hbs ⊢; omega) ?_)
          intro v4 w4 hown4 hg4 _
          have HO4 := Lib.hid (show w4.ownsRow w.heap.size 2 1 v4 (j + 2 + 1) (iv .i64 (tk zs 2 (j + 2 + 1))) by
            rw [HTN.out, iv_append]; exact hown4)
          have HB4 := Lib.hid ((HBW1.out.alloc hbs _).grown hg4 (by simp at hbs ⊢; omega) (fun j hj => (hgo.lt j hj).1))
          clear hown4 hg4 hgo
          go_wp2_with fail
          go_roundw
          case rel => exact ⟨j + 2 + 1, by omega, by go_num, HO4, HB4⟩
          case measure => simp [intOf]; omega
      · obtain rfl : k = n := by omega
        have hfull : tk zs 2 k = tl zs 2 := tk_full (by rw [HL.out]; exact Nat.le_refl _)
        have ho := HO.out
        rw [hfull] at ho
        obtain ⟨a4, c4, rfl, hy4, _⟩ := IntsAt.ofOwn ho (tl_wf HB.out 2)
        have HY4 := Lib.hid hy4
        have HO4 := Lib.hid ho
        clear ho hy4 hfull
        go_wp2_with fail
        go_ret
        exact ⟨a4, c4, rfl, HO4.out, HY4.out, HBW.out⟩
end Go.Proofs.Ytcnkhliplcbfkaa
