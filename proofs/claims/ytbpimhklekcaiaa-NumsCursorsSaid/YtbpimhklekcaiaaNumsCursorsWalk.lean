/- The walk of NumsCursors: it returns true for all bytes and all rows of reads. -/
import Derived.Test.YtbpimhklekcaiaaNumsRCur2
import Derived.Test.YtbpimhklekcaiaaReads
namespace Go.Proofs.Ytbpimhklekcaiaa
open Go.RowKit NumsPlain
set_option linter.unusedVariables false

theorem cu_nil (w : World) : Calls Try.prog 24 #[.pointer none] w fun r w' => r = .returned (.int .u64 0) ∧ w = w' := by
  go_enter Try.func24, Try.ntmps24
  go_wp2_with fail
  refine (reads_nil _).mono ?_
  rintro r w' ⟨rfl, rfl⟩
  go_wp2_with fail
  go_ret
  exact ⟨rfl, rfl⟩
theorem cn_nil (m f : Int) (w : World) : Calls Try.prog 39 #[.pointer none, .int .i64 m, .int .i64 f] w fun r w' => r = .returned (.int .i64 0) ∧ w = w' := by
  go_enter Try.func39, Try.ntmps39
  go_wp2_with fail
  refine (reads_nil _).mono ?_
  rintro r w' ⟨rfl, rfl⟩
  go_wp2_with fail
  go_ret
  exact ⟨rfl, rfl⟩
theorem cnum_nil (m : Int) (w : World) : Calls Try.prog 28 #[.pointer none, .int .i64 m] w fun r w' => r = .returned (.int .i64 0) ∧ w = w' := by
  go_enter Try.func28, Try.ntmps28
  go_wp2_with fail
  refine (cn_nil _ _ _).mono ?_
  rintro r w' ⟨rfl, rfl⟩
  go_wp2_with fail
  go_ret
  exact ⟨rfl, rfl⟩
theorem cbytes_nil (m : Int) (w : World) : Calls Try.prog 30 #[.pointer none, .int .i64 m] w fun r w' => r = .returned (.slice none 0 0) ∧ w = w' := by
  go_enter Try.func30, Try.ntmps30
  go_wp2_with fail
  refine (reads_nil _).mono ?_
  rintro r w' ⟨rfl, rfl⟩
  go_wp2_with fail
  go_ret
  exact ⟨rfl, rfl⟩
theorem ctext_nil (m : Int) (w : World) : Calls Try.prog 32 #[.pointer none, .int .i64 m] w fun r w' => r = .returned (.string ⟨#[]⟩) ∧ w = w' := by
  go_enter Try.func32, Try.ntmps32
  go_wp2_with fail
  refine (reads_nil _).mono ?_
  rintro r w' ⟨rfl, rfl⟩
  go_wp2_with fail
  go_ret
  exact ⟨rfl, rfl⟩
theorem at_nil (w : World) : Calls Try.prog 34 #[.pointer none] w fun r w' => r = .returned (.int .i64 0) ∧ w = w' := by
  go_enter Try.func34, Try.ntmps34
  go_wp2_with fail
  go_ret
  exact ⟨rfl, rfl⟩
theorem end_nil (w : World) : Calls Try.prog 35 #[.pointer none] w fun r w' => r = .returned (.int .i64 1) ∧ w = w' := by
  go_enter Try.func35, Try.ntmps35
  go_wp2_with fail
  go_ret
  exact ⟨rfl, rfl⟩

/-- a cursor's block holds no byte -/
theorem CurAt.bytes_ne {T : TypeId} {w : World} {B : Nat} {a : Option Addr} {n c : Nat} {xs : List Nat} {i e : Nat} (h : CurAt T w B a n c xs i e) {a2 : Option Addr} {n2 c2 : Nat} {ys : List Nat} (hb : BytesAt w a2 n2 c2 ys) :
    ∀ b off s, 0 < n2 → a2 = some ⟨b, off, s⟩ → b ≠ B := by
  rintro b off s hp ha rfl
  obtain ⟨b', off', ha', hlt, hc⟩ := hb.cells hp
  rw [ha] at ha'
  cases ha'
  have := hc 0 hp
  rw [cell_of_row w b _ _ T (0, 0) h.blk] at this
  match off, this with
  | 0, h => simp at h
  | 1, h => simp at h
  | 2, h => simp at h
  | k + 3, h => simp at h
theorem CurAt.apart2 {T T' : TypeId} (hT : T ≠ T') {w : World} {B B' : Nat} {a a' : Option Addr} {n n' c c' : Nat} {xs xs' : List Nat} {i i' e e' : Nat} (h : CurAt T w B a n c xs i e) (h' : CurAt T' w B' a' n' c' xs' i' e') : B ≠ B' := by
  rintro rfl
  have := h.blk.symm.trans h'.blk
  simp at this
  exact hT this.2
/-- the other cursor's step leaves it alone -/
theorem CurAt.other {T T' : TypeId} (hT : T ≠ T') {w w' : World} {B B' : Nat} {a a' : Option Addr} {n n' c c' : Nat} {xs xs' : List Nat} {i i' e e' : Nat} (h : CurAt T w B a n c xs i e) (h' : CurAt T' w B' a' n' c' xs' i' e') (hg : w.grownBy w' (some B')) : CurAt T w' B a n c xs i e :=
  h.grownE hg (h.apart2 hT h') (h'.bytes_ne h.src)
theorem CurAt.alloc {T : TypeId} {w : World} {B : Nat} {a : Option Addr} {n c : Nat} {xs : List Nat} {i e : Nat} (h : CurAt T w B a n c xs i e) (o : Obj) : CurAt T (w.alloc o) B a n c xs i e :=
  h.keptB ((Below.refl _ _).alloc (Nat.le_refl _) o)
theorem ne_types : (59 : TypeId) ≠ 44 := by decide
theorem ne_types' : (44 : TypeId) ≠ 59 := by decide

set_option maxRecDepth 100000 in
set_option maxHeartbeats 16000000 in
theorem numsCursors_walk (a0 : Option Addr) (len0 cap0 : Nat) (z0 : List Int) (a1 : Option Addr) (len1 cap1 : Nat) (ps : Nat → Int × Int) (w : World) (w0 : IsRow .u8 1 w a0 len0 cap0 z0) (w1 : ReadsAt w a1 len1 cap1 ps) :
    Calls Try.prog 7 #[.slice a0 len0 cap0, .slice a1 len1 cap1] w fun e w' => e = .returned (.bool true) ∧ Below w.heap.size w w' := by
  obtain ⟨xs, hb⟩ := w0.bytes
  have hcap := w1.cap
  have hcm := w1.capm
  have HC := Lib.hid w1.cells
  have hreach := hb.reach
  have HT := Lib.hid (twin hb)
  have HB0 := Lib.hid hb
  clear w0 w1 hb
  go_enter Try.func7, Try.ntmps7
  go_wp2_with fail
  refine HT.out.mono ?_
  rintro r wt ⟨g, kk, rfl, hg, hglt, hown, hbt, hbelt⟩
  have HN := Lib.hid (new_any hbt)
  obtain ⟨cur0, hg0, hcs0⟩ : ∃ cur, wt.heap[g]? = some (.cells cur 5 (0, 0)) ∧ len0 ≤ cur.size := by
    rcases hown.2 with ⟨h0, _⟩ | ⟨g', cap, cur, he, _, hh, hn, hcap, hsz, htake⟩
    · cases h0
    · cases he
      exact ⟨cur, hh, by omega⟩
  have HG0 := Lib.hid hg0
  have HBELT := Lib.hid hbelt
  clear hown hbt hg0 hbelt
  go_wp2_with fail
  refine HN.out.mono ?_
  rintro r wn ⟨B, a', c', rfl, hcur, hbel, hB, hfa⟩
  have HCUR := Lib.hid hcur
  have hbn := HBELT.out.trans (hbel.mono HBELT.out.size)
  have HBEL := Lib.hid hbn
  have hgn : wn.heap[g]? = some (.cells cur0 5 (0, 0)) := (hbel.block g hglt).trans HG0.out
  have HGN := Lib.hid hgn
  have hBw : w.heap.size ≤ B := Nat.le_trans HBELT.out.size hB
  have HFA := Lib.hid hfa
  clear hcur hbel hbn hgn hfa
  by_cases hbig : (300 : Int) < (len1 : Int)
  · go_wp2_with fail
    go_ret
    exact ⟨rfl, HBEL.out⟩
  · have hbig2 : (len1 : Int) ≤ 300 := by omega
    clear hbig
    go_wp2_with fail
    go_loopw [7, 28] (fun s7 sk wr => ∃ (j : Nat) (cur : Array Value), j ≤ len0 ∧ sk = .int .i64 j ∧ wr.heap[g]? = some (.cells cur 5 (0, 0)) ∧ len0 ≤ cur.size ∧ CurAt 59 wr B a' len0 c' xs 0 0 ∧ Below w.heap.size w wr) (fun _ sk _ => len0 - (intOf sk).toNat)
    case atStart => exact ⟨0, cur0, by omega, rfl, HGN.out, hcs0, HCUR.out, HBEL.out⟩
    case round =>
      obtain ⟨j, cur, hj, rfl, hgr, hcs, hcur1, hbel1⟩ := hrel
      rename World => wr
      by_cases hjm : j < len0
      · have hcell : wr.cell? ⟨g, j, none⟩ = some (cur[j]'(by omega)) := by rw [cell_of_row wr g j _ _ _ hgr]; exact Array.getElem?_eq_getElem (by omega)
        have hfz : wr.frozen? ⟨g, j, none⟩ = false := frozen_of_row wr g j _ _ hgr
        have hgrow : wr.grownBy (wr.setCell ⟨g, j, none⟩ (.int .u8 77)) (some g) := ⟨rfl, rfl, rfl, by simp, fun k _ hk => heap_setCell_other wr ⟨g, j, none⟩ k _ (fun e => hk (by simp [e]))⟩
        have hgr2 : (wr.setCell ⟨g, j, none⟩ (.int .u8 77)).heap[g]? = some (.cells (cur.setIfInBounds j (.int .u8 77)) 5 (0, 0)) := heap_setCell_same wr g j cur 5 _ hgr
        have hc2 : CurAt 59 (wr.setCell ⟨g, j, none⟩ (.int .u8 77)) B a' len0 c' xs 0 0 := hcur1.grownE hgrow (by omega) (fun b off s _ e => by have := HFA.out b off s e; omega)
        have hb2 : Below w.heap.size w (wr.setCell ⟨g, j, none⟩ (.int .u8 77)) := hbel1.grown hgrow hbel1.size (fun k hk => by cases hk; exact hg)
        have HGR2 := Lib.hid hgr2
        have HC2 := Lib.hid hc2
        have HB2 := Lib.hid hb2
        have hcs2 : len0 ≤ (cur.setIfInBounds j (.int .u8 77)).size := by simpa using hcs
        clear hgrow hgr2 hc2 hb2 hgr hcur1 hbel1
        go_wp2_with fail
        go_roundw
        case rel => exact ⟨j + 1, _, by omega, by go_num, HGR2.out, hcs2, HC2.out, HB2.out⟩
        case measure => simp [intOf]; omega
      · have HG1 := Lib.hid hcur1
        have HB1 := Lib.hid hbel1
        have hWw : w.heap.size ≤ wr.heap.size := hbel1.size
        obtain ⟨wq, hwq⟩ : ∃ wq, wq = wr.alloc (.cells #[.slice a0 len0 cap0, .int .i64 0, .int .i64 0] 44) := ⟨_, rfl⟩
        have hrc0 : CurAt 44 wq wr.heap.size a0 len0 cap0 xs 0 0 := by
          rw [hwq]
          refine ⟨heap_alloc_new wr _, (HB0.out.kept hbel1).alloc _, fun b off s hp ha => ?_, Nat.zero_le _⟩
          obtain ⟨b', off', ha', hlt, _⟩ := HB0.out.cells hp
          rw [ha] at ha'
          cases ha'
          omega
        have hcc0 : CurAt 59 wq B a' len0 c' xs 0 0 := by rw [hwq]; exact hcur1.alloc _
        have hbb0 : Below w.heap.size w wq := by rw [hwq]; exact hbel1.alloc hbel1.size _
        obtain ⟨W, hW⟩ : ∃ W, W = wr.heap.size := ⟨_, rfl⟩
        rw [← hW] at hrc0 hWw
        have HWQ := Lib.hid hwq
        have HR0 := Lib.hid hrc0
        have HC0 := Lib.hid hcc0
        have HBB0 := Lib.hid hbb0
        have HWE := Lib.hid hW
        clear hwq hrc0 hcc0 hbb0 hgr hcur1 hbel1 HG1 HB1 hW
        go_wp2_with fail
        rw [← HWQ.out, ← HWE.out]
        clear HWQ HWE
        go_loopw [11, 40] (fun s11 sk wr => ∃ (k i e : Nat), k ≤ len1 ∧ sk = .int .i64 k ∧ CurAt 59 wr B a' len0 c' xs i e ∧ CurAt 44 wr W a0 len0 cap0 xs i e ∧ Below w.heap.size w wr) (fun _ sk _ => len1 - (intOf sk).toNat)
        case atStart => exact ⟨0, 0, 0, by omega, rfl, HC0.out, HR0.out, HBB0.out⟩
        case round =>
          obtain ⟨k, i, e, hk, rfl, hcur1, hrc1, hbel1⟩ := hrel
          rename World => wr
          by_cases hkm : k < len1
          · obtain ⟨b, off, rfl, hlt, hc⟩ := HC.out (by omega)
            obtain ⟨q0, q1, qw⟩ := hc k hkm
            obtain ⟨x, hx⟩ : ∃ x, x = ps k := ⟨_, rfl⟩
            rw [← hx] at q0 q1 qw
            have r0 := (hbel1.cell (p := ⟨b, off + k * 2, none⟩) hlt).trans q0
            have r1 := (hbel1.cell (p := ⟨b, off + k * 2 + 1, none⟩) hlt).trans q1
            obtain ⟨kd, N⟩ := x
            simp only at r0 r1 qw
            obtain ⟨nlo, nhi⟩ := i64_of_wf qw
            have HLO := Lib.hid nlo
            have HHI := Lib.hid nhi
            obtain ⟨wx, hwx⟩ : ∃ wx, wx = wr.alloc (.cells #[.int .i64 kd, .int .i64 N] 46) := ⟨_, rfl⟩
            have hcx : CurAt 59 wx B a' len0 c' xs i e := by rw [hwx]; exact hcur1.alloc _
            have hrx : CurAt 44 wx W a0 len0 cap0 xs i e := by rw [hwx]; exact hrc1.alloc _
            have hbx : Below w.heap.size w wx := by rw [hwx]; exact hbel1.alloc hbel1.size _
            obtain ⟨X, hX⟩ : ∃ X, X = wr.heap.size := ⟨_, rfl⟩
            have x0 : wx.cell? ⟨X, 0, none⟩ = some (.int .i64 kd) := by rw [hwx, hX]; simp
            have x1 : wx.cell? ⟨X, 1, none⟩ = some (.int .i64 N) := by rw [hwx, hX]; simp
            have HXB := Lib.hid (show some X ≠ some B from fun h => by have := hcur1.lt; cases h; omega)
            have HXW := Lib.hid (show some X ≠ some W from fun h => by have := hrc1.lt; cases h; omega)
            have HCX := Lib.hid hcx
            have HRX := Lib.hid hrx
            have HBX := Lib.hid hbx
            have HWX := Lib.hid hwx
            have HXE := Lib.hid hX
            clear hc q0 q1 qw hx hcur1 hrc1 hbel1 nlo nhi hcx hrx hbx hwx hX
            by_cases hkd : kd = 0
            · have y0 : (kd == 0) = true := by rw [beq_iff_eq]; omega
              have hm := cu_any (HCX.out)
              have hrm := fun (w4 : World) (h : CurAt 44 w4 W a0 len0 cap0 xs i e) => rcu_any h
              generalize cu xs i e = z at hm hrm
              obtain ⟨v, i1, e1⟩ := z
              simp only at hm hrm
              have HM := Lib.hid hm
              have HRM := Lib.hid hrm
              clear hm hrm hkd
              go_wp2_with fail
              rw [← HWX.out]
              refine HM.out.mono ?_
              rintro r w3 ⟨rfl, hc3, hg3⟩
              have hr3 := HRX.out.other ne_types' HCX.out hg3
              have HHC3 := Lib.hid hc3
              have HHR3 := Lib.hid hr3
              have HG3 := Lib.hid hg3
              clear hc3 hr3 hg3
              go_wp2_with fail
              refine (HRM.out _ HHR3.out).mono ?_
              rintro r w4 ⟨rfl, hr4, hg4⟩
              have hc4 := HHC3.out.other ne_types HHR3.out hg4
              have hb4 := ((HBX.out.grown HG3.out HBX.out.size (fun k hk => by cases hk; exact hBw)))
              have hb5 := hb4.grown hg4 hb4.size (fun k hk => by cases hk; exact hWw)
              have v1 := hr4.c1
              have A1 : ∀ k, Calls Try.prog 34 #[.pointer (some ⟨B, 0, none⟩)] (w4.drewN k) fun e w' => e = .returned (.int .i64 (i1 : Int)) ∧ w' = w4.drewN k := fun k => (at_any (hc4.drewN k)).mono fun e w' h => ⟨h.1, h.2.symm⟩
              have HA1 := Lib.hid A1
              have HA2 := Lib.hid (fun k => end_any (hc4.drewN k))
              have HA3 := Lib.hid (fun k => rend_any (hr4.drewN k))
              have HHC4 := Lib.hid hc4
              have HHR4 := Lib.hid hr4
              have HB5 := Lib.hid hb5
              clear A1 hc4 hr4 hb5 hg4
              try rw [beq_self_eq_true]
              go_wp2_with fail
              go_quiet ((first | (go_at_call 34; exact Calls.quiet_of_same (HA1.out _)) | (go_at_call 35; exact Calls.quiet_of (HA2.out _)) | (go_at_call 36; exact Calls.quiet_of (HA3.out _))))
              go_wp2_with fail
              go_roundw
              case rel => exact ⟨k + 1, i1, e1, by omega, by go_num, HHC4.out.drewN _, HHR4.out.drewN _, below_drewN HB5.out _⟩
              case measure => simp [intOf]; omega
            · have hq0 := hkd
              clear hkd
              by_cases hkd : kd = 1
              · have y0 : (kd == 0) = false := by rw [beq_eq_false_iff_ne]; omega
                have y1 : (kd == 1) = true := by rw [beq_iff_eq]; omega
                have hm := ci_any (HCX.out)
                have hrm := fun (w4 : World) (h : CurAt 44 w4 W a0 len0 cap0 xs i e) => rci_any h
                generalize cu xs i e = z at hm hrm
                obtain ⟨v, i1, e1⟩ := z
                simp only at hm hrm
                have HM := Lib.hid hm
                have HRM := Lib.hid hrm
                clear hm hrm hkd
                go_wp2_with fail
                rw [← HWX.out]
                refine HM.out.mono ?_
                rintro r w3 ⟨rfl, hc3, hg3⟩
                have hr3 := HRX.out.other ne_types' HCX.out hg3
                have HHC3 := Lib.hid hc3
                have HHR3 := Lib.hid hr3
                have HG3 := Lib.hid hg3
                clear hc3 hr3 hg3
                go_wp2_with fail
                refine (HRM.out _ HHR3.out).mono ?_
                rintro r w4 ⟨rfl, hr4, hg4⟩
                have hc4 := HHC3.out.other ne_types HHR3.out hg4
                have hb4 := ((HBX.out.grown HG3.out HBX.out.size (fun k hk => by cases hk; exact hBw)))
                have hb5 := hb4.grown hg4 hb4.size (fun k hk => by cases hk; exact hWw)
                have v1 := hr4.c1
                have A1 : ∀ k, Calls Try.prog 34 #[.pointer (some ⟨B, 0, none⟩)] (w4.drewN k) fun e w' => e = .returned (.int .i64 (i1 : Int)) ∧ w' = w4.drewN k := fun k => (at_any (hc4.drewN k)).mono fun e w' h => ⟨h.1, h.2.symm⟩
                have HA1 := Lib.hid A1
                have HA2 := Lib.hid (fun k => end_any (hc4.drewN k))
                have HA3 := Lib.hid (fun k => rend_any (hr4.drewN k))
                have HHC4 := Lib.hid hc4
                have HHR4 := Lib.hid hr4
                have HB5 := Lib.hid hb5
                clear A1 hc4 hr4 hb5 hg4
                try rw [beq_self_eq_true]
                go_wp2_with fail
                go_quiet ((first | (go_at_call 34; exact Calls.quiet_of_same (HA1.out _)) | (go_at_call 35; exact Calls.quiet_of (HA2.out _)) | (go_at_call 36; exact Calls.quiet_of (HA3.out _))))
                go_wp2_with fail
                go_roundw
                case rel => exact ⟨k + 1, i1, e1, by omega, by go_num, HHC4.out.drewN _, HHR4.out.drewN _, below_drewN HB5.out _⟩
                case measure => simp [intOf]; omega
              · have hq1 := hkd
                clear hkd
                by_cases hkd : kd = 2
                · have y0 : (kd == 0) = false := by rw [beq_eq_false_iff_ne]; omega
                  have y1 : (kd == 1) = false := by rw [beq_eq_false_iff_ne]; omega
                  have y2 : (kd == 2) = true := by rw [beq_iff_eq]; omega
                  have hm := cnum_any (HCX.out.drew) N HLO.out HHI.out
                  have hrm := fun (w4 : World) (h : CurAt 44 w4 W a0 len0 cap0 xs i e) => rcn_any h N HLO.out HHI.out
                  generalize cn xs i e N 2 = z at hm hrm
                  obtain ⟨v, i1, e1⟩ := z
                  simp only at hm hrm
                  have HM := Lib.hid hm
                  have HRM := Lib.hid hrm
                  clear hm hrm hkd
                  go_wp2_with fail
                  rw [← HWX.out, ← HXE.out]
                  clear HWX HXE
                  go_region_held3 (fun w' => w'.cell? ⟨X, 1, none⟩ = some (.int .i64 N)) (first | go_keep | exact hg4.cell (hg3.cell (w := wx.drew) x1 HXB.out) HXW.out | exact hg3.cell (w := wx.drew) x1 HXB.out) (first | (go_at_call 28; refine HM.out.mono ?_; rintro r w3 ⟨rfl, hc3, hg3⟩) | (go_at_call 29; refine (HRM.out _ (HRX.out.drew.other ne_types' HCX.out.drew hg3)).mono ?_; rintro r w4 ⟨rfl, hr4, hg4⟩))
                  have hr3 := HRX.out.drew.other ne_types' HCX.out.drew hg3
                  have hc4 := hc3.other ne_types hr3 hg4
                  have hb4 := (HBX.out.drew.grown hg3 HBX.out.drew.size (fun k hk => by cases hk; exact hBw))
                  have hb5 := hb4.grown hg4 hb4.size (fun k hk => by cases hk; exact hWw)
                  clear hr3 hb4 hc3 hg3
                  have v1 := hr4.c1
                  have A1 : ∀ k, Calls Try.prog 34 #[.pointer (some ⟨B, 0, none⟩)] (w4.drewN k) fun e w' => e = .returned (.int .i64 (i1 : Int)) ∧ w' = w4.drewN k := fun k => (at_any (hc4.drewN k)).mono fun e w' h => ⟨h.1, h.2.symm⟩
                  have HA1 := Lib.hid A1
                  have HA2 := Lib.hid (fun k => end_any (hc4.drewN k))
                  have HA3 := Lib.hid (fun k => rend_any (hr4.drewN k))
                  have HHC4 := Lib.hid hc4
                  have HHR4 := Lib.hid hr4
                  have HB5 := Lib.hid hb5
                  clear A1 hc4 hr4 hb5 hg4
                  try rw [beq_self_eq_true]
                  go_wp2_with fail
                  go_quiet ((first | (go_at_call 34; exact Calls.quiet_of_same (HA1.out _)) | (go_at_call 35; exact Calls.quiet_of (HA2.out _)) | (go_at_call 36; exact Calls.quiet_of (HA3.out _))))
                  go_wp2_with fail
                  go_roundw
                  case rel => exact ⟨k + 1, i1, e1, by omega, by go_num, HHC4.out.drewN _, HHR4.out.drewN _, below_drewN HB5.out _⟩
                  case measure => simp [intOf]; omega
                · have hq2 := hkd
                  clear hkd
                  by_cases hkd : kd = 3
                  · have y0 : (kd == 0) = false := by rw [beq_eq_false_iff_ne]; omega
                    have y1 : (kd == 1) = false := by rw [beq_eq_false_iff_ne]; omega
                    have y2 : (kd == 2) = false := by rw [beq_eq_false_iff_ne]; omega
                    have y3 : (kd == 3) = true := by rw [beq_iff_eq]; omega
                    have hm := cb_any (HCX.out.drew) N HLO.out HHI.out
                    have hrm := fun (w4 : World) (h : CurAt 44 w4 W a0 len0 cap0 xs i e) => rcb_any h N HLO.out HHI.out
                    generalize cb xs i e N = z at hm hrm
                    obtain ⟨v, i1, e1⟩ := z
                    simp only at hm hrm
                    have HM := Lib.hid hm
                    have HRM := Lib.hid hrm
                    clear hm hrm hkd
                    go_wp2_with fail
                    rw [← HWX.out, ← HXE.out]
                    clear HWX HXE
                    go_region_held3 (fun w' => w'.cell? ⟨X, 1, none⟩ = some (.int .i64 N)) (first | go_keep | exact hg4.cell (hg3.cell (w := wx.drew) x1 HXB.out) HXW.out | exact hg3.cell (w := wx.drew) x1 HXB.out) (first | (go_at_call 30; refine HM.out.mono ?_; rintro r w3 ⟨⟨a3, c3, rfl, hy3⟩, hc3, hg3⟩) | (go_at_call 31; refine (HRM.out _ (HRX.out.drew.other ne_types' HCX.out.drew hg3)).mono ?_; rintro r w4 ⟨⟨a4, c4, rfl, hy4⟩, hr4, hg4⟩) | (go_at_call 11; refine (same_any (hy3.grownE hg4 ((HRX.out.drew.other ne_types' HCX.out.drew hg3).bytes_ne hy3)) hy4).mono ?_; rintro r w5 ⟨rfl, rfl⟩))
                    have hr3 := HRX.out.drew.other ne_types' HCX.out.drew hg3
                    have hc4 := hc3.other ne_types hr3 hg4
                    have hb4 := (HBX.out.drew.grown hg3 HBX.out.drew.size (fun k hk => by cases hk; exact hBw))
                    have hb5 := hb4.grown hg4 hb4.size (fun k hk => by cases hk; exact hWw)
                    clear hr3 hb4 hc3 hg3
                    have v1 := hr4.c1
                    have A1 : ∀ k, Calls Try.prog 34 #[.pointer (some ⟨B, 0, none⟩)] (w4.drewN k) fun e w' => e = .returned (.int .i64 (i1 : Int)) ∧ w' = w4.drewN k := fun k => (at_any (hc4.drewN k)).mono fun e w' h => ⟨h.1, h.2.symm⟩
                    have HA1 := Lib.hid A1
                    have HA2 := Lib.hid (fun k => end_any (hc4.drewN k))
                    have HA3 := Lib.hid (fun k => rend_any (hr4.drewN k))
                    have HHC4 := Lib.hid hc4
                    have HHR4 := Lib.hid hr4
                    have HB5 := Lib.hid hb5
                    clear A1 hc4 hr4 hb5 hg4
                    try rw [beq_self_eq_true]
                    go_wp2_with fail
                    go_quiet ((first | (go_at_call 34; exact Calls.quiet_of_same (HA1.out _)) | (go_at_call 35; exact Calls.quiet_of (HA2.out _)) | (go_at_call 36; exact Calls.quiet_of (HA3.out _))))
                    go_wp2_with fail
                    go_roundw
                    case rel => exact ⟨k + 1, i1, e1, by omega, by go_num, HHC4.out.drewN _, HHR4.out.drewN _, below_drewN HB5.out _⟩
                    case measure => simp [intOf]; omega
                  · have hq3 := hkd
                    clear hkd
                    have y0 : (kd == 0) = false := by rw [beq_eq_false_iff_ne]; omega
                    have y1 : (kd == 1) = false := by rw [beq_eq_false_iff_ne]; omega
                    have y2 : (kd == 2) = false := by rw [beq_eq_false_iff_ne]; omega
                    have y3 : (kd == 3) = false := by rw [beq_eq_false_iff_ne]; omega
                    have hm := ct_any (HCX.out.drew) N HLO.out HHI.out
                    have hrm := fun (w4 : World) (h : CurAt 44 w4 W a0 len0 cap0 xs i e) => rct_any h N HLO.out HHI.out
                    generalize ct xs i e N = z at hm hrm
                    obtain ⟨v, i1, e1⟩ := z
                    simp only at hm hrm
                    have HM := Lib.hid hm
                    have HRM := Lib.hid hrm
                    clear hm hrm
                    go_wp2_with fail
                    rw [← HWX.out, ← HXE.out]
                    clear HWX HXE
                    go_region_held3 (fun w' => w'.cell? ⟨X, 1, none⟩ = some (.int .i64 N)) (first | go_keep | exact hg4.cell (hg3.cell (w := wx.drew) x1 HXB.out) HXW.out | exact hg3.cell (w := wx.drew) x1 HXB.out) (first | (go_at_call 32; refine HM.out.mono ?_; rintro r w3 ⟨rfl, hc3, hg3⟩) | (go_at_call 33; refine (HRM.out _ (HRX.out.drew.other ne_types' HCX.out.drew hg3)).mono ?_; rintro r w4 ⟨rfl, hr4, hg4⟩))
                    have hr3 := HRX.out.drew.other ne_types' HCX.out.drew hg3
                    have hc4 := hc3.other ne_types hr3 hg4
                    have hb4 := (HBX.out.drew.grown hg3 HBX.out.drew.size (fun k hk => by cases hk; exact hBw))
                    have hb5 := hb4.grown hg4 hb4.size (fun k hk => by cases hk; exact hWw)
                    clear hr3 hb4 hc3 hg3
                    have v1 := hr4.c1
                    have A1 : ∀ k, Calls Try.prog 34 #[.pointer (some ⟨B, 0, none⟩)] (w4.drewN k) fun e w' => e = .returned (.int .i64 (i1 : Int)) ∧ w' = w4.drewN k := fun k => (at_any (hc4.drewN k)).mono fun e w' h => ⟨h.1, h.2.symm⟩
                    have HA1 := Lib.hid A1
                    have HA2 := Lib.hid (fun k => end_any (hc4.drewN k))
                    have HA3 := Lib.hid (fun k => rend_any (hr4.drewN k))
                    have HHC4 := Lib.hid hc4
                    have HHR4 := Lib.hid hr4
                    have HB5 := Lib.hid hb5
                    clear A1 hc4 hr4 hb5 hg4
                    try rw [beq_self_eq_true]
                    go_wp2_with fail
                    go_quiet ((first | (go_at_call 34; exact Calls.quiet_of_same (HA1.out _)) | (go_at_call 35; exact Calls.quiet_of (HA2.out _)) | (go_at_call 36; exact Calls.quiet_of (HA3.out _))))
                    go_wp2_with fail
                    go_roundw
                    case rel => exact ⟨k + 1, i1, e1, by omega, by go_num, HHC4.out.drewN _, HHR4.out.drewN _, below_drewN HB5.out _⟩
                    case measure => simp [intOf]; omega
          · have HB2 := Lib.hid hbel1
            clear hcur1 hrc1 hbel1
            go_wp2_with fail
            refine (cu_nil _).mono ?_
            rintro r w5 ⟨rfl, rfl⟩
            go_wp2_with fail
            refine (cnum_nil _ _).mono ?_
            rintro r w5 ⟨rfl, rfl⟩
            go_wp2_with fail
            refine (cbytes_nil _ _).mono ?_
            rintro r w5 ⟨rfl, rfl⟩
            go_wp2_with fail
            refine (ctext_nil _ _).mono ?_
            rintro r w5 ⟨rfl, rfl⟩
            go_wp2_with fail
            refine (at_nil _).mono ?_
            rintro r w5 ⟨rfl, rfl⟩
            go_wp2_with fail
            refine (end_nil _).mono ?_
            rintro r w5 ⟨rfl, rfl⟩
            go_wp2_with fail
            go_ret
            exact ⟨rfl, HB2.out⟩
end Go.Proofs.Ytbpimhklekcaiaa
