/- The walk of NumsStops: it returns true for all bytes and all rows of reads. -/
import Derived.Test.YtbpimhklekcaiaaNumsCur3
import Derived.Test.YtbpimhklekcaiaaNumsJoinsWalk
import Derived.Test.YtbpimhklekcaiaaReads
namespace Go.Proofs.Ytbpimhklekcaiaa
open Go.RowKit NumsPlain
set_option linter.unusedVariables false

theorem cu_mono (xs : List Nat) (i e : Nat) : i ≤ (cu xs i e).2.1 := by
  unfold cu
  split
  · split
    · simp
    · simp
  · simp
theorem cn_mono (xs : List Nat) (i e : Nat) (most : Int) (above : Nat) : i ≤ (cn xs i e most above).2.1 := by
  have := cu_mono xs i 0
  unfold cn
  split
  · simp
  · split
    · simp
    · split
      · simp
      · exact this
theorem cb_mono (xs : List Nat) (i e : Nat) (k : Int) : i ≤ (cb xs i e k).2.1 := by
  unfold cb
  split
  · simp
  · split
    · simp
    · simp
theorem ct_mono (xs : List Nat) (i e : Nat) (most : Int) : i ≤ (ct xs i e most).2.1 := by
  have h1 := cn_mono xs i 0 most 5
  have h2 := cb_mono xs (cn xs i 0 most 5).2.1 (cn xs i 0 most 5).2.2 ((cn xs i 0 most 5).1 : Int)
  unfold ct
  split
  · simp
  · split
    · simp
    · omega
theorem cu_e (xs : List Nat) {i e : Nat} (h : e ≠ 0) : cu xs i e = (0, i, e) := by unfold cu; rw [if_neg h]
theorem cn_e (xs : List Nat) {i e : Nat} (most : Int) (above : Nat) (h : e ≠ 0) : cn xs i e most above = (0, i, e) := by unfold cn; rw [if_pos h]
theorem cb_e (xs : List Nat) {i e : Nat} (k : Int) (h : e ≠ 0) : cb xs i e k = ([], i, e) := by unfold cb; rw [if_pos h]
theorem ct_e (xs : List Nat) {i e : Nat} (most : Int) (h : e ≠ 0) : ct xs i e most = ([], i, e) := by unfold ct; rw [if_pos h]
theorem bs_nil : bs [] = ⟨#[]⟩ := rfl
theorem CurAt.alloc {T : TypeId} {w : World} {B : Nat} {a : Option Addr} {n c : Nat} {xs : List Nat} {i e : Nat} (h : CurAt T w B a n c xs i e) (o : Obj) : CurAt T (w.alloc o) B a n c xs i e :=
  h.keptB ((Below.refl _ _).alloc (Nat.le_refl _) o)

set_option maxRecDepth 100000 in
set_option maxHeartbeats 16000000 in
theorem numsStops_walk (a0 : Option Addr) (len0 cap0 : Nat) (z0 : List Int) (a1 : Option Addr) (len1 cap1 : Nat) (ps : Nat → Int × Int) (w : World) (w0 : IsRow .u8 1 w a0 len0 cap0 z0) (w1 : ReadsAt w a1 len1 cap1 ps) :
    Calls Try.prog 8 #[.slice a0 len0 cap0, .slice a1 len1 cap1] w fun e w' => e = .returned (.bool true) ∧ Below w.heap.size w w' := by
  obtain ⟨xs, hb⟩ := w0.bytes
  have hcap := w1.cap
  have hcm := w1.capm
  have HC := Lib.hid w1.cells
  have hreach := hb.reach
  have HN := Lib.hid (new_any hb)
  have hempty : ∀ w, BytesAt w none 0 0 [] := fun w => BytesAt.empty w none 0 (by omega) (fun _ => rfl)
  clear w0 w1 hb
  go_enter Try.func8, Try.ntmps8
  go_wp2_with fail
  refine HN.out.mono ?_
  rintro r wn ⟨B, a', c', rfl, hcur, hbel, hB, _⟩
  have HCUR := Lib.hid hcur
  have HBEL := Lib.hid hbel
  clear hcur hbel
  by_cases hbig : (300 : Int) < (len1 : Int)
  · go_wp2_with fail
    go_ret
    exact ⟨rfl, HBEL.out⟩
  · have hbig2 : (len1 : Int) ≤ 300 := by omega
    clear hbig
    go_wp2_with fail
    go_loopw [8, 25] (fun s8 sk wr => ∃ (k i e : Nat), k ≤ len1 ∧ sk = .int .i64 k ∧ CurAt 59 wr B a' len0 c' xs i e ∧ Below w.heap.size w wr) (fun _ sk _ => len1 - (intOf sk).toNat)
    case atStart => exact ⟨0, 0, 0, by omega, rfl, HCUR.out, HBEL.out⟩
    case round =>
      obtain ⟨k, i, e, hk, rfl, hcur1, hbel1⟩ := hrel
      rename World => wr
      by_cases hkm : k < len1
      · obtain ⟨b, off, rfl, hlt, hc⟩ := HC.out (by omega)
        obtain ⟨q0, q1, qw⟩ := hc k hkm
        obtain ⟨x, hx⟩ : ∃ x, x = ps k := ⟨_, rfl⟩
        rw [← hx] at q0 q1 qw
        have r0 := (hbel1.cell (p := ⟨b, off + k * 2, none⟩) hlt).trans q0
        have r1 := (hbel1.cell (p := ⟨b, off + k * 2 + 1, none⟩) hlt).trans q1
        obtain ⟨kd, N⟩ := x
        simp only at r0 r1 qw
        obtain ⟨nlo, nhi⟩ := i64_of_wf qw
        have HLO := Lib.hid nlo
        have HHI := Lib.hid nhi
        have hin := hcur1.le
        obtain ⟨wx, hwx⟩ : ∃ wx, wx = wr.alloc (.cells #[.int .i64 kd, .int .i64 N] 46) := ⟨_, rfl⟩
        have hcx : CurAt 59 wx B a' len0 c' xs i e := by rw [hwx]; exact hcur1.alloc _
        have hbx : Below w.heap.size w wx := by rw [hwx]; exact hbel1.alloc hbel1.size _
        have x0 : wx.cell? ⟨wr.heap.size, 0, none⟩ = some (.int .i64 kd) := by rw [hwx]; simp
        have x1 : wx.cell? ⟨wr.heap.size, 1, none⟩ = some (.int .i64 N) := by rw [hwx]; simp
        have HE := Lib.hid (end_any hcx)
        have HCX := Lib.hid hcx
        have HBX := Lib.hid hbx
        have HWX := Lib.hid hwx
        clear hc q0 q1 qw hx hcur1 hbel1 nlo nhi hcx hbx hwx
        obtain ⟨e0, he0⟩ : ∃ e0, e0 = cend len0 i e := ⟨_, rfl⟩
        rw [← he0] at HE
        have HE0 := Lib.hid he0
        clear he0
        go_wp2_with fail
        rw [← HWX.out]
        refine HE.out.mono ?_
        rintro r w2 ⟨rfl, q, hw2⟩
        subst hw2
        go_wp2_with fail
        refine (at_any (HCX.out.drewN q)).mono ?_
        rintro r w2 ⟨rfl, rfl⟩
        by_cases hC : e0 ≠ 0 ∧ e0 ≠ 5
        · have he : e ≠ 0 := by
            intro h
            have := HE0.out
            unfold cend at this
            rw [if_pos h] at this
            split at this <;> omega
          have hee : cend len0 i e = e0 := HE0.out.symm
          have z1 : ((e0 : Int) != 0) = true := by rw [bne_iff_ne]; omega
          have z2 : ((e0 : Int) != 5) = true := by rw [bne_iff_ne]; omega
          have HEE := Lib.hid hee
          have HEN := Lib.hid he
          clear hee he hC
          by_cases hkd : kd = 0
          · have y0 : (kd == 0) = true := by rw [beq_iff_eq]; omega
            have hm := cu_any (HCX.out.drewN q)
            rw [cu_e xs HEN.out] at hm
            have HM := Lib.hid hm
            clear hm hkd
            go_wp2_with fail
            refine HM.out.mono ?_
            rintro r w3 ⟨rfl, hc3, hg3⟩
            have HC3 := Lib.hid hc3
            have HB3 := Lib.hid ((below_drewN HBX.out q).grown hg3 (below_drewN HBX.out q).size (fun k hk => by cases hk; exact Nat.le_trans (by omega) hB))
            have HE3 := Lib.hid (end_any hc3)
            try simp only at HC3 HE3
            rw [HEE.out] at HE3
            clear hc3 hg3
            go_wp2_with fail
            refine (at_any HC3.out).mono ?_
            rintro r w4 ⟨rfl, rfl⟩
            go_wp2_with fail
            refine (at_any HC3.out).mono ?_
            rintro r w4 ⟨rfl, rfl⟩
            go_wp2_with fail
            refine HE3.out.mono ?_
            rintro r w4 ⟨rfl, q4, hw4⟩
            subst hw4
            go_wp2_with fail
            refine (at_any (HC3.out.drewN q4)).mono ?_
            rintro r w4 ⟨rfl, rfl⟩
            go_wp2_with fail
            go_roundw
            case rel => exact ⟨k + 1, i, e, by omega, by go_num, HC3.out.drewN q4, below_drewN HB3.out q4⟩
            case measure => simp [intOf]; omega
          · have hq0 := hkd
            clear hkd
            by_cases hkd : kd = 1
            · have y0 : (kd == 0) = false := by rw [beq_eq_false_iff_ne]; omega
              have y1 : (kd == 1) = true := by rw [beq_iff_eq]; omega
              have hm := ci_any (HCX.out.drewN q)
              rw [cu_e xs HEN.out] at hm
              rw [show zag 0 = 0 from rfl] at hm
              have HM := Lib.hid hm
              clear hm hkd
              go_wp2_with fail
              refine HM.out.mono ?_
              rintro r w3 ⟨rfl, hc3, hg3⟩
              have HC3 := Lib.hid hc3
              have HB3 := Lib.hid ((below_drewN HBX.out q).grown hg3 (below_drewN HBX.out q).size (fun k hk => by cases hk; exact Nat.le_trans (by omega) hB))
              have HE3 := Lib.hid (end_any hc3)
              try simp only at HC3 HE3
              rw [HEE.out] at HE3
              clear hc3 hg3
              go_wp2_with fail
              refine (at_any HC3.out).mono ?_
              rintro r w4 ⟨rfl, rfl⟩
              go_wp2_with fail
              refine (at_any HC3.out).mono ?_
              rintro r w4 ⟨rfl, rfl⟩
              go_wp2_with fail
              refine HE3.out.mono ?_
              rintro r w4 ⟨rfl, q4, hw4⟩
              subst hw4
              go_wp2_with fail
              refine (at_any (HC3.out.drewN q4)).mono ?_
              rintro r w4 ⟨rfl, rfl⟩
              go_wp2_with fail
              go_roundw
              case rel => exact ⟨k + 1, i, e, by omega, by go_num, HC3.out.drewN q4, below_drewN HB3.out q4⟩
              case measure => simp [intOf]; omega
            · have hq1 := hkd
              clear hkd
              by_cases hkd : kd = 2
              · have y0 : (kd == 0) = false := by rw [beq_eq_false_iff_ne]; omega
                have y1 : (kd == 1) = false := by rw [beq_eq_false_iff_ne]; omega
                have y2 : (kd == 2) = true := by rw [beq_iff_eq]; omega
                have hm := cnum_any (HCX.out.drewN q) N HLO.out HHI.out
                rw [cn_e xs N 2 HEN.out] at hm
                have HM := Lib.hid hm
                clear hm hkd
                go_wp2_with fail
                refine HM.out.mono ?_
                rintro r w3 ⟨rfl, hc3, hg3⟩
                have HC3 := Lib.hid hc3
                have HB3 := Lib.hid ((below_drewN HBX.out q).grown hg3 (below_drewN HBX.out q).size (fun k hk => by cases hk; exact Nat.le_trans (by omega) hB))
                have HE3 := Lib.hid (end_any hc3)
                try simp only at HC3 HE3
                rw [HEE.out] at HE3
                clear hc3 hg3
                go_wp2_with fail
                refine (at_any HC3.out).mono ?_
                rintro r w4 ⟨rfl, rfl⟩
                go_wp2_with fail
                refine (at_any HC3.out).mono ?_
                rintro r w4 ⟨rfl, rfl⟩
                go_wp2_with fail
                refine HE3.out.mono ?_
                rintro r w4 ⟨rfl, q4, hw4⟩
                subst hw4
                go_wp2_with fail
                refine (at_any (HC3.out.drewN q4)).mono ?_
                rintro r w4 ⟨rfl, rfl⟩
                go_wp2_with fail
                go_roundw
                case rel => exact ⟨k + 1, i, e, by omega, by go_num, HC3.out.drewN q4, below_drewN HB3.out q4⟩
                case measure => simp [intOf]; omega
              · have hq2 := hkd
                clear hkd
                by_cases hkd : kd = 3
                · have y0 : (kd == 0) = false := by rw [beq_eq_false_iff_ne]; omega
                  have y1 : (kd == 1) = false := by rw [beq_eq_false_iff_ne]; omega
                  have y2 : (kd == 2) = false := by rw [beq_eq_false_iff_ne]; omega
                  have y3 : (kd == 3) = true := by rw [beq_iff_eq]; omega
                  have hm := cb_any (HCX.out.drewN q) N HLO.out HHI.out
                  rw [cb_e xs N HEN.out] at hm
                  have HM := Lib.hid hm
                  clear hm hkd
                  go_wp2_with fail
                  refine HM.out.mono ?_
                  rintro r w3 ⟨⟨a3, c3, rfl, hb3⟩, hc3, hg3⟩
                  have hcv := hb3.conv
                  rw [bs_nil] at hcv
                  simp only [List.length_nil] at hcv ⊢
                  clear hb3
                  have HC3 := Lib.hid hc3
                  have HB3 := Lib.hid ((below_drewN HBX.out q).grown hg3 (below_drewN HBX.out q).size (fun k hk => by cases hk; exact Nat.le_trans (by omega) hB))
                  have HE3 := Lib.hid (end_any hc3)
                  try simp only at HC3 HE3
                  rw [HEE.out] at HE3
                  clear hc3 hg3
                  go_wp2_with fail
                  refine (at_any HC3.out).mono ?_
                  rintro r w4 ⟨rfl, rfl⟩
                  go_wp2_with fail
                  refine (at_any HC3.out).mono ?_
                  rintro r w4 ⟨rfl, rfl⟩
                  go_wp2_with fail
                  refine HE3.out.mono ?_
                  rintro r w4 ⟨rfl, q4, hw4⟩
                  subst hw4
                  go_wp2_with fail
                  refine (at_any (HC3.out.drewN q4)).mono ?_
                  rintro r w4 ⟨rfl, rfl⟩
                  go_wp2_with fail
                  go_roundw
                  case rel => exact ⟨k + 1, i, e, by omega, by go_num, HC3.out.drewN q4, below_drewN HB3.out q4⟩
                  case measure => simp [intOf]; omega
                · have hq3 := hkd
                  clear hkd
                  have y0 : (kd == 0) = false := by rw [beq_eq_false_iff_ne]; omega
                  have y1 : (kd == 1) = false := by rw [beq_eq_false_iff_ne]; omega
                  have y2 : (kd == 2) = false := by rw [beq_eq_false_iff_ne]; omega
                  have y3 : (kd == 3) = false := by rw [beq_eq_false_iff_ne]; omega
                  have hm := ct_any (HCX.out.drewN q) N HLO.out HHI.out
                  rw [ct_e xs N HEN.out] at hm
                  rw [bs_nil] at hm
                  have HM := Lib.hid hm
                  clear hm
                  go_wp2_with fail
                  refine HM.out.mono ?_
                  rintro r w3 ⟨rfl, hc3, hg3⟩
                  have HC3 := Lib.hid hc3
                  have HB3 := Lib.hid ((below_drewN HBX.out q).grown hg3 (below_drewN HBX.out q).size (fun k hk => by cases hk; exact Nat.le_trans (by omega) hB))
                  have HE3 := Lib.hid (end_any hc3)
                  try simp only at HC3 HE3
                  rw [HEE.out] at HE3
                  clear hc3 hg3
                  go_wp2_with fail
                  refine (at_any HC3.out).mono ?_
                  rintro r w4 ⟨rfl, rfl⟩
                  go_wp2_with fail
                  refine (at_any HC3.out).mono ?_
                  rintro r w4 ⟨rfl, rfl⟩
                  go_wp2_with fail
                  refine HE3.out.mono ?_
                  rintro r w4 ⟨rfl, q4, hw4⟩
                  subst hw4
                  go_wp2_with fail
                  refine (at_any (HC3.out.drewN q4)).mono ?_
                  rintro r w4 ⟨rfl, rfl⟩
                  go_wp2_with fail
                  go_roundw
                  case rel => exact ⟨k + 1, i, e, by omega, by go_num, HC3.out.drewN q4, below_drewN HB3.out q4⟩
                  case measure => simp [intOf]; omega
        · have hAB : e0 = 0 ∨ e0 = 5 := by omega
          clear hC
          by_cases hkd : kd = 0
          · have y0 : (kd == 0) = true := by rw [beq_iff_eq]; omega
            have hm := cu_any (HCX.out.drewN q)
            have hmono := cu_mono xs i e
            generalize cu xs i e = z at hm hmono
            obtain ⟨v, i1, e1⟩ := z
            simp only at hm hmono
            have HM := Lib.hid hm
            clear hm hkd
            go_wp2_with fail
            refine HM.out.mono ?_
            rintro r w3 ⟨rfl, hc3, hg3⟩
            have HC3 := Lib.hid hc3
            have hi1 := hc3.le
            have HB3 := Lib.hid ((below_drewN HBX.out q).grown hg3 (below_drewN HBX.out q).size (fun k hk => by cases hk; exact Nat.le_trans (by omega) hB))
            clear hc3 hg3
            go_wp2_with fail
            refine (at_any HC3.out).mono ?_
            rintro r w4 ⟨rfl, rfl⟩
            go_wp2_with fail
            refine (at_any HC3.out).mono ?_
            rintro r w4 ⟨rfl, rfl⟩
            rcases hAB with hA | hA
            · have z1 : ((e0 : Int) != 0) = false := by rw [bne_eq_false_iff_eq]; omega
              clear hA
              go_wp2_with fail
              go_roundw
              case rel => exact ⟨k + 1, i1, e1, by omega, by go_num, HC3.out, HB3.out⟩
              case measure => simp [intOf]; omega
            · have z1 : ((e0 : Int) != 0) = true := by rw [bne_iff_ne]; omega
              have z2 : ((e0 : Int) != 5) = false := by rw [bne_eq_false_iff_eq]; omega
              clear hA
              go_wp2_with fail
              go_roundw
              case rel => exact ⟨k + 1, i1, e1, by omega, by go_num, HC3.out, HB3.out⟩
              case measure => simp [intOf]; omega
          · have hq0 := hkd
            clear hkd
            by_cases hkd : kd = 1
            · have y0 : (kd == 0) = false := by rw [beq_eq_false_iff_ne]; omega
              have y1 : (kd == 1) = true := by rw [beq_iff_eq]; omega
              have hm := ci_any (HCX.out.drewN q)
              have hmono := cu_mono xs i e
              generalize cu xs i e = z at hm hmono
              obtain ⟨v, i1, e1⟩ := z
              simp only at hm hmono
              have HM := Lib.hid hm
              clear hm hkd
              go_wp2_with fail
              refine HM.out.mono ?_
              rintro r w3 ⟨rfl, hc3, hg3⟩
              have HC3 := Lib.hid hc3
              have hi1 := hc3.le
              have HB3 := Lib.hid ((below_drewN HBX.out q).grown hg3 (below_drewN HBX.out q).size (fun k hk => by cases hk; exact Nat.le_trans (by omega) hB))
              clear hc3 hg3
              go_wp2_with fail
              refine (at_any HC3.out).mono ?_
              rintro r w4 ⟨rfl, rfl⟩
              go_wp2_with fail
              refine (at_any HC3.out).mono ?_
              rintro r w4 ⟨rfl, rfl⟩
              rcases hAB with hA | hA
              · have z1 : ((e0 : Int) != 0) = false := by rw [bne_eq_false_iff_eq]; omega
                clear hA
                go_wp2_with fail
                go_roundw
                case rel => exact ⟨k + 1, i1, e1, by omega, by go_num, HC3.out, HB3.out⟩
                case measure => simp [intOf]; omega
              · have z1 : ((e0 : Int) != 0) = true := by rw [bne_iff_ne]; omega
                have z2 : ((e0 : Int) != 5) = false := by rw [bne_eq_false_iff_eq]; omega
                clear hA
                go_wp2_with fail
                go_roundw
                case rel => exact ⟨k + 1, i1, e1, by omega, by go_num, HC3.out, HB3.out⟩
                case measure => simp [intOf]; omega
            · have hq1 := hkd
              clear hkd
              by_cases hkd : kd = 2
              · have y0 : (kd == 0) = false := by rw [beq_eq_false_iff_ne]; omega
                have y1 : (kd == 1) = false := by rw [beq_eq_false_iff_ne]; omega
                have y2 : (kd == 2) = true := by rw [beq_iff_eq]; omega
                have hm := cnum_any (HCX.out.drewN q) N HLO.out HHI.out
                have hmono := cn_mono xs i e N 2
                have hvle := cn_le (xs := xs) (i := i) (e := e) (above := 2) HHI.out
                generalize cn xs i e N 2 = z at hm hmono hvle
                obtain ⟨v, i1, e1⟩ := z
                simp only at hm hmono hvle
                have HM := Lib.hid hm
                clear hm hkd
                go_wp2_with fail
                refine HM.out.mono ?_
                rintro r w3 ⟨rfl, hc3, hg3⟩
                have HC3 := Lib.hid hc3
                have hi1 := hc3.le
                have HB3 := Lib.hid ((below_drewN HBX.out q).grown hg3 (below_drewN HBX.out q).size (fun k hk => by cases hk; exact Nat.le_trans (by omega) hB))
                clear hc3 hg3
                go_wp2_with fail
                refine (at_any HC3.out).mono ?_
                rintro r w4 ⟨rfl, rfl⟩
                go_wp2_with fail
                refine (at_any HC3.out).mono ?_
                rintro r w4 ⟨rfl, rfl⟩
                rcases hAB with hA | hA
                · have z1 : ((e0 : Int) != 0) = false := by rw [bne_eq_false_iff_eq]; omega
                  clear hA
                  go_wp2_with fail
                  go_roundw
                  case rel => exact ⟨k + 1, i1, e1, by omega, by go_num, HC3.out, HB3.out⟩
                  case measure => simp [intOf]; omega
                · have z1 : ((e0 : Int) != 0) = true := by rw [bne_iff_ne]; omega
                  have z2 : ((e0 : Int) != 5) = false := by rw [bne_eq_false_iff_eq]; omega
                  clear hA
                  go_wp2_with fail
                  go_roundw
                  case rel => exact ⟨k + 1, i1, e1, by omega, by go_num, HC3.out, HB3.out⟩
                  case measure => simp [intOf]; omega
              · have hq2 := hkd
                clear hkd
                by_cases hkd : kd = 3
                · have y0 : (kd == 0) = false := by rw [beq_eq_false_iff_ne]; omega
                  have y1 : (kd == 1) = false := by rw [beq_eq_false_iff_ne]; omega
                  have y2 : (kd == 2) = false := by rw [beq_eq_false_iff_ne]; omega
                  have y3 : (kd == 3) = true := by rw [beq_iff_eq]; omega
                  have hm := cb_any (HCX.out.drewN q) N HLO.out HHI.out
                  have hmono := cb_mono xs i e N
                  generalize cb xs i e N = z at hm hmono
                  obtain ⟨v, i1, e1⟩ := z
                  simp only at hm hmono
                  have HM := Lib.hid hm
                  clear hm hkd
                  go_wp2_with fail
                  refine HM.out.mono ?_
                  rintro r w3 ⟨⟨a3, c3, rfl, hb3⟩, hc3, hg3⟩
                  have hcv := hb3.conv
                  obtain ⟨l3, hl3⟩ : ∃ l, l = v.length := ⟨_, rfl⟩
                  rw [← hl3] at hcv ⊢
                  clear hb3 hl3
                  have HC3 := Lib.hid hc3
                  have hi1 := hc3.le
                  have HB3 := Lib.hid ((below_drewN HBX.out q).grown hg3 (below_drewN HBX.out q).size (fun k hk => by cases hk; exact Nat.le_trans (by omega) hB))
                  clear hc3 hg3
                  go_wp2_with fail
                  refine (at_any HC3.out).mono ?_
                  rintro r w4 ⟨rfl, rfl⟩
                  go_wp2_with fail
                  refine (at_any HC3.out).mono ?_
                  rintro r w4 ⟨rfl, rfl⟩
                  rcases hAB with hA | hA
                  · have z1 : ((e0 : Int) != 0) = false := by rw [bne_eq_false_iff_eq]; omega
                    clear hA
                    go_wp2_with fail
                    go_roundw
                    case rel => exact ⟨k + 1, i1, e1, by omega, by go_num, HC3.out, HB3.out⟩
                    case measure => simp [intOf]; omega
                  · have z1 : ((e0 : Int) != 0) = true := by rw [bne_iff_ne]; omega
                    have z2 : ((e0 : Int) != 5) = false := by rw [bne_eq_false_iff_eq]; omega
                    clear hA
                    go_wp2_with fail
                    go_roundw
                    case rel => exact ⟨k + 1, i1, e1, by omega, by go_num, HC3.out, HB3.out⟩
                    case measure => simp [intOf]; omega
                · have hq3 := hkd
                  clear hkd
                  have y0 : (kd == 0) = false := by rw [beq_eq_false_iff_ne]; omega
                  have y1 : (kd == 1) = false := by rw [beq_eq_false_iff_ne]; omega
                  have y2 : (kd == 2) = false := by rw [beq_eq_false_iff_ne]; omega
                  have y3 : (kd == 3) = false := by rw [beq_eq_false_iff_ne]; omega
                  have hm := ct_any (HCX.out.drewN q) N HLO.out HHI.out
                  have hmono := ct_mono xs i e N
                  generalize ct xs i e N = z at hm hmono
                  obtain ⟨v, i1, e1⟩ := z
                  simp only at hm hmono
                  have HM := Lib.hid hm
                  clear hm
                  go_wp2_with fail
                  refine HM.out.mono ?_
                  rintro r w3 ⟨rfl, hc3, hg3⟩
                  have HC3 := Lib.hid hc3
                  have hi1 := hc3.le
                  have HB3 := Lib.hid ((below_drewN HBX.out q).grown hg3 (below_drewN HBX.out q).size (fun k hk => by cases hk; exact Nat.le_trans (by omega) hB))
                  clear hc3 hg3
                  go_wp2_with fail
                  refine (at_any HC3.out).mono ?_
                  rintro r w4 ⟨rfl, rfl⟩
                  go_wp2_with fail
                  refine (at_any HC3.out).mono ?_
                  rintro r w4 ⟨rfl, rfl⟩
                  rcases hAB with hA | hA
                  · have z1 : ((e0 : Int) != 0) = false := by rw [bne_eq_false_iff_eq]; omega
                    clear hA
                    go_wp2_with fail
                    go_roundw
                    case rel => exact ⟨k + 1, i1, e1, by omega, by go_num, HC3.out, HB3.out⟩
                    case measure => simp [intOf]; omega
                  · have z1 : ((e0 : Int) != 0) = true := by rw [bne_iff_ne]; omega
                    have z2 : ((e0 : Int) != 5) = false := by rw [bne_eq_false_iff_eq]; omega
                    clear hA
                    go_wp2_with fail
                    go_roundw
                    case rel => exact ⟨k + 1, i1, e1, by omega, by go_num, HC3.out, HB3.out⟩
                    case measure => simp [intOf]; omega
      · have hlit := BytesAt.lit wr #[.int .u8 128] [128] rfl (by decide) (by decide) (by decide)
        have HL := Lib.hid (new_any hlit)
        have HB2 := Lib.hid (hbel1.alloc hbel1.size (.cells #[.int .u8 128] 5))
        clear hlit hcur1 hbel1
        go_wp2_with fail
        refine HL.out.mono ?_
        rintro r w5 ⟨B5, a5, c5, rfl, hc5, hb5, _, _⟩
        have HE5 := Lib.hid (end_any hc5)
        have HB5 := Lib.hid (HB2.out.trans (hb5.mono HB2.out.size))
        clear hc5 hb5
        rw [show cend [128].length 0 0 = 5 from rfl] at HE5
        go_wp2_with fail
        refine HE5.out.mono ?_
        rintro r w6 ⟨rfl, q6, hw6⟩
        subst hw6
        go_wp2_with fail
        go_ret
        exact ⟨rfl, below_drewN HB5.out q6⟩
end Go.Proofs.Ytbpimhklekcaiaa
