/- The walk of BitsReads: it returns true for all bytes and all rows of numbers. -/
import Derived.Test.YteeppjgblepmpaaBitsRRead
import Derived.Test.YteeppjgblepmpaaBitsPartsWalk
namespace Go.Proofs.Yteeppjgblepmpaa
open Go.RowKit BitsPlain
set_option linter.unusedVariables false

theorem RdAt.kept {w w' : World} {B : Nat} {a : Option Addr} {n c : Nat} {xs : List Nat} {p : Nat} (h : RdAt w B a n c xs p) (hb : Below w.heap.size w w') : RdAt w' B a n c xs p :=
  ⟨(hb.block B h.lt).trans h.blk, h.src.kept hb, h.apart, h.le⟩

set_option maxRecDepth 100000 in
set_option maxHeartbeats 16000000 in
theorem bitsReads_walk (a0 : Option Addr) (len0 cap0 : Nat) (z0 : List Int) (a1 : Option Addr) (len1 cap1 : Nat) (z1 : List Int) (w : World) (w0 : IsRow .u8 1 w a0 len0 cap0 z0) (w1 : IsRow .i64 8 w a1 len1 cap1 z1) :
    Calls Try.prog 3 #[.slice a0 len0 cap0, .slice a1 len1 cap1] w fun e w' => e = .returned (.bool true) ∧ Below w.heap.size w w' := by
  obtain ⟨xs, hb⟩ := w0.bytes
  have hR := w1.at_
  have hcap := hR.cap
  have hcm := hR.capm
  have HC := Lib.hid hR.cells
  have hreach := hb.reach
  have HT := Lib.hid (twin hb)
  have HB0 := Lib.hid hb
  have HLN := Lib.hid hb.len
  clear w0 w1 hb hR
  go_enter Try.func3, Try.ntmps3
  go_wp2_with fail
  refine HT.out.mono ?_
  rintro r wt ⟨g, kk, rfl, hg, hglt, hown, hbt, hbelt⟩
  have HN := Lib.hid (rnew_any hbt)
  obtain ⟨cur0, hg0, hcs0⟩ : ∃ cur, wt.heap[g]? = some (.cells cur 5 (0, 0)) ∧ len0 ≤ cur.size := by
    rcases hown.2 with ⟨h0, _⟩ | ⟨g', cap, cur, he, _, hh, hn, hcap, hsz, htake⟩
    · cases h0
    · cases he
      exact ⟨cur, hh, by omega⟩
  have HG0 := Lib.hid hg0
  have HBELT := Lib.hid hbelt
  clear hown hbt hg0 hbelt
  go_wp2_with fail
  refine HN.out.mono ?_
  rintro r wn ⟨B, a', c', rfl, hcur, hbel, hB, hfa⟩
  have HCUR := Lib.hid hcur
  have hbn := HBELT.out.trans (hbel.mono HBELT.out.size)
  have HBEL := Lib.hid hbn
  have hgn : wn.heap[g]? = some (.cells cur0 5 (0, 0)) := (hbel.block g hglt).trans HG0.out
  have HGN := Lib.hid hgn
  have hBw : w.heap.size ≤ B := Nat.le_trans HBELT.out.size hB
  have HFA := Lib.hid hfa
  clear hcur hbel hbn hgn hfa
  by_cases hbig : (300 : Int) < (len1 : Int)
  · go_wp2_with fail
    go_ret
    exact ⟨rfl, HBEL.out⟩
  · have hbig2 : (len1 : Int) ≤ 300 := by omega
    clear hbig
    by_cases hbig : (1024 : Int) < (len0 : Int)
    · go_wp2_with fail
      go_ret
      exact ⟨rfl, HBEL.out⟩
    · have hbig3 : (len0 : Int) ≤ 1024 := by omega
      clear hbig
      go_wp2_with fail
      go_loopw [7, 38] (fun s7 sk wr => ∃ (j : Nat) (cur : Array Value), j ≤ len0 ∧ sk = .int .i64 j ∧ wr.heap[g]? = some (.cells cur 5 (0, 0)) ∧ len0 ≤ cur.size ∧ RdAt wr B a' len0 c' xs 0 ∧ Below w.heap.size w wr) (fun _ sk _ => len0 - (intOf sk).toNat)
      case atStart => exact ⟨0, cur0, by omega, rfl, HGN.out, hcs0, HCUR.out, HBEL.out⟩
      case round =>
        obtain ⟨j, cur, hj, rfl, hgr, hcs, hcur1, hbel1⟩ := hrel
        rename World => wr
        by_cases hjm : j < len0
        · have hcell : wr.cell? ⟨g, j, none⟩ = some (cur[j]'(by omega)) := by rw [cell_of_row wr g j _ _ _ hgr]; exact Array.getElem?_eq_getElem (by omega)
          have hfz : wr.frozen? ⟨g, j, none⟩ = false := frozen_of_row wr g j _ _ hgr
          have hgrow : wr.grownBy (wr.setCell ⟨g, j, none⟩ (.int .u8 0)) (some g) := ⟨rfl, rfl, rfl, by simp, fun k _ hk => heap_setCell_other wr ⟨g, j, none⟩ k _ (fun e => hk (by simp [e]))⟩
          have hgr2 : (wr.setCell ⟨g, j, none⟩ (.int .u8 0)).heap[g]? = some (.cells (cur.setIfInBounds j (.int .u8 0)) 5 (0, 0)) := heap_setCell_same wr g j cur 5 _ hgr
          have hc2 : RdAt (wr.setCell ⟨g, j, none⟩ (.int .u8 0)) B a' len0 c' xs 0 := hcur1.other hgrow (fun e => by cases e; omega) (fun _ b off s e e2 => by cases e2; have := HFA.out _ off s e; omega)
          have hb2 : Below w.heap.size w (wr.setCell ⟨g, j, none⟩ (.int .u8 0)) := hbel1.grown hgrow hbel1.size (fun k hk => by cases hk; exact hg)
          have HGR2 := Lib.hid hgr2
          have HC2 := Lib.hid hc2
          have HB2 := Lib.hid hb2
          have hcs2 : len0 ≤ (cur.setIfInBounds j (.int .u8 0)).size := by simpa using hcs
          clear hgrow hgr2 hc2 hb2 hgr hcur1 hbel1
          go_wp2_with fail
          go_roundw
          case rel => exact ⟨j + 1, _, by omega, by go_num, HGR2.out, hcs2, HC2.out, HB2.out⟩
          case measure => simp [intOf]; omega
        · have HRW := Lib.hid (row_any (HB0.out.kept hbel1) (by omega))
          have HC1 := Lib.hid hcur1
          have HB1 := Lib.hid hbel1
          clear hgr hcur1 hbel1
          go_wp2_with fail
          refine HRW.out.mono ?_
          rintro r wq ⟨ra, rc, rfl, hra, hbelq, hfr⟩
          have hWw : w.heap.size ≤ wq.heap.size := Nat.le_trans HB1.out.size hbelq.size
          obtain ⟨wv, hwv⟩ : ∃ wv, wv = wq.alloc (.cells #[.slice ra (8 * len0) rc, .int .i64 0] 31) := ⟨_, rfl⟩
          have hrr0 : RRAt wv wq.heap.size ra (8 * len0) rc (rowTo xs (8 * len0)) 0 := by
            rw [hwv]
            refine ⟨heap_alloc_new wq _, hra.kept ((Below.refl _ _).alloc (Nat.le_refl _) _), fun b off s hp ha => ?_, Nat.zero_le _⟩
            obtain ⟨b', off', ha', hlt, _⟩ := hra.cells hp
            rw [ha] at ha'
            cases ha'
            omega
          have hrd0 : RdAt wv B a' len0 c' xs 0 := by
            rw [hwv]
            exact (HC1.out.kept hbelq).kept ((Below.refl _ _).alloc (Nat.le_refl _) _)
          have hbb0 : Below w.heap.size w wv := by rw [hwv]; exact (HB1.out.trans (hbelq.mono HB1.out.size)).alloc hWw _
          obtain ⟨W, hW⟩ : ∃ W, W = wq.heap.size := ⟨_, rfl⟩
          rw [← hW] at hrr0 hWw
          have HWV := Lib.hid hwv
          have HR0 := Lib.hid hrr0
          have HD0 := Lib.hid hrd0
          have HBB0 := Lib.hid hbb0
          have HWE := Lib.hid hW
          clear hwv hrr0 hrd0 hbb0 hW hra hbelq hfr
          obtain ⟨N8, hN8⟩ : ∃ N8, N8 = 8 * len0 := ⟨_, rfl⟩
          have hN8m : N8 ≤ 8192 := by omega
          have HN8 := Lib.hid hN8
          go_wp2_with fail
          rw [← HWV.out, ← HWE.out]
          clear HWV HWE
          go_loopw [10, 51] (fun s10 sk wr => ∃ (k p : Nat), k ≤ len1 ∧ sk = .int .i64 k ∧ RdAt wr B a' len0 c' xs p ∧ RRAt wr W ra (8 * len0) rc (rowTo xs (8 * len0)) p ∧ Below w.heap.size w wr) (fun _ sk _ => len1 - (intOf sk).toNat)
          case atStart => exact ⟨0, 0, by omega, rfl, HD0.out, HR0.out, HBB0.out⟩
          case round =>
            obtain ⟨k, p, hk, rfl, hrd, hrr, hbel1⟩ := hrel
            rename World => wr
            by_cases hkm : k < len1
            · obtain ⟨b, off, rfl, hlt, hc⟩ := HC.out (by omega)
              obtain ⟨q0, qw⟩ := hc k hkm
              obtain ⟨x, hx⟩ : ∃ x, x = z1.getD k 0 := ⟨_, rfl⟩
              rw [← hx] at q0 qw
              have r0 := (hbel1.cell (p := ⟨b, off + k, none⟩) hlt).trans q0
              obtain ⟨nlo, nhi⟩ := i64_of_wf qw
              have HLO := Lib.hid nlo
              have HHI := Lib.hid nhi
              have HRD := Lib.hid hrd
              have HRR := Lib.hid hrr
              have HBX := Lib.hid hbel1
              clear hc q0 qw hx hrd hrr hbel1 nlo nhi
              have fin : ∀ {w4 : World} {p' : Nat}, RdAt w4 B a' len0 c' xs p' → RRAt w4 W ra (8 * len0) rc (rowTo xs (8 * len0)) p' → Below w.heap.size w w4 → True := fun _ _ _ => trivial
              clear fin
              by_cases hm1 : x = -1
              · subst hm1
                go_wp2_with fail
                refine (ralign_any HRD.out).mono ?_
                rintro r w3 ⟨rfl, hd3, hg3⟩
                have HD3 := Lib.hid hd3
                have HR3 := Lib.hid (HRR.out.step HRD.out hg3)
                have HB3 := Lib.hid (HBX.out.grown hg3 HBX.out.size (fun k hk => by cases hk; exact hBw))
                clear hd3 hg3
                go_wp2_with fail
                refine (rralign_any (by omega) HR3.out).mono ?_
                rintro r w4 ⟨rfl, hr4, hg4⟩
                have hd4 := HD3.out.step HR3.out hg4
                have hb5 := HB3.out.grown hg4 HB3.out.size (fun k hk => by cases hk; exact hWw)
                obtain ⟨p1, hp1⟩ : ∃ p1, p1 = al p := ⟨_, rfl⟩
                rw [← hp1] at hr4 hd4
                have v0 := hr4.c0
                have v1 := hr4.c1
                rw [← HN8.out] at v0
                have hp8 := hr4.le
                rw [← HN8.out] at hp8
                have el : IntKind.i64.wrap ((N8 : Int) - (p1 : Int)) = ((N8 - p1 : Nat) : Int) := by rw [IntWalk.i64_in _ (by omega)]; omega
                have HA1 := Lib.hid (fun k => (rat_any (hd4.drewN k)).mono fun e w' (h : e = .returned (.int .i64 (p1 : Int)) ∧ w4.drewN k = w') => (⟨h.1, h.2.symm⟩ : e = .returned (.int .i64 (p1 : Int)) ∧ w' = w4.drewN k))
                have HA2 := Lib.hid (fun k => rleft_any (hd4.drewN k))
                rw [← HN8.out] at HA2
                have HD4 := Lib.hid hd4
                have HR4 := Lib.hid hr4
                have HB5 := Lib.hid hb5
                clear hd4 hr4 hb5 hg4
                go_wp2_with fail
                go_quiet ((first | (go_at_call 15; exact Calls.quiet_of_same (HA1.out _)) | (go_at_call 16; exact Calls.quiet_of (HA2.out _))))
                go_wp2_with fail
                go_roundw
                case rel => exact ⟨k + 1, p1, by omega, by go_num, HD4.out.drewN _, HR4.out.drewN _, below_drewN HB5.out _⟩
                case measure => simp [intOf]; omega
              · have zm : (x == -1) = false := by rw [beq_eq_false_iff_ne]; exact hm1
                have HM := Lib.hid (rbits_any HRD.out x)
                have HRM := Lib.hid (fun (w4 : World) (h : RRAt w4 W ra (8 * len0) rc (rowTo xs (8 * len0)) p) => rrbits_any (by omega) HLN.out h x HLO.out HHI.out)
                generalize rb xs p x = z at HM HRM
                obtain ⟨v, e, p1⟩ := z
                simp only at HM HRM
                clear hm1
                go_wp2_with fail
                refine HM.out.mono ?_
                rintro r w3 ⟨rfl, hd3, hg3⟩
                have HD3 := Lib.hid hd3
                have HR3 := Lib.hid (HRR.out.step HRD.out hg3)
                have HB3 := Lib.hid (HBX.out.grown hg3 HBX.out.size (fun k hk => by cases hk; exact hBw))
                clear hd3 hg3
                go_wp2_with fail
                refine (HRM.out _ HR3.out).mono ?_
                rintro r w4 ⟨rfl, hr4, hg4⟩
                have hd4 := HD3.out.step HR3.out hg4
                have hb5 := HB3.out.grown hg4 HB3.out.size (fun k hk => by cases hk; exact hWw)
                have v0 := hr4.c0
                have v1 := hr4.c1
                rw [← HN8.out] at v0
                have hp8 := hr4.le
                rw [← HN8.out] at hp8
                have el : IntKind.i64.wrap ((N8 : Int) - (p1 : Int)) = ((N8 - p1 : Nat) : Int) := by rw [IntWalk.i64_in _ (by omega)]; omega
                have HA1 := Lib.hid (fun k => (rat_any (hd4.drewN k)).mono fun e w' (h : e = .returned (.int .i64 (p1 : Int)) ∧ w4.drewN k = w') => (⟨h.1, h.2.symm⟩ : e = .returned (.int .i64 (p1 : Int)) ∧ w' = w4.drewN k))
                have HA2 := Lib.hid (fun k => rleft_any (hd4.drewN k))
                rw [← HN8.out] at HA2
                have HD4 := Lib.hid hd4
                have HR4 := Lib.hid hr4
                have HB5 := Lib.hid hb5
                clear hd4 hr4 hb5 hg4
                go_wp2_with fail
                go_quiet ((first | (go_at_call 15; exact Calls.quiet_of_same (HA1.out _)) | (go_at_call 16; exact Calls.quiet_of (HA2.out _))))
                go_wp2_with fail
                go_roundw
                case rel => exact ⟨k + 1, p1, by omega, by go_num, HD4.out.drewN _, HR4.out.drewN _, below_drewN HB5.out _⟩
                case measure => simp [intOf]; omega
            · have HB2 := Lib.hid hbel1
              clear hrd hrr hbel1
              go_wp2_with fail
              refine (rbits_nil _ _).mono ?_
              rintro r w5 ⟨rfl, rfl⟩
              go_wp2_with fail
              refine (rat_nil _).mono ?_
              rintro r w5 ⟨rfl, rfl⟩
              go_wp2_with fail
              refine (rleft_nil _).mono ?_
              rintro r w5 ⟨rfl, rfl⟩
              go_wp2_with fail
              go_ret
              exact ⟨rfl, HB2.out⟩
end Go.Proofs.Yteeppjgblepmpaa
