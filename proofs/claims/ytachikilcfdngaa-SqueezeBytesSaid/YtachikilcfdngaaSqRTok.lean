/- The document's tokens, walked. Written by gensqrtok.py. -/
import Derived.Test.YtachikilcfdngaaSqTok
namespace Go.Proofs.Ytachikilcfdngaa
open Go.RowKit
set_option linter.unusedVariables false

theorem rtok_info : (Try.prog.info? 101).map (fun i => (i.zero, i.size, i.bytes)) = some (some (.agg #[.int .i64 0, .int .i64 0, .int .u8 0]), 3, 24) := by kernel_rfl
theorem own_heap {w w' : World} {base n : Nat} {e : TypeId} {size : Nat} {v : Value} {xs : List Value} (h : w.ownsRow base e size v n xs) (hk : ∀ k, v.ownBlock = some k → w'.heap[k]? = w.heap[k]?) : w'.ownsRow base e size v n xs := by
  refine ⟨h.1, ?_⟩
  rcases h.2 with hn | ⟨g, cap, cur, rfl, hbs, hgg, rest⟩
  · exact .inl hn
  · exact .inr ⟨g, cap, cur, rfl, hbs, (hk g rfl).trans hgg, rest⟩
theorem Two.set3 {T : Nat} {a w : World} (h : Two T T a w) (x y z : Value) : Two T T a (((w.setCell ⟨T, 0, none⟩ x).setCell ⟨T, 1, none⟩ y).setCell ⟨T, 2, none⟩ z) := ((h.setA 0 x).setA 1 y).setA 2 z
/-- what the end of a round needs: whatever the world is called, if its heap is this one with a new row of three cells -/
theorem row_end {w wt wv : World} {T : Nat} {v : Value} {l : List (Nat × Nat × Nat)} {t : Nat × Nat × Nat} {e : TypeId} (hT : w.heap.size ≤ T) (hlt : T < wt.heap.size) (ht2 : Two T T wt wv) (ho : wt.ownsRow w.heap.size e 3 v l.length (tcs l)) (hk : ∀ k, v.ownBlock = some k → k < T) (cs : Array Value) (hcs : cs = tc t) (S : Nat) (hS : S = wv.heap.size) :
    (∀ wq : World, wq.heap = (wv.alloc (.cells cs e)).heap → wq.ownsRow w.heap.size e 3 v l.length (tcs l) ∧ (∀ j u, (tc t).toList[j]? = some u → wq.cell? ((⟨S, 0, none⟩ : Addr).add j) = some u) ∧ w.heap.size ≤ wq.heap.size ∧ T < wq.heap.size ∧ wq.heap[T]? = wv.heap[T]?) := by
  subst hcs
  subst hS
  intro wq hq
  have h1 := ht2.size
  refine ⟨own_heap ho (fun k hk' => ?_), fun j u hj => ?_, ?_, ?_, ?_⟩
  · have := hk k hk'
    rw [hq, heap_alloc_old _ _ (by omega)]
    exact ht2.block k (by omega) (by omega) (by omega)
  · have := tc_src wv t e j u hj
    unfold World.cell? at this ⊢
    rw [hq]
    exact this
  · rw [hq]
    show w.heap.size ≤ (wv.heap.push _).size
    rw [Array.size_push]
    omega
  · rw [hq]
    show T < (wv.heap.push _).size
    rw [Array.size_push]
    omega
  · rw [hq, heap_alloc_old _ _ (by omega)]

set_option maxRecDepth 100000 in
set_option maxHeartbeats 8000000 in
theorem rtokens_any {w : World} {a : Option Addr} {n c : Nat} {b : List Nat} (h : BytesAt w a n c b) (hn : n ≤ 65536) :
    Calls Try.prog 54 #[.slice a n c] w fun e w' => ∃ v, e = .returned v ∧ w'.ownsRow w.heap.size 101 3 v (toks b).length (tcs (toks b)) ∧ Below w.heap.size w w' := by
  obtain ⟨i0, hi, hz0, hz1, hz2⟩ := info_parts rtok_info
  have hcap := h.cap
  have hcm := h.capm
  have hlen := h.len
  have HH := Lib.hid h
  have hown0 : (w.alloc (.cells #[] 101)).ownsRow w.heap.size 101 3 (.slice (some ⟨w.heap.size, 0, none⟩) 0 0) 0 (tcs []) := World.ownsRow_lit (base := w.heap.size) (e := 101) (size := 3) w #[] 0 (Nat.le_refl _) (by unfold maxLen; omega) rfl
  have HO0 := Lib.hid hown0
  clear h hown0
  go_enter Try.func54, Try.ntmps54
  go_wp2_with fail
  go_loopw [3, 4] (fun s3 s4 wr => ∃ (p : Nat) (l : List (Nat × Nat × Nat)), p ≤ n ∧ s4 = .int .i64 p ∧ l.length ≤ p ∧ Hid (wr.ownsRow w.heap.size 101 3 s3 l.length (tcs l)) ∧ Hid (l ++ toksFrom b (n - p) p = toks b) ∧ Hid (Below w.heap.size w wr)) (fun _ s4 _ => n - (intOf s4).toNat)
  case atStart => exact ⟨0, [], by omega, rfl, by simp, HO0, Lib.hid (by rw [Nat.sub_zero, toks, hlen]; rfl), Lib.hid ((Below.refl _ _).alloc (Nat.le_refl _) _)⟩
  case round =>
    obtain ⟨p, l, hp, rfl, hlp, HO, HL, HB⟩ := hrel
    rename World => wr
    by_cases hpn : p < n
    · have hpi : (p : Int) < (n : Int) := by omega
      obtain ⟨g, off, rfl, hlt, hcell⟩ := bytes_at (HH.out.kept HB.out) (i := p) hpn
      have x0 := hcell p hpn
      obtain ⟨y, hy⟩ : ∃ y, y = b.getD p 0 := ⟨_, rfl⟩
      rw [← hy] at x0
      obtain ⟨wt, hwt⟩ : ∃ wt, wt = wr.alloc (.cells #[.int .i64 0, .int .i64 0, .int .u8 (y : Int)] 101) := ⟨_, rfl⟩
      obtain ⟨T, hT⟩ : ∃ T, T = wr.heap.size := ⟨_, rfl⟩
      have gT : wt.heap[T]? = some (.cells (tc (tokD b p 0)) 101 (0, 0)) := by rw [hwt, hT, tokD_zero, ← hy]; exact heap_alloc_new _ _
      have lT := (Array.getElem?_eq_some_iff.1 gT).1
      have hbt : Below wr.heap.size wr wt := by rw [hwt]; exact (Below.refl _ _).alloc (Nat.le_refl _) _
      have HOT := Lib.hid (own_below HO.out hbt)
      have hwT : w.heap.size ≤ T := by rw [hT]; exact HB.out.size
      have HKT := Lib.hid (show ∀ k, Value.ownBlock u3 = some k → k < T from by rw [hT]; exact own_lt HO.out)
      have HBT := Lib.hid (HB.out.trans (hbt.mono HB.out.size))
      have HGT := Lib.hid gT
      have HWT := Lib.hid hwt
      have HTT := Lib.hid hT
      clear hcell hy gT hbt hwt hT
      go_wp2_with fail
      rw [← HTT.out, ← HWT.out]
      go_loopw [6] (fun s6 wx => ∃ d : Nat, d ≤ min p 32768 ∧ s6 = .int .i64 ((d : Int) + 1) ∧ Hid (wx.heap[T]? = some (.cells (tc (tokD b p d)) 101 (0, 0))) ∧ Hid (Two T T wt wx)) (fun s6 _ => p + 1 - (intOf s6).toNat)
      case atStart => exact ⟨0, by omega, rfl, HGT, Lib.hid (Two.refl T T wt)⟩
      case round =>
        obtain ⟨d, hd, rfl, HTD, HTX⟩ := hrel
        rename World => wx
        obtain ⟨⟨t1, t2, t3⟩, ht⟩ : ∃ t, t = tokD b p d := ⟨_, rfl⟩
        have gx := HTD.out
        rw [← ht] at gx
        have l1 : t1 = (bestD b p d).1 := by rw [← tokD_len, ← ht]
        have m0 := cell_of gx (i := 0) (u := .int .i64 (t1 : Int)) rfl
        have m1 := cell_of gx (i := 1) (u := .int .i64 (t2 : Int)) rfl
        have m2 := cell_of gx (i := 2) (u := .int .u8 (t3 : Int)) rfl
        have n0 := fro_of gx 0
        have n1 := fro_of gx 1
        have n2 := fro_of gx 2
        have HGX := Lib.hid gx
        have HL1 := Lib.hid l1
        have HT := Lib.hid ht
        clear gx l1 ht
        by_cases hdp : d + 1 ≤ p
        · have g1 : (d : Int) + 1 ≤ (p : Int) := by omega
          by_cases hdf : d + 1 ≤ 32768
          · have g2 : (d : Int) + 1 ≤ 32768 := by omega
            have hsx := HTX.out.size
            have hbx : Below w.heap.size w wx := HTX.out.old HBT.out hwT hwT HBT.out.size
            have HA := Lib.hid (by have := alike_any (w := wx) (HH.out.kept hbx) (i := p - (d + 1)) (j := p) (by omega) (by omega); rw [show ((p - (d + 1) : Nat) : Int) = (p : Int) - ((d : Int) + 1) from by omega] at this; exact this)
            obtain ⟨m, hm⟩ : ∃ m, m = like b (p - (d + 1)) p (most b p) := ⟨_, rfl⟩
            rw [← hm] at HA
            have HM := Lib.hid hm
            have hmm : m ≤ 258 := by have := @like_le b (most b p) (p - (d + 1)) p; unfold most at this hm; omega
            have hstep := bestD_step b p d
            rw [← HM.out, ← HL1.out] at hstep
            have HST := Lib.hid hstep
            have HMO := Lib.hid (show most b p ≤ 258 by unfold most; omega)
            clear hm hbx hstep
            go_wp2_with fail
            refine HA.out.mono ?_
            rintro e wy ⟨rfl, q, rfl⟩
            by_cases h3 : 3 ≤ m
            · have g3 : (3 : Int) ≤ (m : Int) := by omega
              by_cases hgt : t1 < m
              · have g4 : (t1 : Int) < (m : Int) := by omega
                have HNB := Lib.hid (show (m, d + 1, 0) = tokD b p (d + 1) by
                  have h1 := HST.out
                  rw [if_pos ⟨h3, hgt⟩] at h1
                  unfold tokD
                  rw [h1, if_neg (by simp only; omega)])
                by_cases h258 : m = 258
                · have h5 : ((m : Int) == 258) = true := by rw [beq_iff_eq]; omega
                  have HEQ := Lib.hid (show (m, d + 1, 0) = tokAt b p by
                    rw [HNB.out]
                    exact end_full (by omega) (by rw [← tokD_len, ← HNB.out]; have := HMO.out; simp only; omega))
                  clear h258
                  have HTV := Lib.hid (HTX.out.set3 (.int .i64 (m : Int)) (.int .i64 ((d : Int) + 1)) (.int .u8 0))
                  have HRE := Lib.hid (row_end (w := w) (wv := ((wx.setCell ⟨T, 0, none⟩ (.int .i64 (m : Int))).setCell ⟨T, 1, none⟩ (.int .i64 ((d : Int) + 1))).setCell ⟨T, 2, none⟩ (.int .u8 0)) (t := (m, d + 1, 0)) hwT lT HTV.out HOT.out HKT.out #[.int .i64 (m : Int), .int .i64 ((d : Int) + 1), .int .u8 0] (by simp [tc]) wx.heap.size (by first | rfl | simp only [World.setCell, Array.size_modify]))
                  have HLL := Lib.hid (show (l ++ [(m, d + 1, 0)]) ++ toksFrom b (n - (p + max 1 (m))) (p + max 1 (m)) = toks b by
                    have h1 := toks_next (b := b) (p := p) (by omega)
                    rw [← HEQ.out, hlen] at h1
                    rw [← HL.out, h1, List.append_assoc]
                    rfl)
                  have hps := tok_pos (b := b) (p := p) (by omega)
                  rw [← HEQ.out, hlen] at hps
                  simp only at hps
                  obtain ⟨sz, hsz2⟩ : ∃ sz, sz = max 1 (m) := ⟨_, rfl⟩
                  rw [← hsz2] at hps HLL
                  have hszi : max (m : Int) 1 = (sz : Int) := by omega
                  clear hsz2
                  go_wp2_with (at_builtin; refine wpList_append_own_at _ rfl (.tmp 46) (.tmp 48) 99 rfl w.heap.size 101 i0 _ 3 24 Try.underlying99 hi hz0 hz1 hz2 rfl (by decide) _ _ _ rfl (HRE.out _ rfl).1 ⟨wx.heap.size, 0, none⟩ 1 1 (tc (m, d + 1, 0)).toList rfl rfl (HRE.out _ rfl).2.1 (tc_one _) (by unfold maxLen; omega) (by omega) (HRE.out _ rfl).2.2.1 ?_)
                  intro v' w5 ho5 hg5 _ hat5
                  have hbv : Below w.heap.size w (((wx.setCell ⟨T, 0, none⟩ (.int .i64 (m : Int))).setCell ⟨T, 1, none⟩ (.int .i64 ((d : Int) + 1))).setCell ⟨T, 2, none⟩ (.int .u8 0)) := HTV.out.old HBT.out hwT hwT HBT.out.size
                  have hbq := hbv.alloc hbv.size (.cells #[.int .i64 (m : Int), .int .i64 ((d : Int) + 1), .int .u8 0] 101)
                  have HB5 := Lib.hid (show Below w.heap.size w w5 by
                    refine Below.grown (a := w) (B := w.heap.size) ?_ hg5 (HRE.out _ rfl).2.2.1 (own_block HOT.out)
                    exact ⟨hbq.os, hbq.tape, hbq.output, hbq.size, hbq.block⟩)
                  have gT5 := ((hg5.block T (HRE.out _ rfl).2.2.2.1 (fun e => by have := HKT.out T e.symm; omega)).trans (HRE.out _ rfl).2.2.2.2).trans (set3 HGX.out _ _ _)
                  have m5 := cell_of gT5 (i := 0) (u := .int .i64 (m : Int)) rfl
                  have HO5 := Lib.hid (show w5.ownsRow w.heap.size 101 3 v' (l ++ [(m, d + 1, 0)]).length (tcs (l ++ [(m, d + 1, 0)])) from by rw [tcs_snoc, List.length_append]; exact ho5)
                  clear ho5 hg5 hat5 hbv hbq gT5
                  go_wp2_with fail
                  go_roundw
                  case rel => exact ⟨p + sz, _, by omega, by go_num, by simp; omega, HO5, HLL, HB5⟩
                  case measure => simp [intOf]; omega
                · have h5 : ((m : Int) == 258) = false := by rw [beq_eq_false_iff_ne]; omega
                  go_wp2_with fail
                  go_roundw
                  case rel => exact ⟨d + 1, by omega, by go_num, Lib.hid (by rw [← HNB.out]; exact set3 HGX.out _ _ _), Lib.hid ((HTX.out.set3 _ _ _).drewN _)⟩
                  case measure => simp [intOf]; omega
              · have g4 : decide ((t1 : Int) < (m : Int)) = false := decide_eq_false (by omega)
                have HNB := Lib.hid (show (t1, t2, t3) = tokD b p (d + 1) by
                  rw [HT.out]
                  refine tokD_congr ?_
                  have h1 := HST.out
                  rw [if_neg (fun h => hgt h.2)] at h1
                  exact h1.symm)
                by_cases h258 : m = 258
                · have h5 : ((m : Int) == 258) = true := by rw [beq_iff_eq]; omega
                  have HEQ := Lib.hid (show (t1, t2, t3) = tokAt b p by
                    rw [HNB.out]
                    exact end_full (by omega) (by rw [← tokD_len, ← HNB.out]; have := HMO.out; simp only; omega))
                  clear h258
                  have HTV := HTX
                  have HRE := Lib.hid (row_end (w := w) (wv := wx) (t := (t1, t2, t3)) hwT lT HTV.out HOT.out HKT.out #[.int .i64 (t1 : Int), .int .i64 (t2 : Int), .int .u8 (t3 : Int)] (by simp [tc]) wx.heap.size (by first | rfl | simp only [World.setCell, Array.size_modify]))
                  have HLL := Lib.hid (show (l ++ [(t1, t2, t3)]) ++ toksFrom b (n - (p + max 1 (t1))) (p + max 1 (t1)) = toks b by
                    have h1 := toks_next (b := b) (p := p) (by omega)
                    rw [← HEQ.out, hlen] at h1
                    rw [← HL.out, h1, List.append_assoc]
                    rfl)
                  have hps := tok_pos (b := b) (p := p) (by omega)
                  rw [← HEQ.out, hlen] at hps
                  simp only at hps
                  obtain ⟨sz, hsz2⟩ : ∃ sz, sz = max 1 (t1) := ⟨_, rfl⟩
                  rw [← hsz2] at hps HLL
                  have hszi : max (t1 : Int) 1 = (sz : Int) := by omega
                  clear hsz2
                  go_wp2_with (at_builtin; refine wpList_append_own_at _ rfl (.tmp 46) (.tmp 48) 99 rfl w.heap.size 101 i0 _ 3 24 Try.underlying99 hi hz0 hz1 hz2 rfl (by decide) _ _ _ rfl (HRE.out _ rfl).1 ⟨wx.heap.size, 0, none⟩ 1 1 (tc (t1, t2, t3)).toList rfl rfl (HRE.out _ rfl).2.1 (tc_one _) (by unfold maxLen; omega) (by omega) (HRE.out _ rfl).2.2.1 ?_)
                  intro v' w5 ho5 hg5 _ hat5
                  have hbv : Below w.heap.size w (wx) := HTV.out.old HBT.out hwT hwT HBT.out.size
                  have hbq := hbv.alloc hbv.size (.cells #[.int .i64 (t1 : Int), .int .i64 (t2 : Int), .int .u8 (t3 : Int)] 101)
                  have HB5 := Lib.hid (show Below w.heap.size w w5 by
                    refine Below.grown (a := w) (B := w.heap.size) ?_ hg5 (HRE.out _ rfl).2.2.1 (own_block HOT.out)
                    exact ⟨hbq.os, hbq.tape, hbq.output, hbq.size, hbq.block⟩)
                  have gT5 := ((hg5.block T (HRE.out _ rfl).2.2.2.1 (fun e => by have := HKT.out T e.symm; omega)).trans (HRE.out _ rfl).2.2.2.2).trans HGX.out
                  have m5 := cell_of gT5 (i := 0) (u := .int .i64 (t1 : Int)) rfl
                  have HO5 := Lib.hid (show w5.ownsRow w.heap.size 101 3 v' (l ++ [(t1, t2, t3)]).length (tcs (l ++ [(t1, t2, t3)])) from by rw [tcs_snoc, List.length_append]; exact ho5)
                  clear ho5 hg5 hat5 hbv hbq gT5
                  go_wp2_with fail
                  go_roundw
                  case rel => exact ⟨p + sz, _, by omega, by go_num, by simp; omega, HO5, HLL, HB5⟩
                  case measure => simp [intOf]; omega
                · have h5 : ((m : Int) == 258) = false := by rw [beq_eq_false_iff_ne]; omega
                  go_wp2_with fail
                  go_roundw
                  case rel => exact ⟨d + 1, by omega, by go_num, Lib.hid (by rw [← HNB.out]; exact HGX.out), Lib.hid (HTX.out.drewN _)⟩
                  case measure => simp [intOf]; omega
            · have g3 : decide ((3 : Int) ≤ (m : Int)) = false := decide_eq_false (by omega)
              have h5 : ((m : Int) == 258) = false := by rw [beq_eq_false_iff_ne]; omega
              have HNB := Lib.hid (show (t1, t2, t3) = tokD b p (d + 1) by
                rw [HT.out]
                refine tokD_congr ?_
                have h1 := HST.out
                rw [if_neg (fun h => h3 h.1)] at h1
                exact h1.symm)
              go_wp2_with fail
              go_roundw
              case rel => exact ⟨d + 1, by omega, by go_num, Lib.hid (by rw [← HNB.out]; exact HGX.out), Lib.hid (HTX.out.drewN _)⟩
              case measure => simp [intOf]; omega
          · have g2 : decide ((d : Int) + 1 ≤ 32768) = false := decide_eq_false (by omega)
            have HEQ := Lib.hid (show (t1, t2, t3) = tokAt b p by rw [HT.out, tokAt_eq, show d = min p 32768 from by omega])
            have HTV := HTX
            have HRE := Lib.hid (row_end (w := w) (wv := wx) (t := (t1, t2, t3)) hwT lT HTV.out HOT.out HKT.out #[.int .i64 (t1 : Int), .int .i64 (t2 : Int), .int .u8 (t3 : Int)] (by simp [tc]) wx.heap.size (by first | rfl | simp only [World.setCell, Array.size_modify]))
            have HLL := Lib.hid (show (l ++ [(t1, t2, t3)]) ++ toksFrom b (n - (p + max 1 (t1))) (p + max 1 (t1)) = toks b by
              have h1 := toks_next (b := b) (p := p) (by omega)
              rw [← HEQ.out, hlen] at h1
              rw [← HL.out, h1, List.append_assoc]
              rfl)
            have hps := tok_pos (b := b) (p := p) (by omega)
            rw [← HEQ.out, hlen] at hps
            simp only at hps
            obtain ⟨sz, hsz2⟩ : ∃ sz, sz = max 1 (t1) := ⟨_, rfl⟩
            rw [← hsz2] at hps HLL
            have hszi : max (t1 : Int) 1 = (sz : Int) := by omega
            clear hsz2
            go_wp2_with (at_builtin; refine wpList_append_own_at _ rfl (.tmp 46) (.tmp 48) 99 rfl w.heap.size 101 i0 _ 3 24 Try.underlying99 hi hz0 hz1 hz2 rfl (by decide) _ _ _ rfl (HRE.out _ rfl).1 ⟨wx.heap.size, 0, none⟩ 1 1 (tc (t1, t2, t3)).toList rfl rfl (HRE.out _ rfl).2.1 (tc_one _) (by unfold maxLen; omega) (by omega) (HRE.out _ rfl).2.2.1 ?_)
            intro v' w5 ho5 hg5 _ hat5
            have hbv : Below w.heap.size w (wx) := HTV.out.old HBT.out hwT hwT HBT.out.size
            have hbq := hbv.alloc hbv.size (.cells #[.int .i64 (t1 : Int), .int .i64 (t2 : Int), .int .u8 (t3 : Int)] 101)
            have HB5 := Lib.hid (show Below w.heap.size w w5 by
              refine Below.grown (a := w) (B := w.heap.size) ?_ hg5 (HRE.out _ rfl).2.2.1 (own_block HOT.out)
              exact ⟨hbq.os, hbq.tape, hbq.output, hbq.size, hbq.block⟩)
            have gT5 := ((hg5.block T (HRE.out _ rfl).2.2.2.1 (fun e => by have := HKT.out T e.symm; omega)).trans (HRE.out _ rfl).2.2.2.2).trans HGX.out
            have m5 := cell_of gT5 (i := 0) (u := .int .i64 (t1 : Int)) rfl
            have HO5 := Lib.hid (show w5.ownsRow w.heap.size 101 3 v' (l ++ [(t1, t2, t3)]).length (tcs (l ++ [(t1, t2, t3)])) from by rw [tcs_snoc, List.length_append]; exact ho5)
            clear ho5 hg5 hat5 hbv hbq gT5
            go_wp2_with fail
            go_roundw
            case rel => exact ⟨p + sz, _, by omega, by go_num, by simp; omega, HO5, HLL, HB5⟩
            case measure => simp [intOf]; omega
        · have g1 : decide ((d : Int) + 1 ≤ (p : Int)) = false := decide_eq_false (by omega)
          have HEQ := Lib.hid (show (t1, t2, t3) = tokAt b p by rw [HT.out, tokAt_eq, show d = min p 32768 from by omega])
          have HTV := HTX
          have HRE := Lib.hid (row_end (w := w) (wv := wx) (t := (t1, t2, t3)) hwT lT HTV.out HOT.out HKT.out #[.int .i64 (t1 : Int), .int .i64 (t2 : Int), .int .u8 (t3 : Int)] (by simp [tc]) wx.heap.size (by first | rfl | simp only [World.setCell, Array.size_modify]))
          have HLL := Lib.hid (show (l ++ [(t1, t2, t3)]) ++ toksFrom b (n - (p + max 1 (t1))) (p + max 1 (t1)) = toks b by
            have h1 := toks_next (b := b) (p := p) (by omega)
            rw [← HEQ.out, hlen] at h1
            rw [← HL.out, h1, List.append_assoc]
            rfl)
          have hps := tok_pos (b := b) (p := p) (by omega)
          rw [← HEQ.out, hlen] at hps
          simp only at hps
          obtain ⟨sz, hsz2⟩ : ∃ sz, sz = max 1 (t1) := ⟨_, rfl⟩
          rw [← hsz2] at hps HLL
          have hszi : max (t1 : Int) 1 = (sz : Int) := by omega
          clear hsz2
          go_wp2_with (at_builtin; refine wpList_append_own_at _ rfl (.tmp 46) (.tmp 48) 99 rfl w.heap.size 101 i0 _ 3 24 Try.underlying99 hi hz0 hz1 hz2 rfl (by decide) _ _ _ rfl (HRE.out _ rfl).1 ⟨wx.heap.size, 0, none⟩ 1 1 (tc (t1, t2, t3)).toList rfl rfl (HRE.out _ rfl).2.1 (tc_one _) (by unfold maxLen; omega) (by omega) (HRE.out _ rfl).2.2.1 ?_)
          intro v' w5 ho5 hg5 _ hat5
          have hbv : Below w.heap.size w (wx) := HTV.out.old HBT.out hwT hwT HBT.out.size
          have hbq := hbv.alloc hbv.size (.cells #[.int .i64 (t1 : Int), .int .i64 (t2 : Int), .int .u8 (t3 : Int)] 101)
          have HB5 := Lib.hid (show Below w.heap.size w w5 by
            refine Below.grown (a := w) (B := w.heap.size) ?_ hg5 (HRE.out _ rfl).2.2.1 (own_block HOT.out)
            exact ⟨hbq.os, hbq.tape, hbq.output, hbq.size, hbq.block⟩)
          have gT5 := ((hg5.block T (HRE.out _ rfl).2.2.2.1 (fun e => by have := HKT.out T e.symm; omega)).trans (HRE.out _ rfl).2.2.2.2).trans HGX.out
          have m5 := cell_of gT5 (i := 0) (u := .int .i64 (t1 : Int)) rfl
          have HO5 := Lib.hid (show w5.ownsRow w.heap.size 101 3 v' (l ++ [(t1, t2, t3)]).length (tcs (l ++ [(t1, t2, t3)])) from by rw [tcs_snoc, List.length_append]; exact ho5)
          clear ho5 hg5 hat5 hbv hbq gT5
          go_wp2_with fail
          go_roundw
          case rel => exact ⟨p + sz, _, by omega, by go_num, by simp; omega, HO5, HLL, HB5⟩
          case measure => simp [intOf]; omega
    · have hpn' : p = n := by omega
      subst hpn'
      have hLL := HL.out
      rw [Nat.sub_self, toksFrom, List.append_nil] at hLL
      have HLL := Lib.hid hLL
      clear hLL
      have hni2 : ¬ ((p : Int) < (p : Int)) := by omega
      go_wp2_with fail
      first | go_ret2 | go_ret
      refine ⟨_, rfl, ?_, HB.out⟩
      rw [← HLL.out]
      exact HO.out
end Go.Proofs.Ytachikilcfdngaa
