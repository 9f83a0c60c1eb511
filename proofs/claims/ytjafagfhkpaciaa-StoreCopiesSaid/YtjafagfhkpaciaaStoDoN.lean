/- The store's Do of no kind, walked. Written by genstodo3.py. -/
import Derived.Test.YtjafagfhkpaciaaStoDo1
namespace Go.Proofs.Ytjafagfhkpaciaa
open Go.RowKit
set_option linter.unusedVariables false

set_option maxRecDepth 100000 in
set_option maxHeartbeats 4000000 in
theorem do_no {w : World} {s Mo Mu : Nat} {σ : Sto} (h : SAt w s Mo Mu σ) {ki vr at_ nn id : Int} {ky : ByteArray} {a : Option Addr} {n c : Nat} (hki : ¬ (1 ≤ ki ∧ ki ≤ 11)) :
    Calls Try.prog 12 #[.pointer (some ⟨s, 0, none⟩), .agg #[.int .i64 ki, .string ky, .slice a n c, .int .i64 vr, .int .i64 at_, .int .i64 nn, .int .i64 id]] w (DoOut w s Mo Mu σ (fun W0 e w1 => e = .returned (rep0 1) ∧ StAt w1 s Mo Mu σ)) := by
  have hs := h.lts
  have HM : Hid (∀ W0, StAt W0 s Mo Mu σ → Calls Try.prog 22 #[.int .i64 1] W0 fun e w1 => RepShape e ∧ (e = .returned (rep0 1) ∧ StAt w1 s Mo Mu σ) ∧ Frm (StF s Mo Mu σ) W0 w1) := Lib.hid fun W0 h0 => (failed_any 1 W0).mono fun e w1 g => ⟨by rw [g.1]; exact rep0_shape 1, ⟨g.1, h0.below g.2⟩, Frm.ofBelow g.2⟩
  have g1 : ¬ ki = 1 := by omega
  have g2 : ¬ ki = 2 := by omega
  have g3 : ¬ ki = 3 := by omega
  have g4 : ¬ ki = 4 := by omega
  have g5 : ¬ ki = 5 := by omega
  have g6 : ¬ ki = 6 := by omega
  have g7 : ¬ ki = 7 := by omega
  have g8 : ¬ ki = 8 := by omega
  have g9 : ¬ ki = 9 := by omega
  have g10 : ¬ ki = 10 := by omega
  have g11 : ¬ ki = 11 := by omega
  have n1 : ¬ (1 : Int) = ki := by omega
  have n2 : ¬ (2 : Int) = ki := by omega
  have n3 : ¬ (3 : Int) = ki := by omega
  have n4 : ¬ (4 : Int) = ki := by omega
  have n5 : ¬ (5 : Int) = ki := by omega
  have n6 : ¬ (6 : Int) = ki := by omega
  have n7 : ¬ (7 : Int) = ki := by omega
  have n8 : ¬ (8 : Int) = ki := by omega
  have n9 : ¬ (9 : Int) = ki := by omega
  have n10 : ¬ (10 : Int) = ki := by omega
  have n11 : ¬ (11 : Int) = ki := by omega
  have hmn := map_nil 58 _ _ Try.underlying58
  clear hki
  rcases h with h | ⟨⟨mu, h, hmu⟩, he, hMo, hMu⟩
  · have E := ent_mk h #[.int .i64 ki, .string ky, .slice a n c, .int .i64 vr, .int .i64 at_, .int .i64 nn, .int .i64 id]
    obtain ⟨W0, hW0⟩ : ∃ W0, W0 = (w.alloc (.cells #[.int .i64 ki, .string ky, .slice a n c, .int .i64 vr, .int .i64 at_, .int .i64 nn, .int .i64 id] 29)).alloc (.cells zrep 35) := ⟨_, rfl⟩
    rw [← hW0] at E
    have HC := Lib.hid (HM.out W0 E.st)
    have HST := Lib.hid E.st
    have HF0 := Lib.hid (Frm.ofBelow (F := fun b => b = s) E.bel)
    have HSZ := Lib.hid (show w.heap.size + 2 ≤ W0.heap.size by rw [E.sz]; exact Nat.le_refl _)
    have HRB := Lib.hid E.rb
    have HNR := Lib.hid (show ¬ StF s Mo Mu σ (w.heap.size + 1) from fun hb => by have := h.lt hb; omega)
    have c0 := cell_blk2 h.blk (i := 0) (u := .map (some Mo)) rfl
    have hq2 : ∀ j u, (#[.int .i64 ki, .string ky, .slice a n c, .int .i64 vr, .int .i64 at_, .int .i64 nn, .int .i64 id] : Array Value)[j]? = some u → W0.cell? ⟨w.heap.size, j, none⟩ = some u := fun j u hu => cell_blk2 E.cb hu
    clear h HM E
    go_enter Try.func12, Try.ntmps12
    go_wp2_with fail
    unfold zrep at hW0
    rw [← hW0]
    clear hW0 c0 hq2
    refine HC.out.mono ?_
    rintro e w1 ⟨⟨x, ra, rn, rc, v, b, i, la, ln, lc, m, rfl⟩, hq, hfr⟩
    have hrb1 : w1.heap[w.heap.size + 1]? = some (.cells zrep 35 (0, 0)) := hfr.at HRB.out (fun hb => HNR.out hb)
    obtain ⟨⟨q0, q1, q2, q3, q4, q5, q6⟩, r0, r1, r2, r3, r4, r5, r6⟩ := rb_cells hrb1
    have HQ := Lib.hid hq
    have HFR := Lib.hid hfr
    have HRB1 := Lib.hid hrb1
    clear hq hfr hrb1
    go_wp2_with fail
    clear q0 q1 q2 q3 q4 q5 q6 r0 r1 r2 r3 r4 r5 r6
    obtain ⟨W5, hW5⟩ : ∃ W5, W5 = setR w1 (w.heap.size + 1) (.int .i64 x) (.slice ra rn rc) (.int .i64 v) (.int .i64 b) (.int .i64 i) (.slice la ln lc) (.bool m) := ⟨_, rfl⟩
    have hr5 := setR_at0 HRB1.out (.int .i64 x) (.slice ra rn rc) (.int .i64 v) (.int .i64 b) (.int .i64 i) (.slice la ln lc) (.bool m)
    have hF5 := (Frm.refl (fun b => b = w.heap.size + 1) w1).setR (R := w.heap.size + 1) (.inl rfl) (.int .i64 x) (.slice ra rn rc) (.int .i64 v) (.int .i64 b) (.int .i64 i) (.slice la ln lc) (.bool m)
    rw [← hW5] at hr5 hF5
    unfold setR at hW5
    rw [← hW5]
    refine bodyPost_ret (ret_rep rfl _ _ (w.heap.size + 1) rfl hr5) rfl ?_
    exact do_end HST.out HF0.out HSZ.out HQ.out HFR.out hF5
  · obtain ⟨wa, hwa⟩ : ∃ wa, wa = (w.alloc (.cells #[.int .i64 ki, .string ky, .slice a n c, .int .i64 vr, .int .i64 at_, .int .i64 nn, .int .i64 id] 29)).alloc (.cells zrep 35) := ⟨_, rfl⟩
    have ez : wa.heap.size = w.heap.size + 2 := by rw [hwa]; simp
    have hbe : Below w.heap.size w wa := by rw [hwa]; exact ((Below.refl _ _).alloc (Nat.le_refl _) _).alloc (by simp) _
    have hcb : wa.heap[w.heap.size]? = some (.cells #[.int .i64 ki, .string ky, .slice a n c, .int .i64 vr, .int .i64 at_, .int .i64 nn, .int .i64 id] 29 (0, 0)) := by
      rw [hwa]; exact (Below.heap_alloc _ _ _ (by simp)).trans (heap_new w _)
    have hrb : wa.heap[w.heap.size + 1]? = some (.cells zrep 35 (0, 0)) := by
      have := heap_new (w.alloc (.cells #[.int .i64 ki, .string ky, .slice a n c, .int .i64 vr, .int .i64 at_, .int .i64 nn, .int .i64 id] 29)) (.cells zrep 35)
      rw [← hwa] at this
      rwa [show (w.alloc (.cells #[.int .i64 ki, .string ky, .slice a n c, .int .i64 vr, .int .i64 at_, .int .i64 nn, .int .i64 id] 29)).heap.size = w.heap.size + 1 by simp] at this
    obtain ⟨hst, hfr⟩ := made_maps h wa hbe
    obtain ⟨W0, hW0⟩ : ∃ W0, W0 = (((wa.setCell ⟨s, 0, none⟩ (.map (some wa.heap.size))).setCell ⟨s, 1, none⟩ (.map (some (wa.heap.size + 1)))).alloc (.map #[] 0)).alloc (.map #[] 0) := ⟨_, rfl⟩
    rw [← hW0] at hst hfr
    have hfa : Frm (fun b => b = s) wa W0 := by
      rw [hW0]
      exact ((((Frm.refl (fun b => b = s) wa).set (p := s) (.inl rfl) 0 _).set (p := s) (.inl rfl) 1 _).below ((Below.refl _ _).alloc (Nat.le_refl _) _)).below ((Below.refl _ _).alloc (Nat.le_refl _) _)
    rw [ez, ← hMo, show Mo + 1 = Mu from by omega, ← he] at hst
    have hsz0 : w.heap.size + 2 ≤ W0.heap.size := by have := hfa.size; omega
    have hrb0 : W0.heap[w.heap.size + 1]? = some (.cells zrep 35 (0, 0)) := hfa.at hrb (by omega)
    have HC := Lib.hid (HM.out W0 hst)
    have HST := Lib.hid hst
    have HF0 := Lib.hid hfr
    have HSZ := Lib.hid hsz0
    have HRB := Lib.hid hrb0
    have HNR := Lib.hid (show ¬ StF s Mo Mu σ (w.heap.size + 1) from fun hb => by
      rw [he] at hb
      rcases hb with g | g | g | ⟨p, hp, g⟩
      · omega
      · omega
      · omega
      · cases hp)
    have hla : wa.heap[s]? = some (.cells (freC mu σ.now) 61 (0, 0)) := (hbe.block s hs).trans h
    have c0 := cell_blk2 h (i := 0) (u := .map none) rfl
    have hmk := @run_makeMap Try.prog
    have MO := Lib.hid hMo
    have MU := Lib.hid hMu
    have hs1 : s < wa.heap.size := Nat.lt_of_lt_of_le hs hbe.size
    have hk1 : w.heap.size < wa.heap.size := by omega
    have HLA := Lib.hid hla
    have HCB := Lib.hid hcb
    have EZ := Lib.hid ez
    have HWA := Lib.hid hwa
    clear hmu h HM hst hfr hsz0 hrb0 hfa hcb hrb hbe he hMo hMu hla hwa ez
    go_enter Try.func12, Try.ntmps12
    go_upto_region 4 with fail
    have hwa2 := HWA.out
    unfold zrep at hwa2
    rw [← hwa2]
    clear hwa2 c0
    have c0 := cell_blk2 HLA.out (i := 0) (u := .map none) rfl
    have c1 := cell_blk2 HLA.out (i := 1) (u := .map mu) rfl
    have f0 := fro_blk2 HLA.out 0
    have f1 := fro_blk2 HLA.out 1
    have k0 := cell_blk2 HCB.out (i := 0) (u := .int .i64 ki) rfl
    have k1 := cell_blk2 HCB.out (i := 1) (u := .string ky) rfl
    have k2 := cell_blk2 HCB.out (i := 2) (u := .slice a n c) rfl
    have k3 := cell_blk2 HCB.out (i := 3) (u := .int .i64 vr) rfl
    have k4 := cell_blk2 HCB.out (i := 4) (u := .int .i64 at_) rfl
    have k5 := cell_blk2 HCB.out (i := 5) (u := .int .i64 nn) rfl
    have k6 := cell_blk2 HCB.out (i := 6) (u := .int .i64 id) rfl
    go_wp2_with fail
    rw [← hW0]
    clear hW0 c0 c1 f0 f1 k0 k1 k2 k3 k4 k5 k6 hmk hs1 hk1
    refine HC.out.mono ?_
    rintro e w1 ⟨⟨x, ra, rn, rc, v, b, i, la, ln, lc, m, rfl⟩, hq, hfr⟩
    have hrb1 : w1.heap[w.heap.size + 1]? = some (.cells zrep 35 (0, 0)) := hfr.at HRB.out (fun hb => HNR.out hb)
    obtain ⟨⟨q0, q1, q2, q3, q4, q5, q6⟩, r0, r1, r2, r3, r4, r5, r6⟩ := rb_cells hrb1
    have HQ := Lib.hid hq
    have HFR := Lib.hid hfr
    have HRB1 := Lib.hid hrb1
    clear hq hfr hrb1
    go_wp2_with fail
    clear q0 q1 q2 q3 q4 q5 q6 r0 r1 r2 r3 r4 r5 r6
    obtain ⟨W5, hW5⟩ : ∃ W5, W5 = setR w1 (w.heap.size + 1) (.int .i64 x) (.slice ra rn rc) (.int .i64 v) (.int .i64 b) (.int .i64 i) (.slice la ln lc) (.bool m) := ⟨_, rfl⟩
    have hr5 := setR_at0 HRB1.out (.int .i64 x) (.slice ra rn rc) (.int .i64 v) (.int .i64 b) (.int .i64 i) (.slice la ln lc) (.bool m)
    have hF5 := (Frm.refl (fun b => b = w.heap.size + 1) w1).setR (R := w.heap.size + 1) (.inl rfl) (.int .i64 x) (.slice ra rn rc) (.int .i64 v) (.int .i64 b) (.int .i64 i) (.slice la ln lc) (.bool m)
    rw [← hW5] at hr5 hF5
    unfold setR at hW5
    rw [← hW5]
    refine bodyPost_ret (ret_rep rfl _ _ (w.heap.size + 1) rfl hr5) rfl ?_
    exact do_end HST.out HF0.out HSZ.out HQ.out HFR.out hF5
end Go.Proofs.Ytjafagfhkpaciaa
