/- Texts put together by packtpl2.py: SqLong, SqTok, BitsPlain. -/
import Derived.Test.YtpbijdoemdoijaaGreatDoorPkCa2
import Derived.Maps.AppendAt
import Derived.Deep.OwnRows
import Derived.Carry
import Derived.WalkKit
import Derived.Laws.BitsAllLaws
section PkCa3_0
/- The token of a place, walked. -/
namespace Go.Proofs.YtpbijdoemdoijaaGreatDoor
open Go.RowKit
set_option linter.unusedVariables false

/-- the token of a place, of the distances 1 to d -/
def tokD (b : List Nat) (i d : Nat) : Nat × Nat × Nat := if (bestD b i d).1 = 0 then (0, 0, b.getD i 0) else ((bestD b i d).1, (bestD b i d).2, 0)
theorem tokAt_eq (b : List Nat) (i : Nat) : tokAt b i = tokD b i (min i 32768) := rfl
theorem tokD_len (b : List Nat) (i d : Nat) : (tokD b i d).1 = (bestD b i d).1 := by
  unfold tokD
  split
  · rename_i h; exact h.symm
  · rfl
theorem tokD_congr {b : List Nat} {i d e : Nat} (h : bestD b i d = bestD b i e) : tokD b i d = tokD b i e := by unfold tokD; rw [h]
theorem tokD_zero (b : List Nat) (i : Nat) : tokD b i 0 = (0, 0, b.getD i 0) := rfl
def tc (t : Nat × Nat × Nat) : Array Value := #[.int .i64 (t.1 : Int), .int .i64 (t.2.1 : Int), .int .u8 (t.2.2 : Int)]

/-- too few bytes: the byte -/
theorem tokAt_few {b : List Nat} {i : Nat} (h : b.length < i + 3) : tokAt b i = (0, 0, b.getD i 0) := by
  have hm : most b i < 3 := by unfold most; omega
  rw [tokAt_eq, tokD_congr (e := 0), tokD_zero]
  have := @bestD_skip b i 0 (min i 32768) (fun t _ _ h3 => by have := @like_le b (most b i) (i - t) i; omega)
  rwa [Nat.zero_add] at this
/-- no place between tells three bytes -/
theorem skip_to {b : List Nat} {i d e : Nat} (hi : i + 3 ≤ b.length) (hde : d ≤ e) (hei : e ≤ i) (h : ∀ j, i - e ≤ j → j < i - d → k3 b j ≠ k3 b i) : bestD b i e = bestD b i d := by
  have := @bestD_skip b i d (e - d) (fun t h1 h2 h3 => h (i - t) (by omega) (by omega) ((like_three hi).1 h3))
  rwa [show d + (e - d) = e from by omega] at this
theorem end_none {b : List Nat} {i d : Nat} (hi : i + 3 ≤ b.length) (hd : d ≤ min i 32768) (h : prev b (k3 b i) (i - d) = none) : tokD b i d = tokAt b i := by
  rw [tokAt_eq]
  refine (tokD_congr (skip_to hi hd (by omega) (fun j h1 h2 he => ?_))).symm
  obtain ⟨q, hq, _⟩ := prev_last h2 (by omega) he
  rw [h] at hq; cases hq
theorem end_far {b : List Nat} {i d q : Nat} (hi : i + 3 ≤ b.length) (hd : d ≤ min i 32768) (h : prev b (k3 b i) (i - d) = some q) (hf : 32768 < i - q) : tokD b i d = tokAt b i := by
  rw [tokAt_eq]
  refine (tokD_congr (skip_to hi hd (by omega) (fun j h1 h2 he => ?_))).symm
  obtain ⟨q', hq, hle⟩ := prev_last h2 (by omega) he
  rw [h] at hq; cases hq
  omega
theorem end_full {b : List Nat} {i d : Nat} (hd : d ≤ min i 32768) (h : most b i ≤ (bestD b i d).1) : tokD b i d = tokAt b i := by
  rw [tokAt_eq]
  have hf : (bestD b i d).1 = most b i := Nat.le_antisymm bestD_le h
  have := @bestD_full b i d hf (min i 32768 - d)
  rw [show d + (min i 32768 - d) = min i 32768 from by omega] at this
  exact (tokD_congr this).symm
/-- a round: the place before -/
theorem round_step {b : List Nat} {i d q : Nat} (hi : i + 3 ≤ b.length) (h : prev b (k3 b i) (i - d) = some q) :
    bestD b i (i - q) = if (bestD b i d).1 < like b q i (most b i) then (like b q i (most b i), i - q) else bestD b i d := by
  obtain ⟨h1, h2, h3⟩ := prev_lt h
  have hs : bestD b i (i - q - 1) = bestD b i d := skip_to hi (by omega) (by omega) (fun j g1 g2 he => by
    obtain ⟨q', hq, hle⟩ := prev_last g2 (by omega) he
    rw [h] at hq; cases hq
    omega)
  have h5 : 3 ≤ like b q i (most b i) := (like_three hi).2 h3
  have := bestD_step b i (i - q - 1)
  rw [hs, show i - q - 1 + 1 = i - q from by omega, show i - (i - q) = q from by omega] at this
  rw [this]
  by_cases hc : (bestD b i d).1 < like b q i (most b i)
  · rw [if_pos ⟨h5, hc⟩, if_pos hc]
  · rw [if_neg (fun h => hc h.2), if_neg hc]
theorem round_diff {b : List Nat} {i d q : Nat} (hi : i + 3 ≤ b.length) (h : prev b (k3 b i) (i - d) = some q) (hd : b.getD (q + (bestD b i d).1) 0 ≠ b.getD (i + (bestD b i d).1) 0) : bestD b i (i - q) = bestD b i d := by
  rw [round_step hi h, if_neg]
  intro hc
  exact hd (like_eq hc)

theorem set3 {v : World} {R : Nat} {c0 c1 c2 : Value} {t : TypeId} (g : v.heap[R]? = some (.cells #[c0, c1, c2] t (0, 0))) (x y z : Value) : (((v.setCell ⟨R, 0, none⟩ x).setCell ⟨R, 1, none⟩ y).setCell ⟨R, 2, none⟩ z).heap[R]? = some (.cells #[x, y, z] t (0, 0)) :=
  heap_set2 (heap_set2 (heap_set2 g 0 x) 1 y) 2 z
theorem below3 {B R : Nat} {w v : World} (h : Below B w v) (hR : B ≤ R) (x y z : Value) : Below B w (((v.setCell ⟨R, 0, none⟩ x).setCell ⟨R, 1, none⟩ y).setCell ⟨R, 2, none⟩ z) :=
  ((h.setCell (p := ⟨R, 0, none⟩) hR x).setCell (p := ⟨R, 1, none⟩) hR y).setCell (p := ⟨R, 2, none⟩) hR z

theorem heap3 {v : World} {R k : Nat} (hk : k ≠ R) (x y z : Value) : (((v.setCell ⟨R, 0, none⟩ x).setCell ⟨R, 1, none⟩ y).setCell ⟨R, 2, none⟩ z).heap[k]? = v.heap[k]? :=
  (Below.heap_setCell _ _ _ _ hk).trans ((Below.heap_setCell _ _ _ _ hk).trans (Below.heap_setCell _ _ _ _ hk))
theorem bdrewN {B : Nat} {a w : World} (h : Below B a w) (q : Nat) : Below B a (w.drewN q) := ⟨h.os, h.tape, h.output, h.size, h.block⟩
/-- the next place to be tried, behind the distances 1 to d (none: -1) -/
def pv (b : List Nat) (i d : Nat) : Int := match prev b (k3 b i) (i - d) with | none => -1 | some q => (q : Int)

set_option maxRecDepth 100000 in
set_option maxHeartbeats 4000000 in
theorem longest_any {w0 w : World} {W A M : Nat} {a : Option Addr} {n c ac : Nat} {b : List Nat} {i : Nat} (h : WinAt w0 w W A M a n c ac b i) (hi : i < n) :
    Calls Tryz.prog 140 #[.pointer (some ⟨W, 0, none⟩), .int .i64 (i : Int)] w fun e w' => e = .returned (.agg (tc (tokAt b i))) ∧ Below w.heap.size w w' := by
  have lW := (Array.getElem?_eq_some_iff.1 h.win).1
  have c0 := cell_of h.win (i := 0) (u := .slice a n c) rfl
  have c1 := cell_of h.win (i := 1) (u := .map (some M)) rfl
  have hr := h.by_.reach
  have hlen := h.by_.len
  have hcap := h.by_.cap
  have hcm := h.by_.capm
  obtain ⟨g, off, rfl, hlt, hcell⟩ := bytes_at h.bytes (i := i) hi
  have x0 := hcell i hi
  obtain ⟨y, hy⟩ : ∃ y, y = b.getD i 0 := ⟨_, rfl⟩
  rw [← hy] at x0
  have HY := Lib.hid hy
  have HH := Lib.hid h
  have hin : (i : Int) < (n : Int) := by omega
  have hac := h.hac
  clear h hcell hy
  go_enter Tryz.func140, Tryz.ntmps140
  go_wp2_with fail
  obtain ⟨w2, hw2⟩ : ∃ w2, w2 = (w.alloc (.cells #[.int .i64 0, .int .i64 0, .int .u8 0] 165)).alloc (.cells #[.int .i64 0, .int .i64 0, .int .u8 (y : Int)] 165) := ⟨_, rfl⟩
  rw [← hw2]
  have hs1 : (w.alloc (.cells #[.int .i64 0, .int .i64 0, .int .u8 0] 165)).heap.size = w.heap.size + 1 := by show (w.heap.push _).size = _; exact Array.size_push ..
  have hb2 : Below w.heap.size w w2 := by rw [hw2]; exact ((Below.refl _ _).alloc (Nat.le_refl _) _).alloc (by omega) _
  have gB : w2.heap[w.heap.size + 1]? = some (.cells #[.int .i64 0, .int .i64 0, .int .u8 (y : Int)] 165 (0, 0)) := by rw [hw2, ← hs1]; exact heap_alloc_new _ _
  have gR : w2.heap[w.heap.size]? = some (.cells #[.int .i64 0, .int .i64 0, .int .u8 0] 165 (0, 0)) := by
    rw [hw2, heap_alloc_old _ _ (by omega)]; exact heap_alloc_new _ _
  have hk2 := HH.out.keep hb2
  have lB := (Array.getElem?_eq_some_iff.1 gB).1
  have lW2 := (Array.getElem?_eq_some_iff.1 hk2.win).1
  have c02 := cell_of hk2.win (i := 0) (u := .slice (some ⟨g, off, none⟩) n c) rfl
  clear hw2 c0 c1 x0
  by_cases hf : n < i + 3
  · refine (three_no c02 hr (i := i) (by omega) hf lW2).mono ?_
    rintro e w3 ⟨rfl, hb3⟩
    have gB3 := (hb3.block _ lB).trans gB
    have gR3 := (hb3.block _ (by omega)).trans gR
    have m0 := cell_of gB3 (i := 0) (u := .int .i64 0) rfl
    have m1 := cell_of gB3 (i := 1) (u := .int .i64 0) rfl
    have m2 := cell_of gB3 (i := 2) (u := .int .u8 (y : Int)) rfl
    have r0 := cell_of gR3 (i := 0) (u := .int .i64 0) rfl
    have r1 := cell_of gR3 (i := 1) (u := .int .i64 0) rfl
    have r2 := cell_of gR3 (i := 2) (u := .int .u8 0) rfl
    have q0 := fro_of gR3 0
    have q1 := fro_of gR3 1
    have q2 := fro_of gR3 2
    have lB3 := (Array.getElem?_eq_some_iff.1 gB3).1
    have lR3 : w.heap.size < w3.heap.size := by omega
    have HB3 := Lib.hid (hb2.trans (hb3.mono hb2.size))
    have HGR := Lib.hid gR3
    clear gB3 gR3 hb3 hk2 gB gR hb2 hs1
    have HTF := Lib.hid (tokAt_few (b := b) (i := i) (by omega))
    go_wp2_with fail
    refine bodyPost_ret (results_cell_row rfl _ _ w.heap.size 165 #[.int .i64 0, .int .i64 0, .int .u8 (y : Int)] _ _ rfl ((heap_alloc_old _ _ (by simp only [World.setCell, Array.size_modify]; omega)).trans (set3 HGR.out _ _ _)) Tryz.underlying165 rfl (by kernel_rfl)) rfl ?_
    rw [HTF.out, ← HY.out]
    exact ⟨rfl, (below3 HB3.out (Nat.le_refl _) _ _ _).alloc (by simp only [World.setCell, Array.size_modify]; omega) _⟩
  · have hi3 : i + 3 ≤ n := by omega
    refine (three_yes c02 hk2.bytes (i := i) hi3 lW2).mono ?_
    rintro e w3 ⟨rfl, hb3⟩
    have hk3 := hk2.keep hb3
    have hb3k := k3_B3 hk3.by_.byte i
    obtain ⟨⟨p0, p1, p2⟩, hkk⟩ : ∃ k, k = k3 b i := ⟨_, rfl⟩
    rw [← hkk] at hb3k
    rw [← hkk]
    obtain ⟨w4, hw4⟩ : ∃ w4, w4 = w3.alloc (.cells #[.int .u8 (p0 : Int), .int .u8 (p1 : Int), .int .u8 (p2 : Int)] 200) := ⟨_, rfl⟩
    have hb34 : Below w3.heap.size w3 w4 := by rw [hw4]; exact (Below.refl _ _).alloc (Nat.le_refl _) _
    have hk4 := hk3.keep hb34
    have hb4 : Below w.heap.size w w4 := hb2.trans ((hb3.mono hb2.size).trans (hb34.mono (Nat.le_trans hb2.size hb3.size)))
    have gB4 := (hb34.block _ (Nat.lt_of_lt_of_le lB hb3.size)).trans ((hb3.block _ lB).trans gB)
    have gR4 := (hb34.block w.heap.size (Nat.lt_of_lt_of_le (by omega) hb3.size)).trans ((hb3.block _ (by omega)).trans gR)
    have gK4 : w4.heap[w3.heap.size]? = some (.cells #[.int .u8 (p0 : Int), .int .u8 (p1 : Int), .int .u8 (p2 : Int)] 200 (0, 0)) := by rw [hw4]; exact heap_alloc_new _ _
    have e1 := cell_of hk4.win (i := 1) (u := .map (some M)) rfl
    have k0 := cell_of gK4 (i := 0) (u := .int .u8 (p0 : Int)) rfl
    have k1 := cell_of gK4 (i := 1) (u := .int .u8 (p1 : Int)) rfl
    have k2 := cell_of gK4 (i := 2) (u := .int .u8 (p2 : Int)) rfl
    have hlook := MapIs.look (w := w4.drew) (k := (p0, p1, p2)) (hk4.map.same rfl) hb3k
    unfold kv at hlook ⊢
    simp only at hlook
    have HW4 := Lib.hid hw4
    have HK4 := Lib.hid hk4
    have HB4 := Lib.hid hb4
    have HGB := Lib.hid gB4
    have HGR := Lib.hid gR4
    have HKK := Lib.hid hkk
    have lR4 := (Array.getElem?_eq_some_iff.1 gR4).1
    have lB4 := (Array.getElem?_eq_some_iff.1 gB4).1
    clear hw4 hk4 hb4 gB4 gR4 gK4 hb34 hk3 hb3 hb3k hk2 gB gR hb2 hs1 hkk c02
    go_wp2_with fail
    rw [← HW4.out]
    cases hpv : prev b (p0, p1, p2) i with
    | none =>
      rw [hpv] at hlook
      simp only [Option.getD_none, Option.isSome_none] at hlook
      have HTF := Lib.hid (end_none (b := b) (i := i) (d := 0) (by omega) (by omega) (by rw [Nat.sub_zero, ← HKK.out]; exact hpv))
      go_region
      have m0 := cell_of HGB.out (i := 0) (u := .int .i64 0) rfl
      have m1 := cell_of HGB.out (i := 1) (u := .int .i64 0) rfl
      have m2 := cell_of HGB.out (i := 2) (u := .int .u8 (y : Int)) rfl
      have r0 := cell_of HGR.out (i := 0) (u := .int .i64 0) rfl
      have r1 := cell_of HGR.out (i := 1) (u := .int .i64 0) rfl
      have r2 := cell_of HGR.out (i := 2) (u := .int .u8 0) rfl
      have q0 := fro_of HGR.out 0
      have q1 := fro_of HGR.out 1
      have q2 := fro_of HGR.out 2
      clear hlook
      go_wp2_with fail
      refine bodyPost_ret (results_cell_row rfl _ _ w.heap.size 165 #[.int .i64 0, .int .i64 0, .int .u8 (y : Int)] _ _ rfl (set3 HGR.out _ _ _) Tryz.underlying165 rfl (by kernel_rfl)) rfl ?_
      rw [← HTF.out, tokD_zero, ← HY.out]
      exact ⟨rfl, (below3 HB4.out (Nat.le_refl _) _ _ _).drew⟩
    | some q =>
      rw [hpv] at hlook
      simp only [Option.getD_some, Option.isSome_some] at hlook
      go_region
      have e0 := cell_of HK4.out.win (i := 0) (u := .slice (some ⟨g, off, none⟩) n c) rfl
      clear hlook e1 k0 k1 k2
      go_wp2_with fail
      have hmo : min 258 ((n : Int) - (i : Int)) = ((most b i : Nat) : Int) := by unfold most; rw [hlen]; omega
      rw [hmo]
      obtain ⟨ms, hms⟩ : ∃ ms, ms = most b i := ⟨_, rfl⟩
      have hms2 : ms = min 258 (n - i) := by rw [hms, most, hlen]
      rw [← hms]
      have HMS := Lib.hid hms
      have HM2 := Lib.hid hms2
      have hqi := (prev_lt hpv).1
      have HST := Lib.hid (show (q : Int) = pv b i 0 by unfold pv; rw [Nat.sub_zero, ← HKK.out, hpv])
      have hmsn : i + ms ≤ n := by omega
      clear hmo hms hms2 e0 hpv
      go_loopw [8] (fun s8 wr => ∃ (d : Nat) (z : Int), d ≤ min i 32768 ∧ s8 = .int .i64 z ∧ Hid (z = pv b i d) ∧ Hid (wr.heap[w.heap.size + 1]? = some (.cells (tc (tokD b i d)) 165 (0, 0))) ∧ Hid (wr.heap[w.heap.size]? = some (.cells #[.int .i64 0, .int .i64 0, .int .u8 0] 165 (0, 0))) ∧ Hid (Below w.heap.size w wr)) (fun s8 _ => (intOf s8 + 1).toNat)
      case atStart => exact ⟨0, _, by omega, rfl, HST, Lib.hid (by rw [tokD_zero, ← HY.out]; exact HGB.out), HGR, Lib.hid HB4.out.drew⟩
      case round =>
        obtain ⟨d, z, hd, rfl, HZ, HT, HR, HBB⟩ := hrel
        rename World => wr
        obtain ⟨⟨l1, l2, l3⟩, htd⟩ : ∃ t, t = tokD b i d := ⟨_, rfl⟩
        have hl1 : l1 = (bestD b i d).1 := by rw [← tokD_len, ← htd]
        have HTD := Lib.hid htd
        have HL1 := Lib.hid hl1
        have gBr := HT.out
        rw [← htd] at gBr
        have lBr := (Array.getElem?_eq_some_iff.1 gBr).1
        have hkr := HH.out.keep HBB.out
        obtain ⟨cur, gA, hz, hq⟩ := hkr.ah
        have e0 := cell_of hkr.win (i := 0) (u := .slice (some ⟨g, off, none⟩) n c) rfl
        have e2 := cell_of hkr.win (i := 2) (u := .slice (some ⟨A, 0, none⟩) n ac) rfl
        have m0 := cell_of gBr (i := 0) (u := .int .i64 (l1 : Int)) rfl
        have m1 := cell_of gBr (i := 1) (u := .int .i64 (l2 : Int)) rfl
        have m2 := cell_of gBr (i := 2) (u := .int .u8 (l3 : Int)) rfl
        have n0 := fro_of gBr 0
        have n1 := fro_of gBr 1
        have n2 := fro_of gBr 2
        have r0 := cell_of HR.out (i := 0) (u := .int .i64 0) rfl
        have r1 := cell_of HR.out (i := 1) (u := .int .i64 0) rfl
        have r2 := cell_of HR.out (i := 2) (u := .int .u8 0) rfl
        have q0 := fro_of HR.out 0
        have q1 := fro_of HR.out 1
        have q2 := fro_of HR.out 2
        have hlb := bestD_le (b := b) (i := i) (d := d)
        rw [← hl1, ← HMS.out] at hlb
        cases hpd : prev b (k3 b i) (i - d) with
        | none =>
          have HTF := Lib.hid (end_none (b := b) (i := i) (d := d) (by omega) hd hpd)
          obtain rfl : z = -1 := by rw [HZ.out, pv, hpd]
          clear htd hl1 gBr hkr gA hz hq hpd hlb
          go_wp2_with fail
          refine bodyPost_ret (results_cell_row rfl _ _ w.heap.size 165 #[.int .i64 (l1 : Int), .int .i64 (l2 : Int), .int .u8 (l3 : Int)] _ _ rfl (set3 HR.out _ _ _) Tryz.underlying165 rfl (by kernel_rfl)) rfl ?_
          rw [← HTF.out, ← HTD.out]
          exact ⟨rfl, below3 HBB.out (Nat.le_refl _) _ _ _⟩
        | some q =>
          obtain ⟨hq1, hq2, hq3⟩ := prev_lt hpd
          obtain rfl : z = (q : Int) := by rw [HZ.out, pv, hpd]
          by_cases hfar : 32768 < i - q
          · have HTF := Lib.hid (end_far (b := b) (i := i) (d := d) (by omega) hd hpd hfar)
            have hfi : decide ((i : Int) - (q : Int) ≤ 32768) = false := decide_eq_false (by omega)
            clear htd hl1 gBr hkr gA hz hq hpd hlb
            go_wp2_with fail
            refine bodyPost_ret (results_cell_row rfl _ _ w.heap.size 165 #[.int .i64 (l1 : Int), .int .i64 (l2 : Int), .int .u8 (l3 : Int)] _ _ rfl (set3 HR.out _ _ _) Tryz.underlying165 rfl (by kernel_rfl)) rfl ?_
            rw [← HTF.out, ← HTD.out]
            exact ⟨rfl, below3 HBB.out (Nat.le_refl _) _ _ _⟩
          · have hfi : (i : Int) - (q : Int) ≤ 32768 := by omega
            by_cases hfull : ms ≤ l1
            · have HTF := Lib.hid (end_full (b := b) (i := i) (d := d) hd (by rw [← HL1.out, ← HMS.out]; exact hfull))
              have hfu : (ms : Int) ≤ (l1 : Int) := by omega
              clear htd hl1 gBr hkr gA hz hq hpd hlb
              go_wp2_with fail
              refine bodyPost_ret (results_cell_row rfl _ _ w.heap.size 165 #[.int .i64 (l1 : Int), .int .i64 (l2 : Int), .int .u8 (l3 : Int)] _ _ rfl (set3 HR.out _ _ _) Tryz.underlying165 rfl (by kernel_rfl)) rfl ?_
              rw [← HTF.out, ← HTD.out]
              exact ⟨rfl, below3 HBB.out (Nat.le_refl _) _ _ _⟩
            · have hfu : (l1 : Int) < (ms : Int) := by omega
              obtain ⟨g', off', ha', hlt', hcell⟩ := bytes_at hkr.bytes (i := i) (by omega)
              simp only [Option.some.injEq, Addr.mk.injEq, and_true] at ha'
              obtain ⟨rfl, rfl⟩ := ha'
              have x1 := hcell (q + l1) (by omega)
              have x2 := hcell (i + l1) (by omega)
              obtain ⟨u, hu⟩ : ∃ u, u = b.getD (q + l1) 0 := ⟨_, rfl⟩
              obtain ⟨v, hv⟩ : ∃ v, v = b.getD (i + l1) 0 := ⟨_, rfl⟩
              rw [← hu] at x1
              rw [← hv] at x2
              have aq := cell_of gA (hq q (by omega) (by omega))
              have hpzq : sqpz b q = pv b i (i - q) := by unfold sqpz pv; rw [hq3, show i - (i - q) = q from by omega]; cases prev b (k3 b i) q <;> rfl
              obtain ⟨z', hz'⟩ : ∃ z', z' = sqpz b q := ⟨_, rfl⟩
              rw [← hz'] at aq hpzq
              have hzlt : -1 ≤ z' ∧ z' < (q : Int) := by
                rw [hz', sqpz]
                split
                · omega
                · rename_i q' hq'
                  have := (prev_lt hq').1
                  omega
              have HZ2 := Lib.hid hpzq
              have HSTEP := Lib.hid (round_step (b := b) (i := i) (d := d) (by omega) hpd)
              have HKR := Lib.hid hkr
              have HGBR := Lib.hid gBr
              have lR := (Array.getElem?_eq_some_iff.1 HR.out).1
              have lA := (Array.getElem?_eq_some_iff.1 gA).1
              have hAB : A ≠ w.heap.size + 1 := by have := (Array.getElem?_eq_some_iff.1 HH.out.ah.choose_spec.1).1; omega
              have hql : (q : Int) + (l1 : Int) < (n : Int) := by omega
              have hqn : (q : Int) < (n : Int) := by omega
              have hil : (i : Int) + (l1 : Int) < (n : Int) := by omega
              have hqms : q + ms ≤ n := by omega
              by_cases huv : u = v
              · subst huv
                have hne : ((u : Int) != (u : Int)) = false := by simp
                have HLK := Lib.hid (fun nq => likewise_any (w := wr.drewN nq) (W := W) e0 ((hkr.bytes).drewN nq) (i := q) (j := i) (m := ms) hqms hmsn)
                clear htd hl1 gBr hkr gA hz hq hpd hlb hcell hu hv hz' hpzq
                go_wp2_with fail
                go_quiet (fail)
                rename Nat => nq
                go_wp2_with fail
                refine (HLK.out nq).mono ?_
                rintro e wx ⟨rfl, nx, hwx⟩
                rw [World.drewN_drewN] at hwx
                obtain ⟨nz, hnz⟩ : ∃ nz, nz = nq + nx := ⟨_, rfl⟩
                rw [← hnz] at hwx
                subst hwx
                obtain ⟨lk, hlk⟩ : ∃ lk, lk = like b q i ms := ⟨_, rfl⟩
                rw [← hlk]
                have hlkm : lk ≤ ms := by rw [hlk]; exact like_le
                have HLKE := Lib.hid hlk
                clear hlk
                by_cases hgt : l1 < lk
                · have hgi : (l1 : Int) < (lk : Int) := by omega
                  have HNB := Lib.hid (show tokD b i (i - q) = (lk, i - q, 0) by
                    have h1 := HSTEP.out
                    rw [← HL1.out, ← HMS.out, ← HLKE.out, if_pos hgt] at h1
                    unfold tokD
                    rw [h1, if_neg (by simp only; omega)])
                  go_wp2_with fail
                  go_roundw
                  case rel => exact ⟨i - q, _, by omega, by go_num, HZ2, Lib.hid (by rw [HNB.out]; have := set3 HGBR.out (.int .i64 (lk : Int)) (.int .i64 ((i : Int) - (q : Int))) (.int .u8 0); rw [show ((i : Int) - (q : Int)) = ((i - q : Nat) : Int) from by omega] at this ⊢; exact this), Lib.hid ((heap3 (by omega) _ _ _).trans HR.out), Lib.hid (bdrewN (below3 (R := w.heap.size + 1) HBB.out (by omega) _ _ _) _)⟩
                  case measure => simp [intOf]; omega
                · have hgi : (lk : Int) ≤ (l1 : Int) := by omega
                  have HNB := Lib.hid (show tokD b i (i - q) = tokD b i d by
                    refine tokD_congr ?_
                    have h1 := HSTEP.out
                    rwa [← HL1.out, ← HMS.out, ← HLKE.out, if_neg hgt] at h1)
                  go_wp2_with fail
                  go_roundw
                  case rel => exact ⟨i - q, _, by omega, by go_num, HZ2, Lib.hid (by rw [HNB.out]; exact HT.out), HR, Lib.hid (bdrewN HBB.out _)⟩
                  case measure => simp [intOf]; omega
              · have hne : ((u : Int) != (v : Int)) = true := by rw [bne_iff_ne]; omega
                have HNB := Lib.hid (tokD_congr (round_diff (b := b) (i := i) (d := d) (by omega) hpd (by rw [← HL1.out, ← hu, ← hv]; exact huv)))
                clear htd hl1 gBr hkr gA hz hq hpd hlb hcell hu hv hz' hpzq
                go_wp2_with fail
                go_quiet (fail)
                go_wp2_with fail
                go_roundw
                case rel => exact ⟨i - q, _, by omega, by go_num, HZ2, Lib.hid (by rw [HNB.out]; exact HT.out), HR, Lib.hid (bdrewN HBB.out _)⟩
                case measure => simp [intOf]; omega
end Go.Proofs.YtpbijdoemdoijaaGreatDoor
end PkCa3_0
section PkCa3_1
/- The tokens of bytes, walked. Written by gensqtok.py. -/
namespace Go.Proofs.YtpbijdoemdoijaaGreatDoor
open Go.RowKit
set_option linter.unusedVariables false

theorem tok_info : (Tryz.prog.info? 165).map (fun i => (i.zero, i.size, i.bytes)) = some (some (.agg #[.int .i64 0, .int .i64 0, .int .u8 0]), 3, 24) := by kernel_rfl
theorem int_info0 : (Tryz.prog.info? 3).map (fun i => (i.zero, i.size, i.bytes)) = some (some (.int .i64 0), 1, 8) := by kernel_rfl

/-- the cells of tokens -/
def tcs (l : List (Nat × Nat × Nat)) : List Value := l.flatMap fun t => (tc t).toList
theorem tcs_snoc (l : List (Nat × Nat × Nat)) (t : Nat × Nat × Nat) : tcs (l ++ [t]) = tcs l ++ (tc t).toList := by simp [tcs]
theorem tcs_length (l : List (Nat × Nat × Nat)) : (tcs l).length = l.length * 3 := by
  induction l with
  | nil => rfl
  | cons x r ih => simp only [tcs, List.flatMap_cons, List.length_append] at ih ⊢; rw [ih]; simp [tc]; omega

theorem tok_pos {b : List Nat} {p : Nat} (hp : p < b.length) : 1 ≤ max 1 (tokAt b p).1 ∧ p + max 1 (tokAt b p).1 ≤ b.length := by
  have h := bestD_le (b := b) (i := p) (d := min p 32768)
  rw [tokAt_eq, tokD_len]
  unfold most at h
  omega
theorem toksFrom_fuel {b : List Nat} : ∀ {f f' p : Nat}, b.length - p ≤ f → b.length - p ≤ f' → toksFrom b f p = toksFrom b f' p
  | 0, 0, p, _, _ => rfl
  | 0, f' + 1, p, h, _ => by simp only [toksFrom]; rw [if_neg (by omega)]
  | f + 1, 0, p, _, h => by simp only [toksFrom]; rw [if_neg (by omega)]
  | f + 1, f' + 1, p, h, h' => by
    simp only [toksFrom]
    split
    · rename_i hp
      have := tok_pos hp
      rw [toksFrom_fuel (f := f) (f' := f') (by omega) (by omega)]
    · rfl
theorem toks_next {b : List Nat} {p : Nat} (hp : p < b.length) : toksFrom b (b.length - p) p = tokAt b p :: toksFrom b (b.length - (p + max 1 (tokAt b p).1)) (p + max 1 (tokAt b p).1) := by
  have h1 := tok_pos hp
  rw [show b.length - p = (b.length - p - 1) + 1 from by omega]
  simp only [toksFrom]
  rw [if_pos hp]
  exact congrArg _ (toksFrom_fuel (by omega) (Nat.le_refl _))

theorem WinAt.keepB {w0 w w' : World} {W A M B : Nat} {a : Option Addr} {n c ac : Nat} {b : List Nat} {p : Nat} (h : WinAt w0 w W A M a n c ac b p) (hb : Below B w w') (h0 : w0.heap.size ≤ B) (hW : W < B) (hA : A < B) (hM : M < B) : WinAt w0 w' W A M a n c ac b p := by
  obtain ⟨cur, h1, h2, h3⟩ := h.ah
  exact ⟨h.by_, h.bel.trans (hb.mono h0), h.nW, h.nA, h.nM, h.wa, h.wm, h.am, (hb.block W hW).trans h.win, h.hac, ⟨cur, (hb.block A hA).trans h1, h2, h3⟩, h.map.same (hb.block M hM)⟩
theorem own_two {w w' : World} {base n A M : Nat} {e : TypeId} {size : Nat} {v : Value} {xs : List Value} (h : w.ownsRow base e size v n xs) (ht : Two A M w w') (hA : A < base) (hM : M < base) : w'.ownsRow base e size v n xs := by
  refine ⟨h.1, ?_⟩
  rcases h.2 with hn | ⟨g, cap, cur, rfl, hb, hgg, rest⟩
  · exact .inl hn
  · exact .inr ⟨g, cap, cur, rfl, hb, (ht.block g (Array.getElem?_eq_some_iff.1 hgg).1 (by omega) (by omega)).trans hgg, rest⟩
theorem own_block {w : World} {base n : Nat} {e : TypeId} {size : Nat} {v : Value} {xs : List Value} (h : w.ownsRow base e size v n xs) : ∀ k, v.ownBlock = some k → base ≤ k := by
  rcases h.2 with ⟨rfl, _⟩ | ⟨g, cap, cur, rfl, hb, _⟩
  · intro k hk; simp [Value.ownBlock] at hk
  · intro k hk; simp [Value.ownBlock] at hk; omega
theorem Two.toBelow {A M B : Nat} {w w' : World} (h : Two A M w w') (hA : B ≤ A) (hM : B ≤ M) (hs : B ≤ w.heap.size) : Below B w w' := h.old (Below.refl B w) hA hM hs

theorem pass_at {w0 w : World} {W A M : Nat} {a : Option Addr} {n c ac : Nat} {b : List Nat} {p : Nat} (h : WinAt w0 w W A M a n c ac b p) (hp : p < n) :
    Calls Tryz.prog 141 #[.pointer (some ⟨W, 0, none⟩), .int .i64 (p : Int)] w fun e w' => e = .returned (.tuple #[]) ∧ WinAt w0 w' W A M a n c ac b (p + 1) ∧ Two A M w w' := by
  by_cases h3 : p + 3 ≤ n
  · exact pass_any h h3
  · exact pass_over h hp (by omega)
theorem tc_src (w : World) (t : Nat × Nat × Nat) (ty : TypeId) : ∀ j u, (tc t).toList[j]? = some u → (w.alloc (.cells (tc t) ty)).cell? ((⟨w.heap.size, 0, none⟩ : Addr).add j) = some u := by
  intro j u hj
  have h4 : (⟨w.heap.size, 0, none⟩ : Addr).add j = ⟨w.heap.size, 0 + j, none⟩ := by unfold Addr.add; split <;> simp_all
  rw [h4, Nat.zero_add]
  refine cell_of (heap_alloc_new w _) (u := u) ?_
  rw [← Array.getElem?_toList]
  exact hj
theorem tc_one (t : Nat × Nat × Nat) : ∀ u ∈ (tc t).toList, u.oneCell' = true := by
  intro u hu
  simp [tc] at hu
  rcases hu with rfl | rfl | rfl <;> rfl

theorem own_lt {w : World} {base n : Nat} {e : TypeId} {size : Nat} {v : Value} {xs : List Value} (h : w.ownsRow base e size v n xs) : ∀ k, v.ownBlock = some k → k < w.heap.size := by
  rcases h.2 with ⟨rfl, _⟩ | ⟨g, cap, cur, rfl, hb, hh, _⟩
  · intro k hk; simp [Value.ownBlock] at hk
  · intro k hk; simp [Value.ownBlock] at hk; subst hk; exact (Array.getElem?_eq_some_iff.1 hh).1
set_option maxRecDepth 100000 in
set_option maxHeartbeats 1000000 in
theorem tokens_long {w : World} {a : Option Addr} {n c : Nat} (hn : 65536 < n) :
    Calls Tryz.prog 102 #[.slice a n c] w fun e w' => e = .returned (.tuple #[.slice none 0 0, .int .i64 5]) ∧ Below w.heap.size w w' := by
  have hni : (65536 : Int) < (n : Int) := by omega
  go_enter Tryz.func102, Tryz.ntmps102
  go_wp2_with fail
  first | go_ret2 | go_ret
  exact ⟨rfl, Below.refl _ _⟩

set_option maxRecDepth 100000 in
set_option maxHeartbeats 4000000 in
theorem tokens_any {w : World} {a : Option Addr} {n c : Nat} {b : List Nat} (h : BytesAt w a n c b) (hn : n ≤ 65536) :
    Calls Tryz.prog 102 #[.slice a n c] w fun e w' => ∃ v, e = .returned (.tuple #[v, .int .i64 0]) ∧ w'.ownsRow w.heap.size 165 3 v (toks b).length (tcs (toks b)) ∧ Below w.heap.size w w' := by
  obtain ⟨i0, hi, hz0, hz1, hz2⟩ := info_parts tok_info
  have hcap := h.cap
  have hcm := h.capm
  have hlen := h.len
  obtain ⟨w1, hw1⟩ : ∃ w1, w1 = w.alloc (.map #[] 0) := ⟨_, rfl⟩
  have b1 : Below w.heap.size w w1 := by rw [hw1]; exact (Below.refl _ _).alloc (Nat.le_refl _) _
  have s1 : w1.heap.size = w.heap.size + 1 := by rw [hw1]; show (w.heap.push _).size = _; exact Array.size_push ..
  have hmk := run_make_row' (P := Tryz.prog) 77 3 (.int .i64 0) 8 Tryz.underlying77 int_info0 rfl .i64 .i64 n (by omega) (by omega) w1
  obtain ⟨w2, hw2⟩ : ∃ w2, w2 = w1.alloc (.cells (madeCells #[.int .i64 0] n) 3) := ⟨_, rfl⟩
  have b2 : Below w1.heap.size w1 w2 := by rw [hw2]; exact (Below.refl _ _).alloc (Nat.le_refl _) _
  have s2 : w2.heap.size = w1.heap.size + 1 := by rw [hw2]; show (w1.heap.push _).size = _; exact Array.size_push ..
  obtain ⟨w3, hw3⟩ : ∃ w3, w3 = w2.alloc (.cells #[.slice a n c, .map (some w.heap.size), .slice (some ⟨w1.heap.size, 0, none⟩) n n] 164) := ⟨_, rfl⟩
  have b3 : Below w2.heap.size w2 w3 := by rw [hw3]; exact (Below.refl _ _).alloc (Nat.le_refl _) _
  have s3 : w3.heap.size = w2.heap.size + 1 := by rw [hw3]; show (w2.heap.push _).size = _; exact Array.size_push ..
  have hb3 : Below w.heap.size w w3 := b1.trans ((b2.mono (by omega)).trans (b3.mono (by omega)))
  have hmm := MapIs.made w
  rw [← hw1] at hmm
  have hmade : ∀ i, i < n → ∃ z : Int, (madeCells #[.int .i64 0] n)[i]? = some (.int .i64 z) := fun i hi => ⟨0, by simp [madeCells, hi, Nat.mod_one]⟩
  have hwin : WinAt w w3 w2.heap.size w1.heap.size w.heap.size a n c n b 0 :=
    ⟨h, hb3, by omega, by omega, Nat.le_refl _, by omega, by omega, by omega, by rw [hw3]; exact heap_alloc_new _ _, ⟨Nat.le_refl _, by omega⟩, ⟨_, (b3.block _ (by omega)).trans (by rw [hw2]; exact heap_alloc_new _ _), hmade, fun i h0 => absurd h0 (Nat.not_lt_zero _)⟩, (hmm.same ((b3.block _ (by omega)).trans (b2.block _ (by omega)))).congr (fun k => rfl)⟩
  obtain ⟨W, hW⟩ : ∃ W, W = w2.heap.size := ⟨_, rfl⟩
  obtain ⟨A, hA⟩ : ∃ A, A = w1.heap.size := ⟨_, rfl⟩
  obtain ⟨M, hM⟩ : ∃ M, M = w.heap.size := ⟨_, rfl⟩
  have hmap := @run_makeMap Tryz.prog
  have HMK := Lib.hid hmk
  have HW1 := Lib.hid hw1
  have HW2 := Lib.hid hw2
  have HW3 := Lib.hid (show w3 = w2.alloc (.cells #[.slice a n c, .map (some w.heap.size), .slice (some ⟨w.heap.size + 1, 0, none⟩) n n] 164) from by rw [hw3, s1])
  have HWIN := Lib.hid hwin
  have HB3 := Lib.hid hb3
  have HH := Lib.hid h
  have hni : (n : Int) ≤ 65536 := by omega
  have HSZ := Lib.hid (show W = M + 2 ∧ A = M + 1 ∧ w3.heap.size = M + 3 from ⟨by omega, by omega, by omega⟩)
  rw [hw2.symm, hw1] at hmk
  clear h hwin hb3 b1 b2 b3 hmm hmade
  go_enter Tryz.func102, Tryz.ntmps102
  go_wp2_with fail
  have HWE := Lib.hid (show w.heap.size + 1 + 1 = W from by have := HSZ.out; omega)
  rw [← HW1.out, ← HW2.out, ← HW3.out, HWE.out]
  clear hmk hmap
  have hWM : M < A ∧ A < W ∧ W < M + 3 := by have := HSZ.out; omega
  have hs3 : M + 3 ≤ w3.heap.size := by have := HSZ.out; omega
  rw [← hA, ← hM, ← hW] at HWIN
  have HME := Lib.hid hM
  clear hW hA hM s1 s2 s3
  have hown0 : w3.ownsRow (M + 3) 165 3 (.slice none 0 0) 0 (tcs []) := ⟨rfl, .inl ⟨rfl, rfl⟩⟩
  go_loopw [5, 6] (fun s5 s6 wr => ∃ (p : Nat) (l : List (Nat × Nat × Nat)), p ≤ n ∧ s6 = .int .i64 p ∧ l.length ≤ p ∧ Hid (wr.ownsRow (M + 3) 165 3 s5 l.length (tcs l)) ∧ Hid (l ++ toksFrom b (n - p) p = toks b) ∧ Hid (WinAt w wr W A M a n c n b p) ∧ w3.heap.size ≤ wr.heap.size) (fun _ s6 _ => n - (intOf s6).toNat)
  case atStart => exact ⟨0, [], by omega, rfl, by simp, Lib.hid hown0, Lib.hid (by rw [Nat.sub_zero, toks, hlen]; rfl), HWIN, Nat.le_refl _⟩
  case round =>
    obtain ⟨p, l, hp, rfl, hlp, HO, HL, HK, hsz⟩ := hrel
    rename World => wr
    by_cases hpn : p < n
    · have hpi : (p : Int) < (n : Int) := by omega
      obtain ⟨⟨t1, t2, t3⟩, ht⟩ : ∃ t, t = tokAt b p := ⟨_, rfl⟩
      have HT := Lib.hid ht
      have hpos := tok_pos (b := b) (p := p) (by omega)
      rw [← ht] at hpos
      have HLG := Lib.hid (by have := longest_any HK.out (i := p) hpn; rw [← ht] at this; exact this)
      clear ht
      obtain ⟨sz, hsz2⟩ : ∃ sz, sz = max 1 t1 := ⟨_, rfl⟩
      rw [← hsz2] at hpos
      have HSS := Lib.hid hsz2
      have hszi : max 1 (t1 : Int) = (sz : Int) := by omega
      clear hsz2
      go_wp2_with fail
      try rw [HWE.out]
      refine HLG.out.mono ?_
      rintro e wa ⟨rfl, hba⟩
      obtain ⟨wb, hwb⟩ : ∃ wb, wb = wa.alloc (.cells #[.int .i64 (t1 : Int), .int .i64 (t2 : Int), .int .u8 (t3 : Int)] 165) := ⟨_, rfl⟩
      have hbb : Below wr.heap.size wr wb := by rw [hwb]; exact hba.alloc hba.size _
      have hsa := hba.size
      have hsb := hbb.size
      obtain ⟨T, hT⟩ : ∃ T, T = wa.heap.size := ⟨_, rfl⟩
      have gT : wb.heap[T]? = some (.cells #[.int .i64 (t1 : Int), .int .i64 (t2 : Int), .int .u8 (t3 : Int)] 165 (0, 0)) := by rw [hwb, hT]; exact heap_alloc_new _ _
      have lT := (Array.getElem?_eq_some_iff.1 gT).1
      have m0 := cell_of gT (i := 0) (u := .int .i64 (t1 : Int)) rfl
      have HGT := Lib.hid gT
      have HWB := Lib.hid hwb
      have HKB := Lib.hid (HK.out.keep hbb)
      have HOB := Lib.hid (own_below HO.out hbb)
      have hTge : M + 3 ≤ T := by omega
      have HTT := Lib.hid hT
      clear hbb hba gT hwb hT
      unfold tc
      go_wp2_with fail
      rw [← HTT.out, ← HWB.out]
      go_loopw [31] (fun s31 wx => ∃ k : Nat, k ≤ sz ∧ s31 = .int .i64 k ∧ Hid (WinAt w wx W A M a n c n b (p + k)) ∧ Hid (Two A M wb wx)) (fun s31 _ => sz - (intOf s31).toNat)
      case atStart => exact ⟨0, by omega, rfl, HKB, Lib.hid (Two.refl A M wb)⟩
      case round =>
        obtain ⟨k, hk, rfl, HKX, HTX⟩ := hrel
        rename World => wx
        by_cases hks : k < sz
        · have hki : (k : Int) < (sz : Int) := by omega
          have HPA := Lib.hid (by have := pass_at HKX.out (p := p + k) (by omega); rw [show ((p + k : Nat) : Int) = (p : Int) + (k : Int) from by omega] at this; exact this)
          go_wp2_with fail
          try rw [HWE.out]
          refine HPA.out.mono ?_
          rintro e wy ⟨rfl, hky, hty⟩
          have HKY := Lib.hid hky
          have HTY := Lib.hid (HTX.out.trans hty)
          clear hky hty
          go_wp2_with fail
          go_roundw
          case rel => exact ⟨k + 1, by omega, by go_num, HKY, HTY⟩
          case measure => simp [intOf]; omega
        · obtain rfl : k = sz := by omega
          have gx : wx.heap[T]? = some (.cells #[.int .i64 (t1 : Int), .int .i64 (t2 : Int), .int .u8 (t3 : Int)] 165 (0, 0)) := (HTX.out.block T lT (by omega) (by omega)).trans HGT.out
          have x0 := cell_of gx (i := 0) (u := .int .i64 (t1 : Int)) rfl
          have x1 := cell_of gx (i := 1) (u := .int .i64 (t2 : Int)) rfl
          have x2 := cell_of gx (i := 2) (u := .int .u8 (t3 : Int)) rfl
          have hox := own_two HOB.out HTX.out (by omega) (by omega)
          have hsx := HTX.out.size
          have hbz : Below wx.heap.size wx (wx.alloc (.cells #[.int .i64 (t1 : Int), .int .i64 (t2 : Int), .int .u8 (t3 : Int)] 165)) := (Below.refl _ _).alloc (Nat.le_refl _) _
          have hzs : wx.heap.size ≤ (wx.alloc (.cells #[.int .i64 (t1 : Int), .int .i64 (t2 : Int), .int .u8 (t3 : Int)] 165)).heap.size := hbz.size
          have HOZ := Lib.hid (show (wx.alloc (.cells #[.int .i64 (t1 : Int), .int .i64 (t2 : Int), .int .u8 (t3 : Int)] 165)).ownsRow (M + 3) 165 3 u5 l.length (tcs l) from own_below hox hbz)
          have HKZ := Lib.hid (show WinAt w (wx.alloc (.cells #[.int .i64 (t1 : Int), .int .i64 (t2 : Int), .int .u8 (t3 : Int)] 165)) W A M a n c n b (p + k) from HKX.out.keep hbz)
          have HSRC := Lib.hid (show ∀ j u, (tc (t1, t2, t3)).toList[j]? = some u → (wx.alloc (.cells #[.int .i64 (t1 : Int), .int .i64 (t2 : Int), .int .u8 (t3 : Int)] 165)).cell? ((⟨wx.heap.size, 0, none⟩ : Addr).add j) = some u from tc_src wx (t1, t2, t3) _)
          have HZS := Lib.hid (show M + 3 ≤ (wx.alloc (.cells #[.int .i64 (t1 : Int), .int .i64 (t2 : Int), .int .u8 (t3 : Int)] 165)).heap.size from by omega)
          have HZS2 := Lib.hid (Nat.le_trans (show w3.heap.size ≤ wx.heap.size from by omega) hzs)
          have HLL := Lib.hid (show (l ++ [(t1, t2, t3)]) ++ toksFrom b (n - (p + k)) (p + k) = toks b by
            have h1 := toks_next (b := b) (p := p) (by omega)
            rw [← HT.out, hlen] at h1
            have h2 := HSS.out
            simp only at h1
            rw [← h2] at h1
            rw [← HL.out, h1, List.append_assoc]
            rfl)
          clear gx hbz hox hzs
          go_wp2_with (at_builtin; refine wpList_append_own_at _ rfl (.tmp 43) (.tmp 45) 116 rfl (M + 3) 165 i0 _ 3 24 Tryz.underlying116 hi hz0 hz1 hz2 rfl (by decide) _ _ _ rfl HOZ.out ⟨wx.heap.size, 0, none⟩ 1 1 (tc (t1, t2, t3)).toList rfl rfl HSRC.out (tc_one _) (by unfold maxLen; omega) (by omega) HZS.out ?_)
          intro v' w5 ho5 hg5 _ hat5
          have HK5 := Lib.hid (HKZ.out.keepB (B := M + 3) ((Below.refl _ _).grown hg5 HZS.out (own_block HOZ.out)) (by rw [← HME.out]; omega) (by omega) (by omega) (by omega))
          have HO5 := Lib.hid (show w5.ownsRow (M + 3) 165 3 v' (l ++ [(t1, t2, t3)]).length (tcs (l ++ [(t1, t2, t3)])) from by rw [tcs_snoc, List.length_append]; exact ho5)
          have hs5 := hg5.size
          have HS5 := Lib.hid (show w3.heap.size ≤ w5.heap.size from Nat.le_trans HZS2.out hs5)
          clear ho5 hg5 hat5 hs5
          go_wp2_with fail
          go_roundw
          case rel => exact ⟨p + k, _, by omega, by go_num, by simp; omega, HO5, HLL, HK5, HS5.out⟩
          case measure => simp [intOf]; omega
    · have hpn' : p = n := by omega
      subst hpn'
      have hLL := HL.out
      rw [Nat.sub_self, toksFrom, List.append_nil] at hLL
      have HLL := Lib.hid hLL
      clear hLL
      have hni2 : ¬ ((p : Int) < (p : Int)) := by omega
      go_wp2_with fail
      first | go_ret2 | go_ret
      have hM := HME.out
      have hBB : Below w.heap.size w wr := HK.out.bel
      refine ⟨_, rfl, ?_, hBB⟩
      rw [← HLL.out]
      have ho := HO.out
      refine ⟨ho.1, ?_⟩
      rcases ho.2 with h0 | ⟨g, cap, cur, e1, e2, e3⟩
      · exact .inl h0
      · exact .inr ⟨g, cap, cur, e1, by omega, e3⟩
end Go.Proofs.YtpbijdoemdoijaaGreatDoor
end PkCa3_1
section PkCa3_2
/- Plain facts on bits out of bytes. No Go in sight. -/
namespace Go.Proofs.YtpbijdoemdoijaaGreatDoor.BitsPlain
open Go

/-- the bit at a place -/
def bitAt (xs : List Nat) (p : Nat) : Nat := xs.getD (p / 8) 0 / 2 ^ (p % 8) % 2
theorem bitAt_lt (xs : List Nat) (p : Nat) : bitAt xs p < 2 := Nat.mod_lt _ (by omega)

/-- the number of the next n bits -/
def num (xs : List Nat) (p : Nat) : Nat → Nat
  | 0 => 0
  | n + 1 => num xs p n + bitAt xs (p + n) * 2 ^ n
theorem num_lt (xs : List Nat) (p : Nat) : ∀ n, num xs p n < 2 ^ n
  | 0 => by simp [num]
  | n + 1 => by
    have h := num_lt xs p n
    have h1 := bitAt_lt xs (p + n)
    have h2 : bitAt xs (p + n) * 2 ^ n ≤ 1 * 2 ^ n := Nat.mul_le_mul_right _ (by omega)
    have h3 : (2 : Nat) ^ (n + 1) = 2 ^ n * 2 := Nat.pow_succ ..
    simp only [num]
    omega
theorem num_one (xs : List Nat) (p : Nat) : num xs p 1 = bitAt xs p := by simp [num]

theorem pow32 {i : Nat} (h : i < 32) : (2 : Nat) ^ i ≤ 2147483648 := by
  have h1 : (2 : Nat) ^ i ≤ 2 ^ 31 := Nat.pow_le_pow_right (by omega) (by omega)
  have h2 : (2 : Nat) ^ 31 = 2147483648 := by decide
  omega

theorem and_one_u32 (x : Nat) (h : x < 4294967296) : bits .and .u32 (x : Int) 1 = ((x % 2 : Nat) : Int) := by
  have := u32_and_nat x 1 h (by omega)
  rw [nat_mask1] at this
  exact this

theorem or_bit {V i b : Nat} (hV : V < 2 ^ i) (hi : i < 32) (hb : b < 2) : bits .or .u32 (V : Int) (IntKind.u32.wrap ((b : Int) * 2 ^ i)) = ((V + b * 2 ^ i : Nat) : Int) := by
  have hp := pow32 hi
  have h1 : b * 2 ^ i ≤ 1 * 2 ^ i := Nat.mul_le_mul_right _ (by omega)
  have e1 : (b : Int) * 2 ^ i = ((b * 2 ^ i : Nat) : Int) := by push_cast; rfl
  rw [e1, IntKind.wrap_u32', show ((b * 2 ^ i : Nat) : Int) % 4294967296 = ((b * 2 ^ i : Nat) : Int) from by omega, u32_or_nat V (b * 2 ^ i) (by omega) (by omega), Nat.or_comm, nat_join i (b * 2 ^ i) V (Nat.mul_mod_left _ _) hV, Nat.add_comm]

theorem bit_step {V i x s : Nat} (hV : V < 2 ^ i) (hi : i < 32) (hx : x < 256) :
    bits .or .u32 (V : Int) (bits .and .u32 ((x : Int) / 2 ^ s) 1 * 2 ^ i % 4294967296) = ((V + x / 2 ^ s % 2 * 2 ^ i : Nat) : Int) := by
  have e1 : (x : Int) / 2 ^ s = ((x / 2 ^ s : Nat) : Int) := by push_cast; rfl
  have h1 : x / 2 ^ s ≤ x := Nat.div_le_self _ _
  rw [e1, and_one_u32 _ (by omega), ← IntKind.wrap_u32', or_bit hV hi (Nat.mod_lt _ (by omega))]
end Go.Proofs.YtpbijdoemdoijaaGreatDoor.BitsPlain
end PkCa3_2
