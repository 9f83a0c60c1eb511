/- The token of a place, walked. -/
import Derived.Test.YteggmbfhfoijoaaDoorSqWin
namespace Go.Proofs.YteggmbfhfoijoaaDoor
open Go.RowKit
set_option linter.unusedVariables false

/-- the token of a place, of the distances 1 to d -/
def tokD (b : List Nat) (i d : Nat) : Nat × Nat × Nat := if (bestD b i d).1 = 0 then (0, 0, b.getD i 0) else ((bestD b i d).1, (bestD b i d).2, 0)
theorem tokAt_eq (b : List Nat) (i : Nat) : tokAt b i = tokD b i (min i 32768) := rfl
theorem tokD_len (b : List Nat) (i d : Nat) : (tokD b i d).1 = (bestD b i d).1 := by
  unfold tokD
  split
  · rename_i h; exact h.symm
  · rfl
theorem tokD_congr {b : List Nat} {i d e : Nat} (h : bestD b i d = bestD b i e) : tokD b i d = tokD b i e := by unfold tokD; rw [h]
theorem tokD_zero (b : List Nat) (i : Nat) : tokD b i 0 = (0, 0, b.getD i 0) := rfl
def tc (t : Nat × Nat × Nat) : Array Value := #[.int .i64 (t.1 : Int), .int .i64 (t.2.1 : Int), .int .u8 (t.2.2 : Int)]

/-- too few bytes: the byte -/
theorem tokAt_few {b : List Nat} {i : Nat} (h : b.length < i + 3) : tokAt b i = (0, 0, b.getD i 0) := by
  have hm : most b i < 3 := by unfold most; omega
  rw [tokAt_eq, tokD_congr (e := 0), tokD_zero]
  have := @bestD_skip b i 0 (min i 32768) (fun t _ _ h3 => by have := @like_le b (most b i) (i - t) i; omega)
  rwa [Nat.zero_add] at this
/-- no place between tells three bytes -/
theorem skip_to {b : List Nat} {i d e : Nat} (hi : i + 3 ≤ b.length) (hde : d ≤ e) (hei : e ≤ i) (h : ∀ j, i - e ≤ j → j < i - d → k3 b j ≠ k3 b i) : bestD b i e = bestD b i d := by
  have := @bestD_skip b i d (e - d) (fun t h1 h2 h3 => h (i - t) (by omega) (by omega) ((like_three hi).1 h3))
  rwa [show d + (e - d) = e from by omega] at this
theorem end_none {b : List Nat} {i d : Nat} (hi : i + 3 ≤ b.length) (hd : d ≤ min i 32768) (h : prev b (k3 b i) (i - d) = none) : tokD b i d = tokAt b i := by
  rw [tokAt_eq]
  refine (tokD_congr (skip_to hi hd (by omega) (fun j h1 h2 he => ?_))).symm
  obtain ⟨q, hq, _⟩ := prev_last h2 (by omega) he
  rw [h] at hq; cases hq
theorem end_far {b : List Nat} {i d q : Nat} (hi : i + 3 ≤ b.length) (hd : d ≤ min i 32768) (h : prev b (k3 b i) (i - d) = some q) (hf : 32768 < i - q) : tokD b i d = tokAt b i := by
  rw [tokAt_eq]
  refine (tokD_congr (skip_to hi hd (by omega) (fun j h1 h2 he => ?_))).symm
  obtain ⟨q', hq, hle⟩ := prev_last h2 (by omega) he
  rw [h] at hq; cases hq
  omega
theorem end_full {b : List Nat} {i d : Nat} (hd : d ≤ min i 32768) (h : most b i ≤ (bestD b i d).1) : tokD b i d = tokAt b i := by
  rw [tokAt_eq]
  have hf : (bestD b i d).1 = most b i := Nat.le_antisymm bestD_le h
  have := @bestD_full b i d hf (min i 32768 - d)
  rw [show d + (min i 32768 - d) = min i 32768 from by omega] at this
  exact (tokD_congr this).symm
/-- a round: the place before -/
theorem round_step {b : List Nat} {i d q : Nat} (hi : i + 3 ≤ b.length) (h : prev b (k3 b i) (i - d) = some q) :
    bestD b i (i - q) = if (bestD b i d).1 < like b q i (most b i) then (like b q i (most b i), i - q) else bestD b i d := by
  obtain ⟨h1, h2, h3⟩ := prev_lt h
  have hs : bestD b i (i - q - 1) = bestD b i d := skip_to hi (by omega) (by omega) (fun j g1 g2 he => by
    obtain ⟨q', hq, hle⟩ := prev_last g2 (by omega) he
    rw [h] at hq; cases hq
    omega)
  have h5 : 3 ≤ like b q i (most b i) := (like_three hi).2 h3
  have := bestD_step b i (i - q - 1)
  rw [hs, show i - q - 1 + 1 = i - q from by omega, show i - (i - q) = q from by omega] at this
  rw [this]
  by_cases hc : (bestD b i d).1 < like b q i (most b i)
  · rw [if_pos ⟨h5, hc⟩, if_pos hc]
  · rw [if_neg (fun h => hc h.2), if_neg hc]
theorem round_diff {b : List Nat} {i d q : Nat} (hi : i + 3 ≤ b.length) (h : prev b (k3 b i) (i - d) = some q) (hd : b.getD (q + (bestD b i d).1) 0 ≠ b.getD (i + (bestD b i d).1) 0) : bestD b i (i - q) = bestD b i d := by
  rw [round_step hi h, if_neg]
  intro hc
  exact hd (like_eq hc)

theorem set3 {v : World} {R : Nat} {c0 c1 c2 : Value} {t : TypeId} (g : v.heap[R]? = some (.cells #[c0, c1, c2] t (0, 0))) (x y z : Value) : (((v.setCell ⟨R, 0, none⟩ x).setCell ⟨R, 1, none⟩ y).setCell ⟨R, 2, none⟩ z).heap[R]? = some (.cells #[x, y, z] t (0, 0)) :=
  heap_set2 (heap_set2 (heap_set2 g 0 x) 1 y) 2 z
theorem below3 {B R : Nat} {w v : World} (h : Below B w v) (hR : B ≤ R) (x y z : Value) : Below B w (((v.setCell ⟨R, 0, none⟩ x).setCell ⟨R, 1, none⟩ y).setCell ⟨R, 2, none⟩ z) :=
  ((h.setCell (p := ⟨R, 0, none⟩) hR x).setCell (p := ⟨R, 1, none⟩) hR y).setCell (p := ⟨R, 2, none⟩) hR z

theorem heap3 {v : World} {R k : Nat} (hk : k ≠ R) (x y z : Value) : (((v.setCell ⟨R, 0, none⟩ x).setCell ⟨R, 1, none⟩ y).setCell ⟨R, 2, none⟩ z).heap[k]? = v.heap[k]? :=
  (Below.heap_setCell _ _ _ _ hk).trans ((Below.heap_setCell _ _ _ _ hk).trans (Below.heap_setCell _ _ _ _ hk))
theorem bdrewN {B : Nat} {a w : World} (h : Below B a w) (q : Nat) : Below B a (w.drewN q) := ⟨h.os, h.tape, h.output, h.size, h.block⟩
/-- the next place to be tried, behind the distances 1 to d (none: -1) -/
def pv (b : List Nat) (i d : Nat) : Int := match prev b (k3 b i) (i - d) with | none => -1 | some q => (q : Int)

set_option maxRecDepth 100000 in
set_option maxHeartbeats 4000000 in
theorem longest_any {w0 w : World} {W A M : Nat} {a : Option Addr} {n c ac : Nat} {b : List Nat} {i : Nat} (h : WinAt w0 w W A M a n c ac b i) (hi : i < n) :
    Calls Tryd.prog 60 #[.pointer (some ⟨W, 0, none⟩), .int .i64 (i : Int)] w fun e w' => e = .returned (.agg (tc (tokAt b i))) ∧ Below w.heap.size w w' := by
  have lW := (Array.getElem?_eq_some_iff.1 h.win).1
  have c0 := cell_of h.win (i := 0) (u := .slice a n c) rfl
  have c1 := cell_of h.win (i := 1) (u := .map (some M)) rfl
  have hr := h.by_.reach
  have hlen := h.by_.len
  have hcap := h.by_.cap
  have hcm := h.by_.capm
  obtain ⟨g, off, rfl, hlt, hcell⟩ := bytes_at h.bytes (i := i) hi
  have x0 := hcell i hi
  obtain ⟨y, hy⟩ : ∃ y, y = b.getD i 0 := ⟨_, rfl⟩
  rw [← hy] at x0
  have HY := Lib.hid hy
  have HH := Lib.hid h
  have hin : (i : Int) < (n : Int) := by omega
  have hac := h.hac
  clear h hcell hy
  go_enter Tryd.func60, Tryd.ntmps60
  go_wp2_with fail
  obtain ⟨w2, hw2⟩ : ∃ w2, w2 = (w.alloc (.cells #[.int .i64 0, .int .i64 0, .int .u8 0] 108)).alloc (.cells #[.int .i64 0, .int .i64 0, .int .u8 (y : Int)] 108) := ⟨_, rfl⟩
  rw [← hw2]
  have hs1 : (w.alloc (.cells #[.int .i64 0, .int .i64 0, .int .u8 0] 108)).heap.size = w.heap.size + 1 := by show (w.heap.push _).size = _; exact Array.size_push ..
  have hb2 : Below w.heap.size w w2 := by rw [hw2]; exact ((Below.refl _ _).alloc (Nat.le_refl _) _).alloc (by omega) _
  have gB : w2.heap[w.heap.size + 1]? = some (.cells #[.int .i64 0, .int .i64 0, .int .u8 (y : Int)] 108 (0, 0)) := by rw [hw2, ← hs1]; exact heap_alloc_new _ _
  have gR : w2.heap[w.heap.size]? = some (.cells #[.int .i64 0, .int .i64 0, .int .u8 0] 108 (0, 0)) := by
    rw [hw2, heap_alloc_old _ _ (by omega)]; exact heap_alloc_new _ _
  have hk2 := HH.out.keep hb2
  have lB := (Array.getElem?_eq_some_iff.1 gB).1
  have lW2 := (Array.getElem?_eq_some_iff.1 hk2.win).1
  have c02 := cell_of hk2.win (i := 0) (u := .slice (some ⟨g, off, none⟩) n c) rfl
  clear hw2 c0 c1 x0
  by_cases hf : n < i + 3
  · refine (three_no c02 hr (i := i) (by omega) hf lW2).mono ?_
    rintro e w3 ⟨rfl, hb3⟩
    have gB3 := (hb3.block _ lB).trans gB
    have gR3 := (hb3.block _ (by omega)).trans gR
    have m0 := cell_of gB3 (i := 0) (u := .int .i64 0) rfl
    have m1 := cell_of gB3 (i := 1) (u := .int .i64 0) rfl
    have m2 := cell_of gB3 (i := 2) (u := .int .u8 (y : Int)) rfl
    have r0 := cell_of gR3 (i := 0) (u := .int .i64 0) rfl
    have r1 := cell_of gR3 (i := 1) (u := .int .i64 0) rfl
    have r2 := cell_of gR3 (i := 2) (u := .int .u8 0) rfl
    have q0 := fro_of gR3 0
    have q1 := fro_of gR3 1
    have q2 := fro_of gR3 2
    have lB3 := (Array.getElem?_eq_some_iff.1 gB3).1
    have lR3 : w.heap.size < w3.heap.size := by omega
    have HB3 := Lib.hid (hb2.trans (hb3.mono hb2.size))
    have HGR := Lib.hid gR3
    clear gB3 gR3 hb3 hk2 gB gR hb2 hs1
    have HTF := Lib.hid (tokAt_few (b := b) (i := i) (by omega))
    go_wp2_with fail
    refine bodyPost_ret (results_cell_row rfl _ _ w.heap.size 108 #[.int .i64 0, .int .i64 0, .int .u8 (y : Int)] _ _ rfl ((heap_alloc_old _ _ (by simp only [World.setCell, Array.size_modify]; omega)).trans (set3 HGR.out _ _ _)) Tryd.underlying108 rfl (by kernel_rfl)) rfl ?_
    rw [HTF.out, ← HY.out]
    exact ⟨rfl, (below3 HB3.out (Nat.le_refl _) _ _ _).alloc (by simp only [World.setCell, Array.size_modify]; omega) _⟩
  · have hi3 : i + 3 ≤ n := by omega
    refine (three_yes c02 hk2.bytes (i := i) hi3 lW2).mono ?_
    rintro e w3 ⟨rfl, hb3⟩
    have hk3 := hk2.keep hb3
    have hb3k := k3_B3 hk3.by_.byte i
    obtain ⟨⟨p0, p1, p2⟩, hkk⟩ : ∃ k, k = k3 b i := ⟨_, rfl⟩
    rw [← hkk] at hb3k
    rw [← hkk]
    obtain ⟨w4, hw4⟩ : ∃ w4, w4 = w3.alloc (.cells #[.int .u8 (p0 : Int), .int .u8 (p1 : Int), .int .u8 (p2 : Int)] 133) := ⟨_, rfl⟩
    have hb34 : Below w3.heap.size w3 w4 := by rw [hw4]; exact (Below.refl _ _).alloc (Nat.le_refl _) _
    have hk4 := hk3.keep hb34
    have hb4 : Below w.heap.size w w4 := hb2.trans ((hb3.mono hb2.size).trans (hb34.mono (Nat.le_trans hb2.size hb3.size)))
    have gB4 := (hb34.block _ (Nat.lt_of_lt_of_le lB hb3.size)).trans ((hb3.block _ lB).trans gB)
    have gR4 := (hb34.block w.heap.size (Nat.lt_of_lt_of_le (by omega) hb3.size)).trans ((hb3.block _ (by omega)).trans gR)
    have gK4 : w4.heap[w3.heap.size]? = some (.cells #[.int .u8 (p0 : Int), .int .u8 (p1 : Int), .int .u8 (p2 : Int)] 133 (0, 0)) := by rw [hw4]; exact heap_alloc_new _ _
    have e1 := cell_of hk4.win (i := 1) (u := .map (some M)) rfl
    have k0 := cell_of gK4 (i := 0) (u := .int .u8 (p0 : Int)) rfl
    have k1 := cell_of gK4 (i := 1) (u := .int .u8 (p1 : Int)) rfl
    have k2 := cell_of gK4 (i := 2) (u := .int .u8 (p2 : Int)) rfl
    have hlook := MapIs.look (w := w4.drew) (k := (p0, p1, p2)) (hk4.map.same rfl) hb3k
    unfold kv at hlook ⊢
    simp only at hlook
    have HW4 := Lib.hid hw4
    have HK4 := Lib.hid hk4
    have HB4 := Lib.hid hb4
    have HGB := Lib.hid gB4
    have HGR := Lib.hid gR4
    have HKK := Lib.hid hkk
    have lR4 := (Array.getElem?_eq_some_iff.1 gR4).1
    have lB4 := (Array.getElem?_eq_some_iff.1 gB4).1
    clear hw4 hk4 hb4 gB4 gR4 gK4 hb34 hk3 hb3 hb3k hk2 gB gR hb2 hs1 hkk c02
    go_wp2_with fail
    rw [← HW4.out]
    cases hpv : prev b (p0, p1, p2) i with
    | none =>
      rw [hpv] at hlook
      simp only [Option.getD_none, Option.isSome_none] at hlook
      have HTF := Lib.hid (end_none (b := b) (i := i) (d := 0) (by omega) (by omega) (by rw [Nat.sub_zero, ← HKK.out]; exact hpv))
      go_region
      have m0 := cell_of HGB.out (i := 0) (u := .int .i64 0) rfl
      have m1 := cell_of HGB.out (i := 1) (u := .int .i64 0) rfl
      have m2 := cell_of HGB.out (i := 2) (u := .int .u8 (y : Int)) rfl
      have r0 := cell_of HGR.out (i := 0) (u := .int .i64 0) rfl
      have r1 := cell_of HGR.out (i := 1) (u := .int .i64 0) rfl
      have r2 := cell_of HGR.out (i := 2) (u := .int .u8 0) rfl
      have q0 := fro_of HGR.out 0
      have q1 := fro_of HGR.out 1
      have q2 := fro_of HGR.out 2
      clear hlook
      go_wp2_with fail
      refine bodyPost_ret (results_cell_row rfl _ _ w.heap.size 108 #[.int .i64 0, .int .i64 0, .int .u8 (y : Int)] _ _ rfl (set3 HGR.out _ _ _) Tryd.underlying108 rfl (by kernel_rfl)) rfl ?_
      rw [← HTF.out, tokD_zero, ← HY.out]
      exact ⟨rfl, (below3 HB4.out (Nat.le_refl _) _ _ _).drew⟩
    | some q =>
      rw [hpv] at hlook
      simp only [Option.getD_some, Option.isSome_some] at hlook
      go_region
      have e0 := cell_of HK4.out.win (i := 0) (u := .slice (some ⟨g, off, none⟩) n c) rfl
      clear hlook e1 k0 k1 k2
      go_wp2_with fail
      have hmo : min 258 ((n : Int) - (i : Int)) = ((most b i : Nat) : Int) := by unfold most; rw [hlen]; omega
      rw [hmo]
      obtain ⟨ms, hms⟩ : ∃ ms, ms = most b i := ⟨_, rfl⟩
      have hms2 : ms = min 258 (n - i) := by rw [hms, most, hlen]
      rw [← hms]
      have HMS := Lib.hid hms
      have HM2 := Lib.hid hms2
      have hqi := (prev_lt hpv).1
      have HST := Lib.hid (show (q : Int) = pv b i 0 by unfold pv; rw [Nat.sub_zero, ← HKK.out, hpv])
      have hmsn : i + ms ≤ n := by omega
      clear hmo hms hms2 e0 hpv
      go_loopw [8] (fun s8 wr => ∃ (d : Nat) (z : Int), d ≤ min i 32768 ∧ s8 = .int .i64 z ∧ Hid (z = pv b i d) ∧ Hid (wr.heap[w.heap.size + 1]? = some (.cells (tc (tokD b i d)) 108 (0, 0))) ∧ Hid (wr.heap[w.heap.size]? = some (.cells #[.int .i64 0, .int .i64 0, .int .u8 0] 108 (0, 0))) ∧ Hid (Below w.heap.size w wr)) (fun s8 _ => (intOf s8 + 1).toNat)
      case atStart => exact ⟨0, _, by omega, rfl, HST, Lib.hid (by rw [tokD_zero, ← HY.out]; exact HGB.out), HGR, Lib.hid HB4.out.drew⟩
      case round =>
        obtain ⟨d, z, hd, rfl, HZ, HT, HR, HBB⟩ := hrel
        rename World => wr
        obtain ⟨⟨l1, l2, l3⟩, htd⟩ : ∃ t, t = tokD b i d := ⟨_, rfl⟩
        have hl1 : l1 = (bestD b i d).1 := by rw [← tokD_len, ← htd]
        have HTD := Lib.hid htd
        have HL1 := Lib.hid hl1
        have gBr := HT.out
        rw [← htd] at gBr
        have lBr := (Array.getElem?_eq_some_iff.1 gBr).1
        have hkr := HH.out.keep HBB.out
        obtain ⟨cur, gA, hz, hq⟩ := hkr.ah
        have e0 := cell_of hkr.win (i := 0) (u := .slice (some ⟨g, off, none⟩) n c) rfl
        have e2 := cell_of hkr.win (i := 2) (u := .slice (some ⟨A, 0, none⟩) n ac) rfl
        have m0 := cell_of gBr (i := 0) (u := .int .i64 (l1 : Int)) rfl
        have m1 := cell_of gBr (i := 1) (u := .int .i64 (l2 : Int)) rfl
        have m2 := cell_of gBr (i := 2) (u := .int .u8 (l3 : Int)) rfl
        have n0 := fro_of gBr 0
        have n1 := fro_of gBr 1
        have n2 := fro_of gBr 2
        have r0 := cell_of HR.out (i := 0) (u := .int .i64 0) rfl
        have r1 := cell_of HR.out (i := 1) (u := .int .i64 0) rfl
        have r2 := cell_of HR.out (i := 2) (u := .int .u8 0) rfl
        have q0 := fro_of HR.out 0
        have q1 := fro_of HR.out 1
        have q2 := fro_of HR.out 2
        have hlb := bestD_le (b := b) (i := i) (d := d)
        rw [← hl1, ← HMS.out] at hlb
        cases hpd : prev b (k3 b i) (i - d) with
        | none =>
          have HTF := Lib.hid (end_none (b := b) (i := i) (d := d) (by omega) hd hpd)
          obtain rfl : z = -1 := by rw [HZ.out, pv, hpd]
          clear htd hl1 gBr hkr gA hz hq hpd hlb
          go_wp2_with fail
          refine bodyPost_ret (results_cell_row rfl _ _ w.heap.size 108 #[.int .i64 (l1 : Int), .int .i64 (l2 : Int), .int .u8 (l3 : Int)] _ _ rfl (set3 HR.out _ _ _) Tryd.underlying108 rfl (by kernel_rfl)) rfl ?_
          rw [← HTF.out, ← HTD.out]
          exact ⟨rfl, below3 HBB.out (Nat.le_refl _) _ _ _⟩
        | some q =>
          obtain ⟨hq1, hq2, hq3⟩ := prev_lt hpd
          obtain rfl : z = (q : Int) := by rw [HZ.out, pv, hpd]
          by_cases hfar : 32768 < i - q
          · have HTF := Lib.hid (end_far (b := b) (i := i) (d := d) (by omega) hd hpd hfar)
            have hfi : decide ((i : Int) - (q : Int) ≤ 32768) = false := decide_eq_false (by omega)
            clear htd hl1 gBr hkr gA hz hq hpd hlb
            go_wp2_with fail
            refine bodyPost_ret (results_cell_row rfl _ _ w.heap.size 108 #[.int .i64 (l1 : Int), .int .i64 (l2 : Int), .int .u8 (l3 : Int)] _ _ rfl (set3 HR.out _ _ _) Tryd.underlying108 rfl (by kernel_rfl)) rfl ?_
            rw [← HTF.out, ← HTD.out]
            exact ⟨rfl, below3 HBB.out (Nat.le_refl _) _ _ _⟩
          · have hfi : (i : Int) - (q : Int) ≤ 32768 := by omega
            by_cases hfull : ms ≤ l1
            · have HTF := Lib.hid (end_full (b := b) (i := i) (d := d) hd (by rw [← HL1.out, ← HMS.out]; exact hfull))
              have hfu : (ms : Int) ≤ (l1 : Int) := by omega
              clear htd hl1 gBr hkr gA hz hq hpd hlb
              go_wp2_with fail
              refine bodyPost_ret (results_cell_row rfl _ _ w.heap.size 108 #[.int .i64 (l1 : Int), .int .i64 (l2 : Int), .int .u8 (l3 : Int)] _ _ rfl (set3 HR.out _ _ _) Tryd.underlying108 rfl (by kernel_rfl)) rfl ?_
              rw [← HTF.out, ← HTD.out]
              exact ⟨rfl, below3 HBB.out (Nat.le_refl _) _ _ _⟩
            · have hfu : (l1 : Int) < (ms : Int) := by omega
              obtain ⟨g', off', ha', hlt', hcell⟩ := bytes_at hkr.bytes (i := i) (by omega)
              simp only [Option.some.injEq, Addr.mk.injEq, and_true] at ha'
              obtain ⟨rfl, rfl⟩ := ha'
              have x1 := hcell (q + l1) (by omega)
              have x2 := hcell (i + l1) (by omega)
              obtain ⟨u, hu⟩ : ∃ u, u = b.getD (q + l1) 0 := ⟨_, rfl⟩
              obtain ⟨v, hv⟩ : ∃ v, v = b.getD (i + l1) 0 := ⟨_, rfl⟩
              rw [← hu] at x1
              rw [← hv] at x2
              have aq := cell_of gA (hq q (by omega) (by omega))
              have hpzq : pz b q = pv b i (i - q) := by unfold pz pv; rw [hq3, show i - (i - q) = q from by omega]; cases prev b (k3 b i) q <;> rfl
              obtain ⟨z', hz'⟩ : ∃ z', z' = pz b q := ⟨_, rfl⟩
              rw [← hz'] at aq hpzq
              have hzlt : -1 ≤ z' ∧ z' < (q : Int) := by
                rw [hz', pz]
                split
                · omega
                · rename_i q' hq'
                  have := (prev_lt hq').1
                  omega
              have HZ2 := Lib.hid hpzq
              have HSTEP := Lib.hid (round_step (b := b) (i := i) (d := d) (by omega) hpd)
              have HKR := Lib.hid hkr
              have HGBR := Lib.hid gBr
              have lR := (Array.getElem?_eq_some_iff.1 HR.out).1
              have lA := (Array.getElem?_eq_some_iff.1 gA).1
              have hAB : A ≠ w.heap.size + 1 := by have := (Array.getElem?_eq_some_iff.1 HH.out.ah.choose_spec.1).1; omega
              have hql : (q : Int) + (l1 : Int) < (n : Int) := by omega
              have hqn : (q : Int) < (n : Int) := by omega
              have hil : (i : Int) + (l1 : Int) < (n : Int) := by omega
              have hqms : q + ms ≤ n := by omega
              by_cases huv : u = v
              · subst huv
                have hne : ((u : Int) != (u : Int)) = false := by simp
                have HLK := Lib.hid (fun nq => likewise_any (w := wr.drewN nq) (W := W) e0 ((hkr.bytes).drewN nq) (i := q) (j := i) (m := ms) hqms hmsn)
                clear htd hl1 gBr hkr gA hz hq hpd hlb hcell hu hv hz' hpzq
                go_wp2_with fail
                go_quiet (fail)
                rename Nat => nq
                go_wp2_with fail
                refine (HLK.out nq).mono ?_
                rintro e wx ⟨rfl, nx, hwx⟩
                rw [World.drewN_drewN] at hwx
                obtain ⟨nz, hnz⟩ : ∃ nz, nz = nq + nx := ⟨_, rfl⟩
                rw [← hnz] at hwx
                subst hwx
                obtain ⟨lk, hlk⟩ : ∃ lk, lk = like b q i ms := ⟨_, rfl⟩
                rw [← hlk]
                have hlkm : lk ≤ ms := by rw [hlk]; exact like_le
                have HLKE := Lib.hid hlk
                clear hlk
                by_cases hgt : l1 < lk
                · have hgi : (l1 : Int) < (lk : Int) := by omega
                  have HNB := Lib.hid (show tokD b i (i - q) = (lk, i - q, 0) by
                    have h1 := HSTEP.out
                    rw [← HL1.out, ← HMS.out, ← HLKE.out, if_pos hgt] at h1
                    unfold tokD
                    rw [h1, if_neg (by simp only; omega)])
                  go_wp2_with fail
                  go_roundw
                  case rel => exact ⟨i - q, _, by omega, by go_num, HZ2, Lib.hid (by rw [HNB.out]; have := set3 HGBR.out (.int .i64 (lk : Int)) (.int .i64 ((i : Int) - (q : Int))) (.int .u8 0); rw [show ((i : Int) - (q : Int)) = ((i - q : Nat) : Int) from by omega] at this ⊢; exact this), Lib.hid ((heap3 (by omega) _ _ _).trans HR.out), Lib.hid (bdrewN (below3 (R := w.heap.size + 1) HBB.out (by omega) _ _ _) _)⟩
                  case measure => simp [intOf]; omega
                · have hgi : (lk : Int) ≤ (l1 : Int) := by omega
                  have HNB := Lib.hid (show tokD b i (i - q) = tokD b i d by
                    refine tokD_congr ?_
                    have h1 := HSTEP.out
                    rwa [← HL1.out, ← HMS.out, ← HLKE.out, if_neg hgt] at h1)
                  go_wp2_with fail
                  go_roundw
                  case rel => exact ⟨i - q, _, by omega, by go_num, HZ2, Lib.hid (by rw [HNB.out]; exact HT.out), HR, Lib.hid (bdrewN HBB.out _)⟩
                  case measure => simp [intOf]; omega
              · have hne : ((u : Int) != (v : Int)) = true := by rw [bne_iff_ne]; omega
                have HNB := Lib.hid (tokD_congr (round_diff (b := b) (i := i) (d := d) (by omega) hpd (by rw [← HL1.out, ← hu, ← hv]; exact huv)))
                clear htd hl1 gBr hkr gA hz hq hpd hlb hcell hu hv hz' hpzq
                go_wp2_with fail
                go_quiet (fail)
                go_wp2_with fail
                go_roundw
                case rel => exact ⟨i - q, _, by omega, by go_num, HZ2, Lib.hid (by rw [HNB.out]; exact HT.out), HR, Lib.hid (bdrewN HBB.out _)⟩
                case measure => simp [intOf]; omega
end Go.Proofs.YteggmbfhfoijoaaDoor
