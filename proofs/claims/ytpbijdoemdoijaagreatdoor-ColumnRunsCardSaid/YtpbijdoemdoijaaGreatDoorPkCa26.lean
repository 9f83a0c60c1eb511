/- Texts put together by packtpl2.py: InfDyn. -/
import Derived.Test.YtpbijdoemdoijaaGreatDoorPkCa25
section PkCa26_0
/- Package inflate: dynamicCodes, walked: the codes of kind 2. (Written by gendyn.py.) -/
namespace Go.Proofs.YtpbijdoemdoijaaGreatDoor
open Go.RowKit PrefPlain BitsPlain InfPlain
set_option linter.unusedVariables false

theorem IntsAt.upto {k : IntKind} {w : World} {a : Option Addr} {n c : Nat} {zs : List Int} (h : IntsAt k w a n c zs) (m : Nat) (hm : m ≤ n) : IntsAt k w a m c (zs.take m) := by
  have hl := h.len
  have hc := h.cap
  refine ⟨by simp; omega, by omega, fun z hz => h.wf z (List.mem_of_mem_take hz), h.capm, h.nl, fun hp => ?_⟩
  obtain ⟨b, off, ha, hlt, hcell⟩ := h.cells (by omega)
  refine ⟨b, off, ha, hlt, fun i hi => ?_⟩
  rw [hcell i (by omega)]
  have : i < zs.length := by omega
  simp [hi]
theorem IntsAt.behind {k : IntKind} {w : World} {b off : Nat} {n c : Nat} {zs : List Int} (h : IntsAt k w (some ⟨b, off, none⟩) n c zs) (m : Nat) (hm : m ≤ n) : IntsAt k w (some ⟨b, off + m, none⟩) (n - m) (c - m) (zs.drop m) := by
  have hl := h.len
  have hc := h.cap
  have hcm := h.capm
  refine ⟨by simp; omega, by omega, fun z hz => h.wf z (List.mem_of_mem_drop hz), by omega, (fun e => by cases e), fun hp => ?_⟩
  obtain ⟨b', off', ha, hlt, hcell⟩ := h.cells (by omega)
  cases ha
  refine ⟨b, off + m, rfl, hlt, fun i hi => ?_⟩
  rw [show off + m + i = off + (m + i) from by omega, hcell (m + i) (by omega)]
  simp [List.getD_eq_getElem?_getD, List.getElem?_drop]

/-- a codes' block -/
def CodesBlk (w : World) (cb : Nat) (x y : Option Addr) : Prop := w.heap[cb]? = some (.cells #[.pointer x, .pointer y] 187 (0, 0))
theorem CodesBlk.c0 {w : World} {cb : Nat} {x y : Option Addr} (h : CodesBlk w cb x y) : w.cell? ⟨cb, 0, none⟩ = some (.pointer x) := by rw [cell_of_row w cb 0 _ _ (0, 0) h]; rfl
theorem CodesBlk.c1 {w : World} {cb : Nat} {x y : Option Addr} (h : CodesBlk w cb x y) : w.cell? ⟨cb, 1, none⟩ = some (.pointer y) := by rw [cell_of_row w cb 1 _ _ (0, 0) h]; rfl
theorem CodesBlk.f {w : World} {cb : Nat} {x y : Option Addr} (h : CodesBlk w cb x y) (j : Nat) : w.frozen? ⟨cb, j, none⟩ = false := frozen_of_row w cb j _ _ h
theorem CodesBlk.lt {w : World} {cb : Nat} {x y : Option Addr} (h : CodesBlk w cb x y) : cb < w.heap.size := (Array.getElem?_eq_some_iff.1 h).1
theorem CodesBlk.set0 {w : World} {cb : Nat} {x y : Option Addr} (h : CodesBlk w cb x y) (u : Option Addr) : CodesBlk (w.setCell ⟨cb, 0, none⟩ (.pointer u)) cb u y := heap_setCell_same w cb 0 _ _ _ h
theorem CodesBlk.set1 {w : World} {cb : Nat} {x y : Option Addr} (h : CodesBlk w cb x y) (u : Option Addr) : CodesBlk (w.setCell ⟨cb, 1, none⟩ (.pointer u)) cb x u := heap_setCell_same w cb 1 _ _ _ h
theorem CodesBlk.below {w w' : World} {cb : Nat} {x y : Option Addr} (h : CodesBlk w cb x y) (hb : Below w.heap.size w w') : CodesBlk w' cb x y := (hb.block cb h.lt).trans h
theorem CodesBlk.fr {w w' : World} {cb B R : Nat} {v : Value} {x y : Option Addr} (h : CodesBlk w cb x y) (hf : Fr w w' B R v) (h1 : cb ≠ B ∧ cb ≠ R ∧ some cb ≠ v.ownBlock) : CodesBlk w' cb x y := (hf.block cb h.lt h1.1 h1.2.1 h1.2.2).trans h

section
variable {w : World} {B R base : Nat} {ra : Option Addr} {n c : Nat} {xs : List Nat} {p : Nat} {v : Value} {o : List Nat} {most : Nat} {fl fd : Option Addr}
theorem InAt.set (h : InAt w B R base ra n c xs p v o most fl fd) (tb j : Nat) (u : Value) (htb : base ≤ tb) (hv : v.ownBlock ≠ some tb) : InAt (w.setCell ⟨tb, j, none⟩ u) B R base ra n c xs p v o most fl fd := h.grown (grown_set w tb j u) htb hv
theorem Fr.set {w1 : World} (h : Fr w w1 B R v) (tb j : Nat) (u : Value) (htb : w.heap.size ≤ tb) : Fr w (w1.setCell ⟨tb, j, none⟩ u) B R v := h.up (grown_set w1 tb j u) htb
theorem TabUp.set {b0 TB : Nat} {L : List Int} (h : TabUp b0 w TB L) (tb j : Nat) (u : Value) (htb : tb < b0) : TabUp b0 (w.setCell ⟨tb, j, none⟩ u) TB L := h.on' (by simp) (fun k hk _ => heap_setCell_other _ _ _ _ (by show k ≠ tb; omega)) (Nat.le_refl _)
/-- a table that lies wholly in memory that is new since w -/
def Up (w w' : World) (TB : Nat) (L : List Int) : Prop := ∃ b0, w.heap.size ≤ b0 ∧ b0 ≤ TB ∧ TabUp b0 w' TB L
theorem Up.kept {w' : World} {TB : Nat} {L : List Int} (h : Up w w' TB L) (hi : InAt w B R base ra n c xs p v o most fl fd) : Kept w' B R v TB L := by
  obtain ⟨b0, h1, h2, h3⟩ := h
  have h4 := hi.hB
  have h5 := hi.hR
  have h6 := hi.low
  exact tab_kept h3 (by omega) (by omega) (fun g hg => by have := hi.vlt g hg; omega) h2
theorem Up.set {w' : World} {TB : Nat} {L : List Int} (h : Up w w' TB L) (tb j : Nat) (u : Value) (htb : tb < w.heap.size) : Up w (w'.setCell ⟨tb, j, none⟩ u) TB L := by
  obtain ⟨b0, h1, h2, h3⟩ := h
  exact ⟨b0, h1, h2, h3.set tb j u (by omega)⟩
theorem Up.since {w0 w' : World} {TB : Nat} {L : List Int} (h : Up w w' TB L) (hw : w0.heap.size ≤ w.heap.size) : Up w0 w' TB L := by
  obtain ⟨b0, h1, h2, h3⟩ := h
  exact ⟨b0, by omega, h2, h3⟩
/-- what dynamicCodes' answer is, by what the tree says -/
def Dyn (w : World) (B R base : Nat) (ra : Option Addr) (n c : Nat) (xs : List Nat) (v : Value) (most : Nat) (fl fd : Option Addr) (r : Except Nat ((List Int × List Int) × Nat × List Nat)) (e : Ending) (w' : World) : Prop :=
  match r with
  | .error er => e = .returned (.tuple #[.agg #[.pointer none, .pointer none], .int .i64 (er : Int)]) ∧ Fr w w' B R v
  | .ok (LD, q, o') => ∃ LB DB, e = .returned (.tuple #[.agg #[.pointer (some ⟨LB, 0, none⟩), .pointer (some ⟨DB, 0, none⟩)], .int .i64 0]) ∧ Fr w w' B R v ∧ InAt w' B R base ra n c xs q v o' most fl fd ∧ Up w w' LB LD.1 ∧ Up w w' DB LD.2
/-- behind the lengths -/
def Dyn2 (m : Nat) (r : Except Nat (List Int × Nat × List Nat)) : Except Nat ((List Int × List Int) × Nat × List Nat) :=
  match r with
  | .error e => .error e
  | .ok (l, q, o) => if l.getD 256 0 = 0 then .error 4 else if mk (l.take m) ≠ 0 then .error (mk (l.take m)) else if mk (l.drop m) ≠ 0 then .error (mk (l.drop m)) else .ok ((l.take m, l.drop m), q, o)
/-- behind the third code -/
def Dyn1 (xs : List Nat) (most f m k : Nat) (r : Except Nat (List Int × Nat × List Nat)) : Except Nat ((List Int × List Int) × Nat × List Nat) :=
  match r with
  | .error e => .error e
  | .ok (C, q, o) => if mk C ≠ 0 then .error (mk C) else Dyn2 m (run xs most (lensR C (m + k) f []) q o)
theorem dyn_1 {f : Nat} (hp : p ≤ 8 * xs.length) (h : 8 * xs.length < p + 5) : run xs most (dynR f) p o = .error 3 := by
  rw [dynR, run_bind, run_bits _ _ _ _ _ hp, if_pos h]
theorem dyn_2 {f : Nat} (h : p + 5 ≤ 8 * xs.length) (h2 : 8 * xs.length < p + 5 + 5) : run xs most (dynR f) p o = .error 3 := by
  rw [dynR, run_bind, run_bits _ _ _ _ _ (by omega), if_neg (by omega)]
  show run xs most (Rd.bind _ _) _ o = _
  rw [run_bind, run_bits _ _ _ _ _ h, if_pos h2]
theorem dyn_3 {f : Nat} (h : p + 5 + 5 ≤ 8 * xs.length) (h2 : 8 * xs.length < p + 5 + 5 + 4) : run xs most (dynR f) p o = .error 3 := by
  rw [dynR, run_bind, run_bits _ _ _ _ _ (by omega), if_neg (by omega)]
  show run xs most (Rd.bind _ _) _ o = _
  rw [run_bind, run_bits _ _ _ _ _ (by omega), if_neg (by omega)]
  show run xs most (Rd.bind _ _) _ o = _
  rw [run_bind, run_bits _ _ _ _ _ h, if_pos h2]
theorem dyn_4 {f : Nat} (h : p + 5 + 5 + 4 ≤ 8 * xs.length) : run xs most (dynR f) p o =
    if 286 < num xs p 5 + 257 ∨ 30 < num xs (p + 5) 5 + 1 then .error 4 else Dyn1 xs most f (num xs p 5 + 257) (num xs (p + 5) 5 + 1) (run xs most (thirdR (num xs (p + 5 + 5) 4 + 4) 0 (List.replicate 19 0)) (p + 5 + 5 + 4) o) := by
  rw [dynR, run_bind, run_bits _ _ _ _ _ (by omega), if_neg (by omega)]
  show run xs most (Rd.bind _ _) _ o = _
  rw [run_bind, run_bits _ _ _ _ _ (by omega), if_neg (by omega)]
  show run xs most (Rd.bind _ _) _ o = _
  rw [run_bind, run_bits _ _ _ _ _ (by omega), if_neg (by omega)]
  show run xs most (if _ then _ else _) _ o = _
  split
  · rfl
  · rw [run_bind]
    unfold Dyn1
    cases run xs most (thirdR (num xs (p + 5 + 5) 4 + 4) 0 (List.replicate 19 0)) (p + 5 + 5 + 4) o with
    | error e => rfl
    | ok r =>
      obtain ⟨C, q, o1⟩ := r
      show run xs most (if _ then _ else _) q o1 = _
      show _ = if mk C ≠ 0 then _ else _
      split
      · rfl
      · rw [run_bind]
        unfold Dyn2
        cases run xs most (lensR C (num xs p 5 + 257 + (num xs (p + 5) 5 + 1)) f []) q o1 with
        | error e => rfl
        | ok r2 =>
          obtain ⟨l, q2, o2⟩ := r2
          show run xs most (if _ then _ else _) q2 o2 = if _ then _ else _
          split
          · rfl
          · split
            · rfl
            · split
              · rfl
              · rfl
end

set_option maxRecDepth 100000 in
set_option maxHeartbeats 4000000 in
theorem idyn_any {w : World} {B R base : Nat} {ra : Option Addr} {n c : Nat} {xs : List Nat} {p : Nat} {v : Value} {o : List Nat} {most : Nat} {fl fd : Option Addr} (h : InAt w B R base ra n c xs p v o most fl fd) (hO : Ordr w) (hB0 : 1 < B) (hR0 : 1 < R) (f : Nat) (hf : 8 * xs.length < p + f) :
    Calls Tryz.prog 195 #[.pointer (some ⟨B, 0, none⟩)] w fun e w' => Dyn w B R base ra n c xs v most fl fd (run xs most (dynR f) p o) e w' := by
  have HV0 := Lib.hid (show v.ownBlock ≠ some 1 from fun e => by have := (h.own.lt 1 e).1; have := h.hB; omega)
  obtain ⟨w1, hw1⟩ : ∃ w1, w1 = w.alloc (.cells #[.pointer none, .pointer none] 187) := ⟨_, rfl⟩
  have hb1 : Below w.heap.size w w1 := by rw [hw1]; exact (Below.refl _ _).alloc (Nat.le_refl _) _
  obtain ⟨cb, hcb⟩ : ∃ cb, cb = w.heap.size := ⟨_, rfl⟩
  have HX1 := Lib.hid (show CodesBlk w1 cb none none by rw [hw1, hcb]; exact heap_alloc_new w _)
  have HI1 := Lib.hid (h.below hb1)
  have HF1 := Lib.hid (Fr.below (B := B) (R := R) (v := v) hb1)
  have HO1 := Lib.hid hO
  have HW1 := Lib.hid hw1
  have HCB := Lib.hid hcb
  have HN := Lib.hid (show cb ≠ B ∧ cb ≠ R ∧ some cb ≠ v.ownBlock from ⟨by have := h.hB; have := h.low; omega, by have := h.hR; have := h.low; omega, fun e => by have := h.vlt cb e.symm; omega⟩)
  have HPL := Lib.hid h.pl
  have HFU := Lib.hid hf
  have HH := Lib.hid h
  clear h hO hb1 hcb hf
  go_enter Tryz.func195, Tryz.ntmps195
  clear hw1
  have HC1 := Lib.hid (icount_any HI1.out 5 257 (by omega) (by omega))
  go_wp2_with fail
  rw [← HW1.out, ← HCB.out]
  refine HC1.out.mono ?_
  rintro e w2 (⟨hs, rfl, hg, hi2⟩ | ⟨hs, rfl, hg, hi2⟩)
  · have HR := Lib.hid (dyn_1 (most := most) (o := o) (f := f) HPL.out hs)
    have HF := Lib.hid (HF1.out.trans (Went.refl _ _) (Fr.rd B v hg))
    have HX := Lib.hid (HX1.out.fr (Fr.rd B v hg) HN.out)
    clear hs hg hi2
    have hxx := HX.out
    have cc0 := hxx.c0
    have cc1 := hxx.c1
    have cf0 := hxx.f 0
    have cf1 := hxx.f 1
    have c80 := ((hxx.set0 none).set1 none).c0
    have c81 := ((hxx.set0 none).set1 none).c1
    have HFF := Lib.hid ((HF.out.up (grown_set w2 cb 0 (.pointer none)) (Nat.le_of_eq HCB.out.symm)).up (grown_set _ cb 1 (.pointer none)) (Nat.le_of_eq HCB.out.symm))
    clear hxx
    go_wp2_with fail
    refine bodyPost_ret (v := .tuple #[.agg #[.pointer none, .pointer none], .int .i64 3]) (by simp [results, Tryz.results195, go_sem, c80, c81]) rfl ?_
    rw [HR.out]
    exact ⟨rfl, HFF.out⟩
  · have HS2 := Lib.hid hs
    have HF2 := Lib.hid (HF1.out.trans (Went.refl _ _) (Fr.rd B v hg))
    have HX2 := Lib.hid (HX1.out.fr (Fr.rd B v hg) HN.out)
    have HI2 := Lib.hid hi2
    have hnl := num_lt xs (p) 5
    obtain ⟨m, hm⟩ : ∃ x, x = num xs (p) 5 + 257 := ⟨_, rfl⟩
    have hm1 : 257 ≤ m := by omega
    have hm2 : m < 289 := by
      have e : (2 : Nat) ^ 5 = 32 := by decide
      omega
    have HM := Lib.hid hm
    rw [← hm]
    clear hs hg hi2 hnl hm
    have HC2 := Lib.hid (icount_any HI2.out 5 1 (by omega) (by omega))
    go_wp2_with fail
    refine HC2.out.mono ?_
    rintro e w3 (⟨hs, rfl, hg, hi3⟩ | ⟨hs, rfl, hg, hi3⟩)
    · have HR := Lib.hid (dyn_2 (most := most) (o := o) (f := f) HS2.out hs)
      have HF := Lib.hid (HF2.out.trans (Went.refl _ _) (Fr.rd B v hg))
      have HX := Lib.hid (HX2.out.fr (Fr.rd B v hg) HN.out)
      clear hs hg hi3
      have hxx := HX.out
      have cc0 := hxx.c0
      have cc1 := hxx.c1
      have cf0 := hxx.f 0
      have cf1 := hxx.f 1
      have c80 := ((hxx.set0 none).set1 none).c0
      have c81 := ((hxx.set0 none).set1 none).c1
      have HFF := Lib.hid ((HF.out.up (grown_set w3 cb 0 (.pointer none)) (Nat.le_of_eq HCB.out.symm)).up (grown_set _ cb 1 (.pointer none)) (Nat.le_of_eq HCB.out.symm))
      clear hxx
      go_wp2_with fail
      refine bodyPost_ret (v := .tuple #[.agg #[.pointer none, .pointer none], .int .i64 3]) (by simp [results, Tryz.results195, go_sem, c80, c81]) rfl ?_
      rw [HR.out]
      exact ⟨rfl, HFF.out⟩
    · have HS3 := Lib.hid hs
      have HF3 := Lib.hid (HF2.out.trans (Went.refl _ _) (Fr.rd B v hg))
      have HX3 := Lib.hid (HX2.out.fr (Fr.rd B v hg) HN.out)
      have HI3 := Lib.hid hi3
      have hnl := num_lt xs (p + 5) 5
      obtain ⟨d, hd⟩ : ∃ x, x = num xs (p + 5) 5 + 1 := ⟨_, rfl⟩
      have hd1 : 1 ≤ d := by omega
      have hd2 : d < 33 := by
        have e : (2 : Nat) ^ 5 = 32 := by decide
        omega
      have HD := Lib.hid hd
      rw [← hd]
      clear hs hg hi3 hnl hd
      have HC3 := Lib.hid (icount_any HI3.out 4 4 (by omega) (by omega))
      go_wp2_with fail
      refine HC3.out.mono ?_
      rintro e w4 (⟨hs, rfl, hg, hi4⟩ | ⟨hs, rfl, hg, hi4⟩)
      · have HR := Lib.hid (dyn_3 (most := most) (o := o) (f := f) HS3.out hs)
        have HF := Lib.hid (HF3.out.trans (Went.refl _ _) (Fr.rd B v hg))
        have HX := Lib.hid (HX3.out.fr (Fr.rd B v hg) HN.out)
        clear hs hg hi4
        have hxx := HX.out
        have cc0 := hxx.c0
        have cc1 := hxx.c1
        have cf0 := hxx.f 0
        have cf1 := hxx.f 1
        have c80 := ((hxx.set0 none).set1 none).c0
        have c81 := ((hxx.set0 none).set1 none).c1
        have HFF := Lib.hid ((HF.out.up (grown_set w4 cb 0 (.pointer none)) (Nat.le_of_eq HCB.out.symm)).up (grown_set _ cb 1 (.pointer none)) (Nat.le_of_eq HCB.out.symm))
        clear hxx
        go_wp2_with fail
        refine bodyPost_ret (v := .tuple #[.agg #[.pointer none, .pointer none], .int .i64 3]) (by simp [results, Tryz.results195, go_sem, c80, c81]) rfl ?_
        rw [HR.out]
        exact ⟨rfl, HFF.out⟩
      · have HS4 := Lib.hid hs
        have HF4 := Lib.hid (HF3.out.trans (Went.refl _ _) (Fr.rd B v hg))
        have HX4 := Lib.hid (HX3.out.fr (Fr.rd B v hg) HN.out)
        have HI4 := Lib.hid hi4
        have hnl := num_lt xs (p + 5 + 5) 4
        obtain ⟨t, ht⟩ : ∃ x, x = num xs (p + 5 + 5) 4 + 4 := ⟨_, rfl⟩
        have ht1 : 4 ≤ t := by omega
        have ht2 : t < 20 := by
          have e : (2 : Nat) ^ 4 = 16 := by decide
          omega
        have HT := Lib.hid ht
        rw [← ht]
        clear hs hg hi4 hnl ht
        have E4 := dyn_4 (most := most) (o := o) (f := f) HS4.out
        rw [← HM.out, ← HD.out, ← HT.out] at E4
        have HE4 := Lib.hid E4
        clear E4
        by_cases hm286 : 286 < m
        · have HR := Lib.hid (show run xs most (dynR f) p o = .error 4 by rw [HE4.out, if_pos (.inl hm286)])
          have hmi : (286 : Int) < (m : Int) := by omega
          have HX := HX4
          have hxx := HX.out
          have cc0 := hxx.c0
          have cc1 := hxx.c1
          have cf0 := hxx.f 0
          have cf1 := hxx.f 1
          have c80 := ((hxx.set0 none).set1 none).c0
          have c81 := ((hxx.set0 none).set1 none).c1
          have HFF := Lib.hid ((HF4.out.up (grown_set w4 cb 0 (.pointer none)) (Nat.le_of_eq HCB.out.symm)).up (grown_set _ cb 1 (.pointer none)) (Nat.le_of_eq HCB.out.symm))
          clear hxx
          go_wp2_with fail
          refine bodyPost_ret (v := .tuple #[.agg #[.pointer none, .pointer none], .int .i64 4]) (by simp [results, Tryz.results195, go_sem, c80, c81]) rfl ?_
          rw [HR.out]
          exact ⟨rfl, HFF.out⟩
        · have hmi : (m : Int) ≤ 286 := by omega
          by_cases hd30 : 30 < d
          · have HR := Lib.hid (show run xs most (dynR f) p o = .error 4 by rw [HE4.out, if_pos (.inr hd30)])
            have hdi : (30 : Int) < (d : Int) := by omega
            have HX := HX4
            have hxx := HX.out
            have cc0 := hxx.c0
            have cc1 := hxx.c1
            have cf0 := hxx.f 0
            have cf1 := hxx.f 1
            have c80 := ((hxx.set0 none).set1 none).c0
            have c81 := ((hxx.set0 none).set1 none).c1
            have HFF := Lib.hid ((HF4.out.up (grown_set w4 cb 0 (.pointer none)) (Nat.le_of_eq HCB.out.symm)).up (grown_set _ cb 1 (.pointer none)) (Nat.le_of_eq HCB.out.symm))
            clear hxx
            go_wp2_with fail
            refine bodyPost_ret (v := .tuple #[.agg #[.pointer none, .pointer none], .int .i64 4]) (by simp [results, Tryz.results195, go_sem, c80, c81]) rfl ?_
            rw [HR.out]
            exact ⟨rfl, HFF.out⟩
          · have hdi : (d : Int) ≤ 30 := by omega
            have HTC := ithird_any HI4.out (HO1.out.fr HF4.out hB0 hR0 HV0.out) hB0 hR0 t (by omega)
            have E5 := HE4.out
            rw [if_neg (by omega)] at E5
            have hnz := nz_third t 0 (List.replicate 19 0) xs most (p + 5 + 5 + 4) o
            have hle := fun C q o1 => @run_le _ xs most (thirdR t 0 (List.replicate 19 0)) (p + 5 + 5 + 4) o C q o1
            obtain ⟨rr, hrr⟩ : ∃ rr, rr = run xs most (thirdR t 0 (List.replicate 19 0)) (p + 5 + 5 + 4) o := ⟨_, rfl⟩
            rw [← hrr] at HTC E5 hnz hle
            have HTH := Lib.hid HTC
            have HE5 := Lib.hid E5
            have HNZ := Lib.hid hnz
            have HLE := Lib.hid hle
            clear HTC E5 hnz hle hrr hm286 hd30
            go_wp2_with fail
            refine HTH.out.mono ?_
            rintro e w5 hsay
            cases rr with
            | error er =>
              obtain ⟨rfl, hf5⟩ := hsay
              have hez : ((er : Int) != 0) = true := by rw [bne_iff_ne]; have := HNZ.out er rfl; omega
              have HR := Lib.hid (show run xs most (dynR f) p o = .error er from HE5.out)
              have HF := Lib.hid (HF4.out.trans (Went.refl _ _) hf5)
              have HX := Lib.hid (HX4.out.fr hf5 HN.out)
              clear hf5
              have hxx := HX.out
              have cc0 := hxx.c0
              have cc1 := hxx.c1
              have cf0 := hxx.f 0
              have cf1 := hxx.f 1
              have c80 := ((hxx.set0 none).set1 none).c0
              have c81 := ((hxx.set0 none).set1 none).c1
              have HFF := Lib.hid ((HF.out.up (grown_set w5 cb 0 (.pointer none)) (Nat.le_of_eq HCB.out.symm)).up (grown_set _ cb 1 (.pointer none)) (Nat.le_of_eq HCB.out.symm))
              clear hxx
              go_wp2_with fail
              refine bodyPost_ret (v := .tuple #[.agg #[.pointer none, .pointer none], .int .i64 er]) (by simp [results, Tryz.results195, go_sem, c80, c81]) rfl ?_
              rw [HR.out]
              exact ⟨rfl, HFF.out⟩
            | ok r =>
              obtain ⟨C, q5, o5⟩ := r
              obtain ⟨pt, rfl, hf5, hi5, hp0, hp⟩ := hsay
              have HF5 := Lib.hid (HF4.out.trans (Went.refl _ _) hf5)
              have HX5 := Lib.hid (HX4.out.fr hf5 HN.out)
              have HI5 := Lib.hid hi5
              have HP0 := Lib.hid hp0
              have HP := Lib.hid hp
              have hfu5 : 8 * xs.length < q5 + f := by have := (HLE.out C q5 o5 rfl).1; have := HFU.out; omega
              have HFU5 := Lib.hid hfu5
              clear hf5 hi5 hp0 hp hfu5
              by_cases hmk : mk C = 0
              · have e0 : ((mk C : Nat) : Int) = 0 := by rw [hmk]; rfl
                rw [e0]
                obtain ⟨TB, rfl, hK⟩ := HP.out hmk
                have HLC := ilens_any HI5.out hK (m + d) (by omega) f HFU5.out
                rw [Int.natCast_add] at HLC
                have E6 : run xs most (dynR f) p o = Dyn2 m (run xs most (lensR C (m + d) f []) q5 o5) := by rw [HE5.out]; show (if mk C ≠ 0 then _ else _) = _; rw [if_neg (by omega)]
                have hnz := nz_lens C (m + d) f [] xs most q5 o5
                obtain ⟨rr, hrr⟩ : ∃ rr, rr = run xs most (lensR C (m + d) f []) q5 o5 := ⟨_, rfl⟩
                rw [← hrr] at HLC E6 hnz
                have HLH := Lib.hid HLC
                have HE6 := Lib.hid E6
                have HNZ6 := Lib.hid hnz
                clear HLC E6 hnz hrr e0 hmk hK
                go_wp2_with fail
                refine HLH.out.mono ?_
                rintro e w6 hsay
                cases rr with
                | error er =>
                  obtain ⟨rfl, hf6⟩ := hsay
                  have hez : ((er : Int) != 0) = true := by rw [bne_iff_ne]; have := HNZ6.out er rfl; omega
                  have HR := Lib.hid (show run xs most (dynR f) p o = .error er from HE6.out)
                  have HF := Lib.hid (HF5.out.trans (Went.refl _ _) hf6)
                  have HX := Lib.hid (HX5.out.fr hf6 HN.out)
                  clear hf6
                  have hxx := HX.out
                  have cc0 := hxx.c0
                  have cc1 := hxx.c1
                  have cf0 := hxx.f 0
                  have cf1 := hxx.f 1
                  have c80 := ((hxx.set0 none).set1 none).c0
                  have c81 := ((hxx.set0 none).set1 none).c1
                  have HFF := Lib.hid ((HF.out.up (grown_set w6 cb 0 (.pointer none)) (Nat.le_of_eq HCB.out.symm)).up (grown_set _ cb 1 (.pointer none)) (Nat.le_of_eq HCB.out.symm))
                  clear hxx
                  go_wp2_with fail
                  refine bodyPost_ret (v := .tuple #[.agg #[.pointer none, .pointer none], .int .i64 er]) (by simp [results, Tryz.results195, go_sem, c80, c81]) rfl ?_
                  rw [HR.out]
                  exact ⟨rfl, HFF.out⟩
                | ok r =>
                  obtain ⟨l, q6, o6⟩ := r
                  obtain ⟨a, k, rfl, hf6, hi6, hown6, hwf6, hlen6⟩ := hsay
                  obtain ⟨g, k', hga⟩ := own_some hown6 (by omega)
                  simp only [Value.slice.injEq, true_and] at hga
                  obtain ⟨rfl, rfl⟩ := hga
                  have HF6 := Lib.hid (HF5.out.trans (Went.refl _ _) hf6)
                  have HX6 := Lib.hid (HX5.out.fr hf6 HN.out)
                  have HI6 := Lib.hid hi6
                  have HO6 := Lib.hid hown6
                  have hIA := IntsAt.own hown6 (fun z hz => wf_int (by have := hwf6 z hz; omega))
                  have hkc := hIA.cap
                  have hkm := hIA.capm
                  have HIA := Lib.hid hIA
                  obtain ⟨x, hx⟩ : ∃ x, x = l.getD 256 0 := ⟨_, rfl⟩
                  have hcx : w6.cell? ⟨g, 256, none⟩ = some (.int .i64 x) := by rw [hown6.cellAt 256 (by omega), iv_get _ _ _ (by omega), hx]
                  have h256 : (256 : Int) < (m : Int) + (d : Int) := by omega
                  have hgl : g < w6.heap.size := (hown6.lt g rfl).2
                  have HWF6 := Lib.hid hwf6
                  have E7 : run xs most (dynR f) p o = if x = 0 then .error 4 else if mk (l.take m) ≠ 0 then .error (mk (l.take m)) else if mk (l.drop m) ≠ 0 then .error (mk (l.drop m)) else .ok ((l.take m, l.drop m), q6, o6) := by rw [HE6.out, hx]; rfl
                  have HE7 := Lib.hid E7
                  have HLN := Lib.hid hlen6
                  clear hf6 hi6 hown6 hwf6 hlen6 hIA hx E7
                  by_cases hx0 : x = 0
                  · subst hx0
                    have hxz : ((0 : Int) == 0) = true := by decide
                    have HR := Lib.hid (show run xs most (dynR f) p o = .error 4 by rw [HE7.out, if_pos rfl])
                    have HX := HX6
                    have hxx := HX.out
                    have cc0 := hxx.c0
                    have cc1 := hxx.c1
                    have cf0 := hxx.f 0
                    have cf1 := hxx.f 1
                    have c80 := ((hxx.set0 none).set1 none).c0
                    have c81 := ((hxx.set0 none).set1 none).c1
                    have HFF := Lib.hid ((HF6.out.up (grown_set w6 cb 0 (.pointer none)) (Nat.le_of_eq HCB.out.symm)).up (grown_set _ cb 1 (.pointer none)) (Nat.le_of_eq HCB.out.symm))
                    clear hxx
                    go_wp2_with fail
                    refine bodyPost_ret (v := .tuple #[.agg #[.pointer none, .pointer none], .int .i64 4]) (by simp [results, Tryz.results195, go_sem, c80, c81]) rfl ?_
                    rw [HR.out]
                    exact ⟨rfl, HFF.out⟩
                  · have hxz : (x == 0) = false := by rw [beq_eq_false_iff_ne]; exact hx0
                    obtain ⟨cb2, hcb2⟩ : ∃ cb2, cb2 = w6.heap.size := ⟨_, rfl⟩
                    have HCB2 := Lib.hid hcb2
                    have hb7 : Below w6.heap.size w6 (w6.alloc (.cells #[.pointer none, .pointer none] 187)) := (Below.refl _ _).alloc (Nat.le_refl _) _
                    have HB7 := Lib.hid hb7
                    have HX27 := Lib.hid (show CodesBlk (w6.alloc (.cells #[.pointer none, .pointer none] 187)) cb2 none none by rw [hcb2]; exact heap_alloc_new w6 _)
                    have HMK := Lib.hid (make2_any ((HIA.out.alloc (.cells #[.pointer none, .pointer none] 187)).upto m (by omega)))
                    have E8 := HE7.out
                    rw [if_neg hx0] at E8
                    have HE8 := Lib.hid E8
                    have hmk1 : (m : Int) ≤ (k : Int) := by omega
                    have hkm0 : ¬ k = m := by omega
                    clear hcb2 hb7 E8 hx0
                    go_wp2_with fail
                    refine HMK.out.mono ?_
                    rintro e w8 ⟨p1, rfl, hb8, hp10, hp11⟩
                    rw [← HCB2.out]
                    have hs7 : (w6.alloc (.cells #[.pointer none, .pointer none] 187)).heap.size = cb2 + 1 := by rw [HCB2.out]; simp
                    have HB8 := Lib.hid (HB7.out.trans (hb8.mono HB7.out.size))
                    have HX28 := HX27.out.below hb8
                    have HI8 := Lib.hid (HI6.out.below HB8.out)
                    have HF8 := Lib.hid (HF6.out.trans (Went.refl _ _) (Fr.below HB8.out))
                    have HX8 := Lib.hid (HX6.out.below HB8.out)
                    have HO8 := Lib.hid (own_below HO6.out HB8.out)
                    rw [hs7] at hp11
                    have HP10 := Lib.hid hp10
                    have HP11 := Lib.hid hp11
                    have c20 := HX28.c0
                    have f20 := HX28.f 0
                    have HXX28 := Lib.hid HX28
                    have hcbl : base ≤ cb2 ∧ v.ownBlock ≠ some cb2 ∧ w.heap.size ≤ cb2 ∧ cb ≠ cb2 ∧ g ≠ cb2 := by
                      have h1 := HH.out.low
                      have h2 := HF6.out.size
                      have h3 := HCB2.out
                      have h4 := HX6.out.lt
                      exact ⟨by have := HCB.out; omega, fun e => by have := HI6.out.vlt cb2 e; omega, by omega, by omega, by omega⟩
                    have HCBL := Lib.hid hcbl
                    clear hb8 hp10 hp11 hs7 hcbl HX28
                    by_cases hm1 : mk (l.take m) = 0
                    · have e0 : ((mk (l.take m) : Nat) : Int) = 0 := by rw [hm1]; rfl
                      rw [e0]
                      obtain ⟨LB, rfl, hLB, hT8⟩ := HP11.out hm1
                      have HT8 := Lib.hid hT8
                      have E9 := HE8.out
                      rw [if_neg (by omega)] at E9
                      have HE9 := Lib.hid E9
                      have HI9 := Lib.hid (HI8.out.set cb2 0 (.pointer (some ⟨LB, 0, none⟩)) HCBL.out.1 HCBL.out.2.1)
                      have HF9 := Lib.hid (HF8.out.set cb2 0 (.pointer (some ⟨LB, 0, none⟩)) HCBL.out.2.2.1)
                      have hg9 := grown_set w8 cb2 0 (.pointer (some ⟨LB, 0, none⟩))
                      have HX9 := Lib.hid (show CodesBlk (w8.setCell ⟨cb2, 0, none⟩ (.pointer (some ⟨LB, 0, none⟩))) cb none none from (hg9.block cb HX8.out.lt (fun e => HCBL.out.2.2.2.1 (Option.some.inj e))).trans HX8.out)
                      have HO9 := HO8.out.kept hg9 (.inr (fun e => HCBL.out.2.2.2.2 (Option.some.inj e)))
                      have HX29 := Lib.hid (HXX28.out.set0 (some ⟨LB, 0, none⟩))
                      have hbh := (IntsAt.own HO9 (fun z hz => wf_int (by have := HWF6.out z hz; omega))).behind m (by omega)
                      rw [Nat.zero_add] at hbh
                      have HMK2 := Lib.hid (make2_any hbh)
                      have hT9 := Lib.hid (hT8.set cb2 0 (.pointer (some ⟨LB, 0, none⟩)) (by omega))
                      have HLB := Lib.hid hLB
                      have hnd : m + d - m = d := by omega
                      rw [hnd] at HMK2
                      have HSZ9 := Lib.hid (show cb2 + 1 ≤ (w8.setCell ⟨cb2, 0, none⟩ (.pointer (some ⟨LB, 0, none⟩))).heap.size by have := HXX28.out.lt; simp; omega)
                      clear e0 hT8 E9 hg9 HO9 hbh hLB hm1 hnd
                      go_wp2_with fail
                      refine HMK2.out.mono ?_
                      rintro e w10 ⟨p2, rfl, hb10, hp20, hp21⟩
                      have HX10 := Lib.hid (HX9.out.below hb10)
                      have HX210 := HX29.out.below hb10
                      have HI10 := Lib.hid (HI9.out.below hb10)
                      have HF10 := Lib.hid (HF9.out.trans (Went.refl _ _) (Fr.below hb10))
                      have HT10 := Lib.hid (hT9.out.on hb10 (Nat.le_refl _))
                      have c21 := HX210.c1
                      have f21 := HX210.f 1
                      have HXX210 := Lib.hid HX210
                      have HP20 := Lib.hid hp20
                      have HP21 := Lib.hid hp21
                      have hsz10 := hb10.size
                      clear hb10 hp20 hp21 c20 f20 HX210
                      by_cases hm2' : mk (l.drop m) = 0
                      · have e0 : ((mk (l.drop m) : Nat) : Int) = 0 := by rw [hm2']; rfl
                        rw [e0]
                        obtain ⟨DB, rfl, hDB, hT⟩ := HP21.out hm2'
                        have hx11 : CodesBlk (w10.setCell ⟨cb2, 1, none⟩ (.pointer (some ⟨DB, 0, none⟩))) cb none none := ((grown_set w10 cb2 1 (.pointer (some ⟨DB, 0, none⟩))).block cb HX10.out.lt (fun e => HCBL.out.2.2.2.1 (Option.some.inj e))).trans HX10.out
                        have hx211 := HXX210.out.set1 (some ⟨DB, 0, none⟩)
                        have cc0 := hx11.c0
                        have cc1 := hx11.c1
                        have cf0 := hx11.f 0
                        have cf1 := hx11.f 1
                        have d0 := hx211.c0
                        have d1 := hx211.c1
                        have c80 := ((hx11.set0 (some ⟨LB, 0, none⟩)).set1 (some ⟨DB, 0, none⟩)).c0
                        have c81 := ((hx11.set0 (some ⟨LB, 0, none⟩)).set1 (some ⟨DB, 0, none⟩)).c1
                        have hcbb : base ≤ cb ∧ v.ownBlock ≠ some cb := ⟨by have := HH.out.low; have := HCB.out; omega, fun e => HN.out.2.2 e.symm⟩
                        have HFF := Lib.hid (((HF10.out.set cb2 1 (.pointer (some ⟨DB, 0, none⟩)) HCBL.out.2.2.1).set cb 0 (.pointer (some ⟨LB, 0, none⟩)) (Nat.le_of_eq HCB.out.symm)).set cb 1 (.pointer (some ⟨DB, 0, none⟩)) (Nat.le_of_eq HCB.out.symm))
                        have HII := Lib.hid (((HI10.out.set cb2 1 (.pointer (some ⟨DB, 0, none⟩)) HCBL.out.1 HCBL.out.2.1).set cb 0 (.pointer (some ⟨LB, 0, none⟩)) hcbb.1 hcbb.2).set cb 1 (.pointer (some ⟨DB, 0, none⟩)) hcbb.1 hcbb.2)
                        have hB2 : B < cb2 + 1 ∧ R < cb2 + 1 ∧ cb < cb2 + 1 := by
                          have h1 := HH.out.hB
                          have h2 := HH.out.hR
                          have h3 := HH.out.low
                          have h4 := HX6.out.lt
                          have h5 := HCB2.out
                          have h6 := HCBL.out.1
                          exact ⟨by omega, by omega, by omega⟩
                        have hvl : ∀ g, v.ownBlock = some g → g < cb2 + 1 := fun g hg => by have := HI6.out.vlt g hg; have := HCB2.out; omega
                        have HKL := Lib.hid (show Up w _ LB _ from ⟨cb2 + 1, by have := HCBL.out.2.2.1; omega, HLB.out, (((HT10.out.set cb2 1 (.pointer (some ⟨DB, 0, none⟩)) (by omega)).set cb 0 (.pointer (some ⟨LB, 0, none⟩)) hB2.2.2).set cb 1 (.pointer (some ⟨DB, 0, none⟩)) hB2.2.2)⟩)
                        have HSZ := HSZ9.out
                        obtain ⟨bz, hbz⟩ : ∃ bz, bz = (w8.setCell ⟨cb2, 0, none⟩ (.pointer (some ⟨LB, 0, none⟩))).heap.size := ⟨_, rfl⟩
                        rw [← hbz] at HSZ hT hDB
                        obtain ⟨hB2a, hB2b, hB2c⟩ := hB2
                        have HKD := Lib.hid (show Up w _ DB _ from ⟨bz, by have := HCBL.out.2.2.1; omega, hDB, (((hT.set cb2 1 (.pointer (some ⟨DB, 0, none⟩)) (show cb2 < bz by omega)).set cb 0 (.pointer (some ⟨LB, 0, none⟩)) (show cb < bz by omega)).set cb 1 (.pointer (some ⟨DB, 0, none⟩)) (show cb < bz by omega))⟩)
                        have HR := Lib.hid (show run xs most (dynR f) p o = .ok ((l.take m, l.drop m), q6, o6) by rw [HE9.out, if_neg (by omega)])
                        clear hx11 hx211 hcbb hB2a hB2b hB2c hvl hT hDB HSZ e0 hm2' hbz
                        go_wp2_with fail
                        refine bodyPost_ret (v := .tuple #[.agg #[.pointer (some ⟨LB, 0, none⟩), .pointer (some ⟨DB, 0, none⟩)], .int .i64 0]) (by simp [results, Tryz.results195, go_sem, c80, c81]) rfl ?_
                        rw [HR.out]
                        exact ⟨LB, DB, rfl, HFF.out, HII.out, HKL.out, HKD.out⟩
                      · obtain rfl := HP20.out hm2'
                        obtain ⟨er, her⟩ : ∃ er, er = mk (l.drop m) := ⟨_, rfl⟩
                        have hez : ((er : Int) != 0) = true := by rw [bne_iff_ne]; omega
                        have HR := Lib.hid (show run xs most (dynR f) p o = .error er by rw [HE9.out, if_pos hm2', her])
                        have HF := Lib.hid (HF10.out.set cb2 1 (.pointer none) HCBL.out.2.2.1)
                        have HX := Lib.hid (show CodesBlk (w10.setCell ⟨cb2, 1, none⟩ (.pointer none)) cb none none from ((grown_set w10 cb2 1 (.pointer none)).block cb HX10.out.lt (fun e => HCBL.out.2.2.2.1 (Option.some.inj e))).trans HX10.out)
                        rw [← her]
                        clear her hm2' 
                        have hxx := HX.out
                        have cc0 := hxx.c0
                        have cc1 := hxx.c1
                        have cf0 := hxx.f 0
                        have cf1 := hxx.f 1
                        have c80 := ((hxx.set0 none).set1 none).c0
                        have c81 := ((hxx.set0 none).set1 none).c1
                        have HFF := Lib.hid ((HF.out.up (grown_set (w10.setCell ⟨cb2, 1, none⟩ (.pointer none)) cb 0 (.pointer none)) (Nat.le_of_eq HCB.out.symm)).up (grown_set _ cb 1 (.pointer none)) (Nat.le_of_eq HCB.out.symm))
                        clear hxx
                        go_wp2_with fail
                        refine bodyPost_ret (v := .tuple #[.agg #[.pointer none, .pointer none], .int .i64 er]) (by simp [results, Tryz.results195, go_sem, c80, c81]) rfl ?_
                        rw [HR.out]
                        exact ⟨rfl, HFF.out⟩
                    · obtain rfl := HP10.out hm1
                      obtain ⟨er, her⟩ : ∃ er, er = mk (l.take m) := ⟨_, rfl⟩
                      have hez : ((er : Int) != 0) = true := by rw [bne_iff_ne]; omega
                      have HR := Lib.hid (show run xs most (dynR f) p o = .error er by rw [HE8.out, if_pos hm1, her])
                      have HF := Lib.hid (HF8.out.set cb2 0 (.pointer none) HCBL.out.2.2.1)
                      have HX := Lib.hid (show CodesBlk (w8.setCell ⟨cb2, 0, none⟩ (.pointer none)) cb none none from ((grown_set w8 cb2 0 (.pointer none)).block cb HX8.out.lt (fun e => HCBL.out.2.2.2.1 (Option.some.inj e))).trans HX8.out)
                      rw [← her]
                      clear her hm1
                      have hxx := HX.out
                      have cc0 := hxx.c0
                      have cc1 := hxx.c1
                      have cf0 := hxx.f 0
                      have cf1 := hxx.f 1
                      have c80 := ((hxx.set0 none).set1 none).c0
                      have c81 := ((hxx.set0 none).set1 none).c1
                      have HFF := Lib.hid ((HF.out.up (grown_set (w8.setCell ⟨cb2, 0, none⟩ (.pointer none)) cb 0 (.pointer none)) (Nat.le_of_eq HCB.out.symm)).up (grown_set _ cb 1 (.pointer none)) (Nat.le_of_eq HCB.out.symm))
                      clear hxx
                      go_wp2_with fail
                      refine bodyPost_ret (v := .tuple #[.agg #[.pointer none, .pointer none], .int .i64 er]) (by simp [results, Tryz.results195, go_sem, c80, c81]) rfl ?_
                      rw [HR.out]
                      exact ⟨rfl, HFF.out⟩
              · obtain rfl := HP0.out hmk
                obtain ⟨er, her⟩ : ∃ er, er = mk C := ⟨_, rfl⟩
                have hez : ((er : Int) != 0) = true := by rw [bne_iff_ne]; omega
                have HR := Lib.hid (show run xs most (dynR f) p o = .error er by rw [HE5.out]; show (if mk C ≠ 0 then _ else _) = _; rw [if_pos hmk, her])
                have HX := HX5
                rw [← her]
                clear her hmk
                have hxx := HX.out
                have cc0 := hxx.c0
                have cc1 := hxx.c1
                have cf0 := hxx.f 0
                have cf1 := hxx.f 1
                have c80 := ((hxx.set0 none).set1 none).c0
                have c81 := ((hxx.set0 none).set1 none).c1
                have HFF := Lib.hid ((HF5.out.up (grown_set w5 cb 0 (.pointer none)) (Nat.le_of_eq HCB.out.symm)).up (grown_set _ cb 1 (.pointer none)) (Nat.le_of_eq HCB.out.symm))
                clear hxx
                go_wp2_with fail
                refine bodyPost_ret (v := .tuple #[.agg #[.pointer none, .pointer none], .int .i64 er]) (by simp [results, Tryz.results195, go_sem, c80, c81]) rfl ?_
                rw [HR.out]
                exact ⟨rfl, HFF.out⟩
end Go.Proofs.YtpbijdoemdoijaaGreatDoor
end PkCa26_0
