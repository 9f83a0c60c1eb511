/- Package inflate: thirdCode, walked: the code by which the lengths are told. -/
import Derived.Test.YtnfdojdppifmoaaDoorInfFixed
namespace Go.Proofs.YtnfdojdppifmoaaDoor
open Go.RowKit PrefPlain BitsPlain InfPlain
set_option linter.unusedVariables false

/-- the order's table, as the program begins with it -/
def Ordr (w : World) : Prop := ∀ r, r < 19 → w.cell? ⟨0, r, none⟩ = some (.int .i64 ((ordr.getD r 0 : Nat) : Int))
theorem ordr_lt : ∀ r, r < 19 → ordr.getD r 0 < 19 := by decide
theorem Ordr.pos {w : World} (h : Ordr w) : 0 < w.heap.size := World.block_lt_of_cell? w _ (h 0 (by omega))
theorem Ordr.fr {w w' : World} {B R : Nat} {v : Value} (h : Ordr w) (hf : Fr w w' B R v) (hB : 0 < B) (hR : 0 < R) (hv : v.ownBlock ≠ some 0) : Ordr w' := fun r hr => by
  have h1 := h r hr
  have := hf.block 0 h.pos (by omega) (by omega) (fun e => hv e.symm)
  exact (World.cell?_of_block (w := w) (a := ⟨0, r, none⟩) this).trans h1

section
variable {w : World} {B R base : Nat} {ra : Option Addr} {n c : Nat} {xs : List Nat} {p : Nat} {v : Value} {o : List Nat} {most : Nat} {fl fd : Option Addr}
theorem InAt.grown {w' : World} {tb : Nat} (h : InAt w B R base ra n c xs p v o most fl fd) (hg : w.grownBy w' (some tb)) (htb : base ≤ tb) (hv : v.ownBlock ≠ some tb) : InAt w' B R base ra n c xs p v o most fl fd := by
  have hB := h.hB
  have hR := h.hR
  refine ⟨h.ib.other (hg.block B h.ib.lt (fun e => by have := Option.some.inj e; omega)), ⟨(hg.block R h.rd.lt (fun e => by have := Option.some.inj e; omega)).trans h.rd.blk, ?_, h.rd.apart, h.rd.le⟩, h.own.kept hg (.inr hv), h.byte, h.lim, h.most, Nat.le_trans h.low hg.size, h.hB, h.hR, h.ne, h.src⟩
  have hs := h.rd.src
  exact ⟨hs.len, hs.cap, hs.byte, hs.reach, hs.capm, hs.nl, fun hp => by
    obtain ⟨b, off, ha, hlt, hc⟩ := hs.cells hp
    obtain ⟨s1, s2⟩ := h.src b off _ hp ha
    exact ⟨b, off, ha, Nat.lt_of_lt_of_le hlt hg.size, fun k hk => (World.cell?_of_block (w := w) (hg.block b hlt (fun e => by have := Option.some.inj e; omega))).trans (hc k hk)⟩⟩
/-- what thirdCode's answer is, by what the tree says -/
def Third (w : World) (B R base : Nat) (ra : Option Addr) (n c : Nat) (xs : List Nat) (v : Value) (most : Nat) (fl fd : Option Addr) (r : Except Nat (List Int × Nat × List Nat)) (e : Ending) (w' : World) : Prop :=
  match r with
  | .error er => e = .returned (.tuple #[.pointer none, .int .i64 (er : Int)]) ∧ Fr w w' B R v
  | .ok (C, q, o') => ∃ pt, e = .returned (.tuple #[.pointer pt, .int .i64 ((mk C : Nat) : Int)]) ∧ Fr w w' B R v ∧ InAt w' B R base ra n c xs q v o' most fl fd ∧ (mk C ≠ 0 → pt = none) ∧ (mk C = 0 → ∃ TB, pt = some ⟨TB, 0, none⟩ ∧ Kept w' B R v TB C)
theorem third_1 {m i : Nat} {l : List Int} (hp : p ≤ 8 * xs.length) (hs : 8 * xs.length < p + 3) : run xs most (thirdR (m + 1) i l) p o = .error 3 := by
  rw [thirdR, run_bind, run_bits _ _ _ _ _ hp, if_pos hs]
theorem third_2 {m i : Nat} {l : List Int} (hs : p + 3 ≤ 8 * xs.length) : run xs most (thirdR (m + 1) i l) p o = run xs most (thirdR m (i + 1) (l.set (ordr.getD i 0) ((num xs p 3 : Nat) : Int))) (p + 3) o := by
  rw [thirdR, run_bind, run_bits _ _ _ _ _ (by omega), if_neg (by omega)]
end
/-- the loop over the third code's lengths -/
structure Td (xs : List Nat) (most N p0 : Nat) (o : List Nat) (k p : Nat) (l : List Int) : Prop where
  run : run xs most (thirdR N 0 (List.replicate 19 0)) p0 o = run xs most (thirdR (N - k) k l) p o
  len : l.length = 19
  wf : ∀ z ∈ l, 0 ≤ z ∧ z < 8
theorem set_row {w : World} {tb m : Nat} {l : List Int} {t : TypeId} {z : Int} (h : w.heap[tb]? = some (.cells (iv .i64 l).toArray t (0, 0))) : (w.setCell ⟨tb, m, none⟩ (.int .i64 z)).heap[tb]? = some (.cells (iv .i64 (l.set m z)).toArray t (0, 0)) := by
  rw [heap_setCell_same w tb m _ _ _ h, List.setIfInBounds_toArray, iv_set]
theorem row_get {w : World} {tb m : Nat} {l : List Int} {t : TypeId} (h : w.heap[tb]? = some (.cells (iv .i64 l).toArray t (0, 0))) (hm : m < l.length) : w.cell? ⟨tb, m, none⟩ = some (.int .i64 (l.getD m 0)) := by
  rw [cell_of_row w tb m _ _ (0, 0) h, List.getElem?_toArray, iv_get _ _ _ hm]
theorem grown_set (w : World) (tb m : Nat) (u : Value) : w.grownBy (w.setCell ⟨tb, m, none⟩ u) (some tb) :=
  ⟨rfl, rfl, rfl, by simp, fun k hk hne => heap_setCell_other _ _ _ _ (fun e => hne (by rw [e]))⟩
theorem Fr.up {w w1 w2 : World} {B R : Nat} {v : Value} (h : Fr w w1 B R v) {tb : Nat} (hg : w1.grownBy w2 (some tb)) (htb : w.heap.size ≤ tb) : Fr w w2 B R v :=
  ⟨hg.os.trans h.os, hg.tape.trans h.tape, hg.output.trans h.output, Nat.le_trans h.size hg.size, fun k hk h1 h2 h3 => (hg.block k (Nat.lt_of_lt_of_le hk h.size) (fun e => by have := Option.some.inj e; omega)).trans (h.block k hk h1 h2 h3)⟩

set_option maxRecDepth 100000 in
set_option maxHeartbeats 2000000 in
theorem ithird_any {w : World} {B R base : Nat} {ra : Option Addr} {n c : Nat} {xs : List Nat} {p : Nat} {v : Value} {o : List Nat} {most : Nat} {fl fd : Option Addr} (h : InAt w B R base ra n c xs p v o most fl fd) (hO : Ordr w) (hB0 : 0 < B) (hR0 : 0 < R) (N : Nat) (hN : N ≤ 19) :
    Calls Tryd.prog 43 #[.pointer (some ⟨B, 0, none⟩), .int .i64 (N : Int)] w fun e w' => Third w B R base ra n c xs v most fl fd (run xs most (thirdR N 0 (List.replicate 19 0)) p o) e w' := by
  have hv0 : v.ownBlock ≠ some 0 := fun e => by have := (h.own.lt 0 e).1; have := h.hB; omega
  have HV0 := Lib.hid hv0
  have HH := Lib.hid h
  have HO := Lib.hid hO
  obtain ⟨w1, hw1⟩ : ∃ w1, w1 = w.alloc (.cells (iv .i64 (List.replicate 19 0)).toArray 102) := ⟨_, rfl⟩
  have hb1 : Below w.heap.size w w1 := by rw [hw1]; exact (Below.refl _ _).alloc (Nat.le_refl _) _
  have HX1 := Lib.hid (show w1.heap[w.heap.size]? = some (.cells (iv .i64 (List.replicate 19 0)).toArray 102 (0, 0)) by rw [hw1]; exact heap_alloc_new w _)
  have HI1 := Lib.hid (h.below hb1)
  have HF1 := Lib.hid (Fr.below (B := B) (R := R) (v := v) hb1)
  have HT1 := Lib.hid (show Td xs most N p o 0 p (List.replicate 19 0) from ⟨rfl, by simp, by intro z hz; rw [List.mem_replicate] at hz; rw [hz.2]; omega⟩)
  have HW1 := Lib.hid hw1
  obtain ⟨tb, htb⟩ : ∃ tb, tb = w.heap.size := ⟨_, rfl⟩
  have HTB := Lib.hid htb
  have htbV : v.ownBlock ≠ some tb := fun e => by have := h.vlt tb e; omega
  have HTV := Lib.hid htbV
  clear h hO hv0 hb1 hw1 htb htbV
  go_enter Tryd.func43, Tryd.ntmps43
  go_wp2_with fail
  generalize hw2 : w.alloc (Obj.cells _ _) = w2
  obtain rfl : w2 = w1 := by rw [← hw2, HW1.out]; rfl
  rw [← HTB.out]
  clear hw2
  go_loopw [11] (fun s11 wr => ∃ (k q : Nat) (l : List Int), k ≤ N ∧ s11 = .int .i64 (k : Int) ∧ Hid (Td xs most N p o k q l) ∧ Hid (wr.heap[tb]? = some (.cells (iv .i64 l).toArray 102 (0, 0))) ∧ Hid (InAt wr B R base ra n c xs q v o most fl fd) ∧ Hid (Fr w wr B R v)) (fun s11 _ => N - (intOf s11).toNat)
  case atStart => exact ⟨0, p, _, by omega, rfl, HT1, Lib.hid (by rw [HTB.out]; exact HX1.out), HI1, HF1⟩
  case round =>
    clear HI1 HF1 HT1 HX1
    obtain ⟨k, q, l, hk, rfl, HT, HX, HI, HF⟩ := hrel
    rename World => wr
    by_cases hkN : k < N
    · have HC := Lib.hid (icount_any HI.out 3 0 (by omega) (by omega))
      have hm19 := ordr_lt k (by omega)
      obtain ⟨m, hm⟩ : ∃ m, m = ordr.getD k 0 := ⟨_, rfl⟩
      have HM := Lib.hid hm
      rw [← hm] at hm19
      have hsub : N - k = (N - (k + 1)) + 1 := by omega
      have HSUB := Lib.hid hsub
      have HQ := Lib.hid HI.out.pl
      clear hm hsub
      go_wp2_with fail
      refine HC.out.mono ?_
      rintro e w3 (⟨hs, rfl, hg, hi3⟩ | ⟨hs, rfl, hg, hi3⟩)
      · have HR := Lib.hid (show run xs most (thirdR N 0 (List.replicate 19 0)) p o = .error 3 by rw [HT.out.run, HSUB.out]; exact third_1 HQ.out hs)
        have HF3 := Lib.hid (HF.out.trans (Went.refl _ _) (Fr.rd B v hg))
        clear hs hg hi3
        go_wp2_with fail
        go_ret2
        rw [HR.out]
        exact ⟨rfl, HF3.out⟩
      · have hf3 := HF.out.trans (Went.refl _ _) (Fr.rd B v hg)
        have hx3 : w3.heap[tb]? = some (.cells (iv .i64 l).toArray 102 (0, 0)) := (hg.block tb (Array.getElem?_eq_some_iff.1 HX.out).1 (fun e => by have := Option.some.inj e; have := HH.out.hR; have := HH.out.low; have := HTB.out; omega)).trans HX.out
        have hor : w3.cell? ⟨0, k, none⟩ = some (.int .i64 (m : Int)) := by rw [HM.out]; exact (HO.out.fr hf3 hB0 hR0 HV0.out) k (by omega)
        have hcx := row_get (m := m) hx3 (by rw [HT.out.len]; exact hm19)
        have hfx := frozen_of_row w3 tb m _ _ hx3
        have hN8 := num_lt xs q 3
        have HR := Lib.hid (show run xs most (thirdR N 0 (List.replicate 19 0)) p o = run xs most (thirdR (N - (k + 1)) (k + 1) (l.set (ordr.getD k 0) ((num xs q 3 : Nat) : Int))) (q + 3) o by rw [HT.out.run, HSUB.out]; exact third_2 hs)
        obtain ⟨z, hz⟩ : ∃ z, z = num xs q 3 := ⟨_, rfl⟩
        have HZ := Lib.hid hz
        have hz8 : z < 8 := by rw [hz]; simpa using hN8
        rw [← hz] at HR ⊢
        rw [← HM.out] at HR
        have HT3 : Hid (Td xs most N p o (k + 1) (q + 3) (l.set m (z : Int))) := Lib.hid ⟨HR.out, by rw [List.length_set]; exact HT.out.len, fun y hy => by
          rcases List.mem_or_eq_of_mem_set hy with h1 | h1
          · exact HT.out.wf y h1
          · rw [h1]; omega⟩
        have hg4 := grown_set w3 tb m (.int .i64 (z : Int))
        have HI4 := Lib.hid (hi3.grown hg4 (by have := HH.out.low; have := HTB.out; omega) HTV.out)
        have HX4 := Lib.hid (set_row (m := m) (z := (z : Int)) hx3)
        have HF4 := Lib.hid (hf3.up hg4 (by have := HTB.out; omega))
        have hki : (k : Int) < 19 := by omega
        have hmi : (m : Int) < 19 := by omega
        obtain ⟨x, hx⟩ : ∃ x, x = l.getD m 0 := ⟨_, rfl⟩
        rw [← hx] at hcx
        have hze : z + 0 = z := Nat.add_zero z
        clear hs hg hi3 hf3 hx3 hN8 hz hg4 hx
        rw [hze]
        clear hze
        go_wp2_with fail
        go_roundw
        case rel => exact ⟨k + 1, q + 3, _, by omega, by go_num, HT3, HX4, HI4, HF4⟩
        case measure => simp [intOf]; omega
    · obtain rfl : k = N := by omega
      have hI : IntsAt .i64 wr (some ⟨tb, 0, none⟩) 19 19 l := ⟨HT.out.len, by omega, fun z hz => wf_int (by have := HT.out.wf z hz; omega), by omega, (fun e => by cases e), fun _ => ⟨tb, 0, rfl, (Array.getElem?_eq_some_iff.1 HX.out).1, fun i hi => by
        rw [Nat.zero_add]; exact row_get HX.out (by rw [HT.out.len]; exact hi)⟩⟩
      have HM := Lib.hid (make2_any hI)
      have HR := Lib.hid (show run xs most (thirdR k 0 (List.replicate 19 0)) p o = .ok (l, q, o) by rw [HT.out.run, Nat.sub_self]; rfl)
      clear hI
      go_wp2_with fail
      refine HM.out.mono ?_
      rintro e w5 ⟨pt, rfl, hb5, hp0, hp⟩
      have HB5 := Lib.hid hb5
      have HP0 := Lib.hid hp0
      have HP := Lib.hid hp
      clear hb5 hp0 hp
      go_wp2_with fail
      go_ret2
      rw [HR.out]
      refine ⟨pt, rfl, HF.out.trans (Went.refl _ _) (Fr.below HB5.out), HI.out.below HB5.out, HP0.out, fun h0 => ?_⟩
      obtain ⟨TB, h1, h2, h3⟩ := HP.out h0
      have hlow := HI.out.low
      have hBb := HI.out.hB
      have hRb := HI.out.hR
      exact ⟨TB, h1, tab_kept h3 (by omega) (by omega) (fun g hg => HI.out.vlt g hg) h2⟩
end Go.Proofs.YtnfdojdppifmoaaDoor
