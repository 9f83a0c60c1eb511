/- Package inflate: block, walked: one block, of whichever kind. -/
import Derived.Test.YtnfdojdppifmoaaDoorInfCodes
import Derived.Test.YtnfdojdppifmoaaDoorInfCopiedWalk
import Derived.Test.YtnfdojdppifmoaaDoorInfSymWalk
namespace Go.Proofs.YtnfdojdppifmoaaDoor
open Go.RowKit PrefPlain BitsPlain InfPlain
set_option linter.unusedVariables false

section
variable {w : World} {B R base : Nat} {ra : Option Addr} {n c : Nat} {xs : List Nat} {p : Nat} {v : Value} {o : List Nat} {most : Nat} {fl fd : Option Addr}
/-- what block's answer is, by what the tree says -/
def Blk (w : World) (B R base : Nat) (ra : Option Addr) (n c : Nat) (xs : List Nat) (v : Value) (most : Nat) (r : Except Nat (Nat × Nat × List Nat)) (e : Ending) (w' : World) : Prop :=
  match r with
  | .error er => ∃ b, e = .returned (.tuple #[.bool b, .int .i64 (er : Int)]) ∧ Fr w w' B R v
  | .ok (last, q, o') => e = .returned (.tuple #[.bool (last == 1), .int .i64 0]) ∧ Fr w w' B R v ∧ ∃ v' fl' fd', InAt w' B R base ra n c xs q v' o' most fl' fd' ∧ Went w v v' ∧ Fx w' B R v' fl' fd'
/-- behind what brings bytes out -/
def BlkThen (last : Nat) (r : Except Nat (Unit × Nat × List Nat)) : Except Nat (Nat × Nat × List Nat) := match r with | .error e => .error e | .ok (_, q, o) => .ok (last, q, o)
theorem then_ret {last : Nat} (t : Rd Unit) : run xs most (t.bind fun _ => .ret last) p o = BlkThen last (run xs most t p o) := by
  rw [run_bind]; unfold BlkThen
  cases run xs most t p o <;> rfl
/-- behind the codes -/
def BlkDyn (xs : List Nat) (most f last : Nat) (r : Except Nat ((List Int × List Int) × Nat × List Nat)) : Except Nat (Nat × Nat × List Nat) := match r with | .error e => .error e | .ok (LD, q, o) => BlkThen last (run xs most (symR LD.1 LD.2 f) q o)
theorem blk_1 {f : Nat} (hp : p ≤ 8 * xs.length) (h : 8 * xs.length < p + 1) : run xs most (blockR f) p o = .error 3 := by
  rw [blockR, run_bind, run_bits _ _ _ _ _ hp, if_pos h]
theorem blk_2 {f : Nat} (h : p + 1 ≤ 8 * xs.length) (h2 : 8 * xs.length < p + 1 + 2) : run xs most (blockR f) p o = .error 3 := by
  rw [blockR, run_bind, run_bits _ _ _ _ _ (by omega), if_neg (by omega)]
  show run xs most (Rd.bind _ _) _ o = _
  rw [run_bind, run_bits _ _ _ _ _ h, if_pos h2]
theorem blk_3 {f : Nat} (h : p + 1 + 2 ≤ 8 * xs.length) : run xs most (blockR f) p o =
    if num xs (p + 1) 2 = 3 then .error 4 else if num xs (p + 1) 2 = 0 then BlkThen (num xs p 1) (run xs most copyR (p + 1 + 2) o) else if num xs (p + 1) 2 = 1 then BlkThen (num xs p 1) (run xs most (symR fixL fixD f) (p + 1 + 2) o) else BlkDyn xs most f (num xs p 1) (run xs most (dynR f) (p + 1 + 2) o) := by
  rw [blockR, run_bind, run_bits _ _ _ _ _ (by omega), if_neg (by omega)]
  show run xs most (Rd.bind _ _) _ o = _
  rw [run_bind, run_bits _ _ _ _ _ (by omega), if_neg (by omega)]
  show run xs most (if _ then _ else _) _ o = _
  split
  · rfl
  · split
    · exact then_ret _
    · split
      · exact then_ret _
      · rw [run_bind]
        unfold BlkDyn
        cases run xs most (dynR f) (p + 1 + 2) o with
        | error e => rfl
        | ok r =>
          obtain ⟨LD, q, o1⟩ := r
          exact then_ret _
end

section
variable {w : World} {B R base : Nat} {ra : Option Addr} {n c : Nat} {xs : List Nat} {p : Nat} {v : Value} {o : List Nat} {most : Nat} {fl fd : Option Addr}
/-- a world with its codes' block set -/
def twoSet (w : World) (cb : Nat) (LB DB : Nat) : World := (w.setCell ⟨cb, 0, none⟩ (.pointer (some ⟨LB, 0, none⟩))).setCell ⟨cb, 1, none⟩ (.pointer (some ⟨DB, 0, none⟩))
theorem icodes_one (h : InAt w B R base ra n c xs p v o most fl fd) (hX : Fx w B R v fl fd) :
    Calls Tryd.prog 20 #[.pointer (some ⟨B, 0, none⟩), .int .u32 1] (w.alloc (.cells #[.pointer none, .pointer none] 39)) fun e w' => ∃ LB DB, e = .returned (.tuple #[.agg #[.pointer (some ⟨LB, 0, none⟩), .pointer (some ⟨DB, 0, none⟩)], .int .i64 0]) ∧ Fr w w' B R v ∧ InAt w' B R base ra n c xs p v o most (some ⟨LB, 0, none⟩) (some ⟨DB, 0, none⟩) ∧ CodesBlk w' w.heap.size none none ∧ Kept (twoSet w' w.heap.size LB DB) B R v LB fixL ∧ Kept (twoSet w' w.heap.size LB DB) B R v DB fixD := by
  have hb : Below w.heap.size w (w.alloc (.cells #[.pointer none, .pointer none] 39)) := (Below.refl _ _).alloc (Nat.le_refl _) _
  have hx : CodesBlk (w.alloc (.cells #[.pointer none, .pointer none] 39)) w.heap.size none none := heap_alloc_new w _
  have hn : w.heap.size ≠ B ∧ w.heap.size ≠ R ∧ some w.heap.size ≠ v.ownBlock := ⟨by have := h.hB; have := h.low; omega, by have := h.hR; have := h.low; omega, fun e => by have := h.vlt _ e.symm; omega⟩
  have hf := Fr.below (B := B) (R := R) (v := v) hb
  have hi := h.below hb
  rcases hX with rfl | ⟨LB, DB, rfl, rfl, hl, hd⟩
  · refine (icodes_new hi).mono ?_
    rintro e w' ⟨LB, DB, rfl, hf2, hi2, hul, hud⟩
    have hf3 := hf.trans (Went.refl _ _) hf2
    exact ⟨LB, DB, rfl, hf3, hi2, hx.fr hf2 hn, ((hul.set _ 0 _ hx.lt).set _ 1 _ hx.lt).kept hi, ((hud.set _ 0 _ hx.lt).set _ 1 _ hx.lt).kept hi⟩
  · refine (icodes_old hi).mono ?_
    rintro e w' ⟨rfl, hf2, hi2⟩
    have hf3 := hf.trans (Went.refl _ _) hf2
    have hf4 : Fr w (twoSet w' w.heap.size LB DB) B R v := (hf3.set w.heap.size 0 _ (Nat.le_refl _)).set w.heap.size 1 _ (Nat.le_refl _)
    exact ⟨LB, DB, rfl, hf3, hi2, hx.fr hf2 hn, hl.on hf4 (Went.refl _ _), hd.on hf4 (Went.refl _ _)⟩
/-- what comes of codes for kind 2 -/
def Cod2 (w : World) (B R base : Nat) (ra : Option Addr) (n c : Nat) (xs : List Nat) (v : Value) (most : Nat) (fl fd : Option Addr) (r : Except Nat ((List Int × List Int) × Nat × List Nat)) (e : Ending) (w' : World) : Prop :=
  match r with
  | .error er => e = .returned (.tuple #[.agg #[.pointer none, .pointer none], .int .i64 (er : Int)]) ∧ Fr w w' B R v ∧ CodesBlk w' w.heap.size none none
  | .ok (LD, q, o') => ∃ LB DB, e = .returned (.tuple #[.agg #[.pointer (some ⟨LB, 0, none⟩), .pointer (some ⟨DB, 0, none⟩)], .int .i64 0]) ∧ Fr w w' B R v ∧ InAt w' B R base ra n c xs q v o' most fl fd ∧ CodesBlk w' w.heap.size none none ∧ Kept (twoSet w' w.heap.size LB DB) B R v LB LD.1 ∧ Kept (twoSet w' w.heap.size LB DB) B R v DB LD.2
theorem icodes_two (h : InAt w B R base ra n c xs p v o most fl fd) (hO : Ordr w) (hB0 : 0 < B) (hR0 : 0 < R) (f : Nat) (hf0 : 8 * xs.length < p + f) :
    Calls Tryd.prog 20 #[.pointer (some ⟨B, 0, none⟩), .int .u32 2] (w.alloc (.cells #[.pointer none, .pointer none] 39)) fun e w' => Cod2 w B R base ra n c xs v most fl fd (run xs most (dynR f) p o) e w' := by
  have hb : Below w.heap.size w (w.alloc (.cells #[.pointer none, .pointer none] 39)) := (Below.refl _ _).alloc (Nat.le_refl _) _
  have hx : CodesBlk (w.alloc (.cells #[.pointer none, .pointer none] 39)) w.heap.size none none := heap_alloc_new w _
  have hn : w.heap.size ≠ B ∧ w.heap.size ≠ R ∧ some w.heap.size ≠ v.ownBlock := ⟨by have := h.hB; have := h.low; omega, by have := h.hR; have := h.low; omega, fun e => by have := h.vlt _ e.symm; omega⟩
  have hf := Fr.below (B := B) (R := R) (v := v) hb
  have hi := h.below hb
  have hV0 : v.ownBlock ≠ some 0 := fun e => by have := (h.own.lt 0 e).1; have := h.hB; omega
  refine (icodes_2 hi (hO.fr hf hB0 hR0 hV0) hB0 hR0 f hf0).mono ?_
  intro e w' hsay
  cases hr : run xs most (dynR f) p o with
  | error er =>
    rw [hr] at hsay
    obtain ⟨rfl, hf2⟩ := hsay
    exact ⟨rfl, hf.trans (Went.refl _ _) hf2, hx.fr hf2 hn⟩
  | ok r =>
    rw [hr] at hsay
    obtain ⟨LD, q, o'⟩ := r
    obtain ⟨LB, DB, rfl, hf2, hi2, hul, hud⟩ := hsay
    exact ⟨LB, DB, rfl, hf.trans (Went.refl _ _) hf2, hi2, hx.fr hf2 hn, ((hul.set _ 0 _ hx.lt).set _ 1 _ hx.lt).kept hi, ((hud.set _ 0 _ hx.lt).set _ 1 _ hx.lt).kept hi⟩
end

set_option maxRecDepth 100000 in
set_option maxHeartbeats 4000000 in
theorem iblock_any {w : World} {B R base : Nat} {ra : Option Addr} {n c : Nat} {xs : List Nat} {p : Nat} {v : Value} {o : List Nat} {most : Nat} {fl fd : Option Addr} (h : InAt w B R base ra n c xs p v o most fl fd) (hO : Ordr w) (hB0 : 0 < B) (hR0 : 0 < R) (hX : Fx w B R v fl fd) (f : Nat) (hf : 8 * xs.length < p + f) :
    Calls Tryd.prog 12 #[.pointer (some ⟨B, 0, none⟩)] w fun e w' => Blk w B R base ra n c xs v most (run xs most (blockR f) p o) e w' := by
  have HV0 := Lib.hid (show v.ownBlock ≠ some 0 from fun e => by have := (h.own.lt 0 e).1; have := h.hB; omega)
  have c0 := h.ib.c0
  have HH := Lib.hid h
  have HO := Lib.hid hO
  have HX := Lib.hid hX
  have HFU := Lib.hid hf
  have HPL := Lib.hid h.pl
  clear h hO hX hf
  go_enter Tryd.func12, Tryd.ntmps12
  by_cases s1 : 8 * xs.length < p + 1
  · have HB := Lib.hid (ibits_no HH.out.rd 1 (by omega) s1)
    have HR := Lib.hid (blk_1 (most := most) (o := o) (f := f) HPL.out s1)
    clear s1
    go_wp2_with fail
    refine HB.out.mono ?_
    rintro e w2 ⟨rfl, hr2, hg2⟩
    have HF2 := Lib.hid (Fr.rd B v hg2)
    clear hr2 hg2
    go_wp2_with fail
    go_ret2
    rw [HR.out]
    exact ⟨_, rfl, HF2.out⟩
  · have HS1 := Lib.hid (show p + 1 ≤ 8 * xs.length by omega)
    have HB := Lib.hid (ibits_yes HH.out.rd 1 (by omega) HS1.out)
    have hl2 := num_lt xs p 1
    obtain ⟨last, hlast⟩ : ∃ x, x = num xs p 1 := ⟨_, rfl⟩
    rw [← hlast] at HB hl2
    have HLAST := Lib.hid hlast
    have hl3 : last < 2 := by simpa using hl2
    clear s1 hlast hl2
    go_wp2_with fail
    refine HB.out.mono ?_
    rintro e w2 ⟨rfl, hr2, hg2⟩
    have hi2 := HH.out.read hr2 hg2
    have c02 := hi2.ib.c0
    have HF2 := Lib.hid (Fr.rd B v hg2)
    have HI2 := Lib.hid hi2
    clear hr2 hg2 hi2 c0
    by_cases s2 : 8 * xs.length < p + 1 + 2
    · have HB2 := Lib.hid (ibits_no HI2.out.rd 2 (by omega) s2)
      have HR := Lib.hid (blk_2 (most := most) (o := o) (f := f) HS1.out s2)
      clear s2
      go_wp2_with fail
      refine HB2.out.mono ?_
      rintro e w3 ⟨rfl, hr3, hg3⟩
      have HF3 := Lib.hid (HF2.out.trans (Went.refl _ _) (Fr.rd B v hg3))
      clear hr3 hg3
      go_wp2_with fail
      go_ret2
      rw [HR.out]
      exact ⟨_, rfl, HF3.out⟩
    · have HS2 := Lib.hid (show p + 1 + 2 ≤ 8 * xs.length by omega)
      have HB2 := Lib.hid (ibits_yes HI2.out.rd 2 (by omega) HS2.out)
      have hk2 := num_lt xs (p + 1) 2
      have E3 := blk_3 (most := most) (o := o) (f := f) HS2.out
      obtain ⟨kind, hkind⟩ : ∃ x, x = num xs (p + 1) 2 := ⟨_, rfl⟩
      rw [← hkind] at HB2 hk2 E3
      rw [← HLAST.out] at E3
      have hk3 : kind < 4 := by simpa using hk2
      have HE3 := Lib.hid E3
      clear s2 hkind hk2 E3
      go_wp2_with fail
      refine HB2.out.mono ?_
      rintro e w3 ⟨rfl, hr3, hg3⟩
      have hi3 := HI2.out.read hr3 hg3
      have HF3 := Lib.hid (HF2.out.trans (Went.refl _ _) (Fr.rd B v hg3))
      have HI3 := Lib.hid hi3
      clear hr3 hg3 hi3 c02
      have hlb : ((last : Int) == 1) = (last == 1) := by rw [Bool.eq_iff_iff, beq_iff_eq, beq_iff_eq]; omega
      have HLB := Lib.hid hlb
      clear hlb
      rcases (show kind = 0 ∨ kind = 1 ∨ kind = 2 ∨ kind = 3 by omega) with rfl | rfl | rfl | rfl
      · have HC := icopied_any HI3.out
        have E4 : run xs most (blockR f) p o = BlkThen last (run xs most copyR (p + 1 + 2) o) := HE3.out
        obtain ⟨rr, hrr⟩ : ∃ rr, rr = run xs most copyR (p + 1 + 2) o := ⟨_, rfl⟩
        rw [← hrr] at HC E4
        have HCC := Lib.hid HC
        have HE4 := Lib.hid E4
        clear HC E4 hrr
        go_wp2_with fail
        refine HCC.out.mono ?_
        rintro e w4 hsay
        cases rr with
        | error er =>
          obtain ⟨rfl, hf4⟩ := hsay
          have HF4 := Lib.hid (HF3.out.trans (Went.refl _ _) hf4)
          clear hf4
          go_wp2_with fail
          go_ret2
          rw [HE4.out]
          exact ⟨_, rfl, HF4.out⟩
        | ok r =>
          obtain ⟨u, q, o'⟩ := r
          obtain ⟨rfl, hf4, v4, hi4, hw4⟩ := hsay
          have HF4 := Lib.hid (HF3.out.trans (Went.refl _ _) hf4)
          have HI4 := Lib.hid hi4
          have HW4 := Lib.hid ((Went.refl w v).trans HF3.out.size hw4)
          clear hf4 hi4 hw4
          go_wp2_with fail
          go_ret2
          rw [HE4.out]
          exact ⟨by rw [← HLB.out]; rfl, HF4.out, v4, fl, fd, HI4.out, HW4.out, HX.out.on HF4.out HW4.out⟩
      · have E4 : run xs most (blockR f) p o = BlkThen last (run xs most (symR fixL fixD f) (p + 1 + 2) o) := HE3.out
        have HE4 := Lib.hid E4
        have HC1 := Lib.hid (icodes_one HI3.out (HX.out.on HF3.out (Went.refl _ _)))
        have HFU8 := Lib.hid (show 8 * xs.length < p + 1 + 2 + f by have := HFU.out; omega)
        obtain ⟨cb, hcb⟩ : ∃ cb, cb = w3.heap.size := ⟨_, rfl⟩
        have HCB := Lib.hid hcb
        clear E4 hcb
        go_wp2_with fail
        refine HC1.out.mono ?_
        rintro e w8 ⟨LB, DB, rfl, hf8, hi8, hx8, hkl, hkd⟩
        rw [← HCB.out] at hx8 hkl hkd ⊢
        have hx9 := (hx8.set0 (some ⟨LB, 0, none⟩)).set1 (some ⟨DB, 0, none⟩)
        have cc0 := hx8.c0
        have cc1 := hx8.c1
        have cf0 := hx8.f 0
        have cf1 := hx8.f 1
        have d0 := hx9.c0
        have d1 := hx9.c1
        have hcbb : base ≤ cb ∧ v.ownBlock ≠ some cb := ⟨by have := HI3.out.low; have := HCB.out; omega, fun e => by have := HI3.out.vlt cb e; have := HCB.out; omega⟩
        have hi9 := (hi8.set cb 0 (.pointer (some ⟨LB, 0, none⟩)) hcbb.1 hcbb.2).set cb 1 (.pointer (some ⟨DB, 0, none⟩)) hcbb.1 hcbb.2
        have hf9 := (hf8.set cb 0 (.pointer (some ⟨LB, 0, none⟩)) (Nat.le_of_eq HCB.out.symm)).set cb 1 (.pointer (some ⟨DB, 0, none⟩)) (Nat.le_of_eq HCB.out.symm)
        have HC := isym_any hi9 hkl hkd f (by have := HFU8.out; omega)
        obtain ⟨rr, hrr⟩ : ∃ rr, rr = run xs most (symR fixL fixD f) (p + 1 + 2) o := ⟨_, rfl⟩
        have E4 := HE4.out
        rw [← hrr] at HC E4
        have HCC := Lib.hid HC
        have HE5 := Lib.hid E4
        have HF9 := Lib.hid (HF3.out.trans (Went.refl _ _) hf9)
        have HKL := Lib.hid hkl
        have HKD := Lib.hid hkd
        clear hx8 hx9 hi8 hf8 hi9 hf9 hcbb HC E4 hrr hkl hkd
        go_wp2_with fail
        refine HCC.out.mono ?_
        rintro e w10 hsay
        cases rr with
        | error er =>
          obtain ⟨rfl, hf10⟩ := hsay
          have HF10 := Lib.hid (HF9.out.trans (Went.refl _ _) hf10)
          clear hf10 cc0 cc1 cf0 cf1 d0 d1
          go_wp2_with fail
          go_ret2
          rw [HE5.out]
          exact ⟨_, rfl, HF10.out⟩
        | ok r =>
          obtain ⟨u, q9, o9⟩ := r
          obtain ⟨rfl, hf10, v10, hi10, hw10⟩ := hsay
          have HF10 := Lib.hid (HF9.out.trans (Went.refl _ _) hf10)
          have HI10 := Lib.hid hi10
          have HW10 := Lib.hid ((Went.refl w v).trans HF9.out.size hw10)
          have HFX := Lib.hid (show Fx w10 B R v10 (some ⟨LB, 0, none⟩) (some ⟨DB, 0, none⟩) from .inr ⟨LB, DB, rfl, rfl, HKL.out.on hf10 hw10, HKD.out.on hf10 hw10⟩)
          clear hf10 hi10 hw10 cc0 cc1 cf0 cf1 d0 d1
          go_wp2_with fail
          go_ret2
          rw [HE5.out]
          exact ⟨by rw [← HLB.out]; rfl, HF10.out, v10, _, _, HI10.out, HW10.out, HFX.out⟩
      · have E4 : run xs most (blockR f) p o = BlkDyn xs most f last (run xs most (dynR f) (p + 1 + 2) o) := HE3.out
        have HC1 := icodes_two HI3.out (HO.out.fr HF3.out hB0 hR0 HV0.out) hB0 hR0 f (by have := HFU.out; omega)
        have hnz := nz_dyn f xs most (p + 1 + 2) o
        have hle := fun C q o1 => @run_le _ xs most (dynR f) (p + 1 + 2) o C q o1
        obtain ⟨rd, hrd⟩ : ∃ rd, rd = run xs most (dynR f) (p + 1 + 2) o := ⟨_, rfl⟩
        rw [← hrd] at HC1 E4 hnz hle
        have HC2 := Lib.hid HC1
        have HE3' := Lib.hid E4
        have HNZ := Lib.hid hnz
        have HLE := Lib.hid hle
        obtain ⟨cb, hcb⟩ : ∃ cb, cb = w3.heap.size := ⟨_, rfl⟩
        have HCB := Lib.hid hcb
        clear E4 hcb HC1 hnz hle hrd
        go_wp2_with fail
        refine HC2.out.mono ?_
        rintro e w8 hsay
        cases rd with
        | error er =>
          obtain ⟨rfl, hf8, hx8⟩ := hsay
          rw [← HCB.out] at hx8 ⊢
          have cc0 := hx8.c0
          have cc1 := hx8.c1
          have cf0 := hx8.f 0
          have cf1 := hx8.f 1
          have hez : ((er : Int) == 0) = false := by rw [beq_eq_false_iff_ne]; have := HNZ.out er rfl; omega
          have HF9 := Lib.hid (HF3.out.trans (Went.refl _ _) ((hf8.set cb 0 (.pointer none) (Nat.le_of_eq HCB.out.symm)).set cb 1 (.pointer none) (Nat.le_of_eq HCB.out.symm)))
          clear hx8 hf8
          go_wp2_with fail
          go_ret2
          rw [HE3'.out]
          exact ⟨_, rfl, HF9.out⟩
        | ok r =>
          obtain ⟨LD, q8, o8⟩ := r
          obtain ⟨LB, DB, rfl, hf8, hi8, hx8, hkl, hkd⟩ := hsay
          rw [← HCB.out] at hx8 hkl hkd ⊢
          have HFU8 := Lib.hid (show 8 * xs.length < q8 + f by have := (HLE.out LD q8 o8 rfl).1; have := HFU.out; omega)
          have HE4 := Lib.hid (show run xs most (blockR f) p o = BlkThen last (run xs most (symR LD.1 LD.2 f) q8 o8) from HE3'.out)
          have hx9 := (hx8.set0 (some ⟨LB, 0, none⟩)).set1 (some ⟨DB, 0, none⟩)
          have cc0 := hx8.c0
          have cc1 := hx8.c1
          have cf0 := hx8.f 0
          have cf1 := hx8.f 1
          have d0 := hx9.c0
          have d1 := hx9.c1
          have hcbb : base ≤ cb ∧ v.ownBlock ≠ some cb := ⟨by have := HI3.out.low; have := HCB.out; omega, fun e => by have := HI3.out.vlt cb e; have := HCB.out; omega⟩
          have hi9 := (hi8.set cb 0 (.pointer (some ⟨LB, 0, none⟩)) hcbb.1 hcbb.2).set cb 1 (.pointer (some ⟨DB, 0, none⟩)) hcbb.1 hcbb.2
          have hf9 := (hf8.set cb 0 (.pointer (some ⟨LB, 0, none⟩)) (Nat.le_of_eq HCB.out.symm)).set cb 1 (.pointer (some ⟨DB, 0, none⟩)) (Nat.le_of_eq HCB.out.symm)
          have HC := isym_any hi9 hkl hkd f (by have := HFU8.out; omega)
          obtain ⟨rr, hrr⟩ : ∃ rr, rr = run xs most (symR LD.1 LD.2 f) (q8) o8 := ⟨_, rfl⟩
          have E4 := HE4.out
          rw [← hrr] at HC E4
          have HCC := Lib.hid HC
          have HE5 := Lib.hid E4
          have HF9 := Lib.hid (HF3.out.trans (Went.refl _ _) hf9)
          have HKL := Lib.hid hkl
          have HKD := Lib.hid hkd
          clear hx8 hx9 hi8 hf8 hi9 hf9 hcbb HC E4 hrr hkl hkd
          go_wp2_with fail
          refine HCC.out.mono ?_
          rintro e w10 hsay
          cases rr with
          | error er =>
            obtain ⟨rfl, hf10⟩ := hsay
            have HF10 := Lib.hid (HF9.out.trans (Went.refl _ _) hf10)
            clear hf10 cc0 cc1 cf0 cf1 d0 d1
            go_wp2_with fail
            go_ret2
            rw [HE5.out]
            exact ⟨_, rfl, HF10.out⟩
          | ok r =>
            obtain ⟨u, q9, o9⟩ := r
            obtain ⟨rfl, hf10, v10, hi10, hw10⟩ := hsay
            have HF10 := Lib.hid (HF9.out.trans (Went.refl _ _) hf10)
            have HI10 := Lib.hid hi10
            have HW10 := Lib.hid ((Went.refl w v).trans HF9.out.size hw10)
            have HFX := Lib.hid (show Fx w10 B R v10 fl fd from HX.out.on HF10.out HW10.out)
            clear hf10 hi10 hw10 cc0 cc1 cf0 cf1 d0 d1
            go_wp2_with fail
            go_ret2
            rw [HE5.out]
            exact ⟨by rw [← HLB.out]; rfl, HF10.out, v10, _, _, HI10.out, HW10.out, HFX.out⟩
      · have HR := Lib.hid (show run xs most (blockR f) p o = .error 4 from HE3.out)
        go_wp2_with fail
        go_ret2
        rw [HR.out]
        exact ⟨_, rfl, HF3.out⟩
end Go.Proofs.YtnfdojdppifmoaaDoor
