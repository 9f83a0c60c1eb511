/- Texts put together by packtpl2.py: InfBlock, InfInflate, InfLives. -/
import Derived.Test.YtpbijdoemdoijaaGreatDoorPkCa27
section PkCa28_0
/- Package inflate: block, walked: one block, of whichever kind. -/
namespace Go.Proofs.YtpbijdoemdoijaaGreatDoor
open Go.RowKit PrefPlain BitsPlain InfPlain
set_option linter.unusedVariables false

section
variable {w : World} {B R base : Nat} {ra : Option Addr} {n c : Nat} {xs : List Nat} {p : Nat} {v : Value} {o : List Nat} {most : Nat} {fl fd : Option Addr}
/-- what block's answer is, by what the tree says -/
def Blk (w : World) (B R base : Nat) (ra : Option Addr) (n c : Nat) (xs : List Nat) (v : Value) (most : Nat) (r : Except Nat (Nat × Nat × List Nat)) (e : Ending) (w' : World) : Prop :=
  match r with
  | .error er => ∃ b, e = .returned (.tuple #[.bool b, .int .i64 (er : Int)]) ∧ Fr w w' B R v
  | .ok (last, q, o') => e = .returned (.tuple #[.bool (last == 1), .int .i64 0]) ∧ Fr w w' B R v ∧ ∃ v' fl' fd', InAt w' B R base ra n c xs q v' o' most fl' fd' ∧ Went w v v' ∧ Fx w' B R v' fl' fd'
/-- behind what brings bytes out -/
def BlkThen (last : Nat) (r : Except Nat (Unit × Nat × List Nat)) : Except Nat (Nat × Nat × List Nat) := match r with | .error e => .error e | .ok (_, q, o) => .ok (last, q, o)
theorem then_ret {last : Nat} (t : Rd Unit) : run xs most (t.bind fun _ => .ret last) p o = BlkThen last (run xs most t p o) := by
  rw [run_bind]; unfold BlkThen
  cases run xs most t p o <;> rfl
/-- behind the codes -/
def BlkDyn (xs : List Nat) (most f last : Nat) (r : Except Nat ((List Int × List Int) × Nat × List Nat)) : Except Nat (Nat × Nat × List Nat) := match r with | .error e => .error e | .ok (LD, q, o) => BlkThen last (run xs most (symR LD.1 LD.2 f) q o)
theorem blk_1 {f : Nat} (hp : p ≤ 8 * xs.length) (h : 8 * xs.length < p + 1) : run xs most (blockR f) p o = .error 3 := by
  rw [blockR, run_bind, run_bits _ _ _ _ _ hp, if_pos h]
theorem blk_2 {f : Nat} (h : p + 1 ≤ 8 * xs.length) (h2 : 8 * xs.length < p + 1 + 2) : run xs most (blockR f) p o = .error 3 := by
  rw [blockR, run_bind, run_bits _ _ _ _ _ (by omega), if_neg (by omega)]
  show run xs most (Rd.bind _ _) _ o = _
  rw [run_bind, run_bits _ _ _ _ _ h, if_pos h2]
theorem blk_3 {f : Nat} (h : p + 1 + 2 ≤ 8 * xs.length) : run xs most (blockR f) p o =
    if num xs (p + 1) 2 = 3 then .error 4 else if num xs (p + 1) 2 = 0 then BlkThen (num xs p 1) (run xs most copyR (p + 1 + 2) o) else if num xs (p + 1) 2 = 1 then BlkThen (num xs p 1) (run xs most (symR fixL fixD f) (p + 1 + 2) o) else BlkDyn xs most f (num xs p 1) (run xs most (dynR f) (p + 1 + 2) o) := by
  rw [blockR, run_bind, run_bits _ _ _ _ _ (by omega), if_neg (by omega)]
  show run xs most (Rd.bind _ _) _ o = _
  rw [run_bind, run_bits _ _ _ _ _ (by omega), if_neg (by omega)]
  show run xs most (if _ then _ else _) _ o = _
  split
  · rfl
  · split
    · exact then_ret _
    · split
      · exact then_ret _
      · rw [run_bind]
        unfold BlkDyn
        cases run xs most (dynR f) (p + 1 + 2) o with
        | error e => rfl
        | ok r =>
          obtain ⟨LD, q, o1⟩ := r
          exact then_ret _
end

section
variable {w : World} {B R base : Nat} {ra : Option Addr} {n c : Nat} {xs : List Nat} {p : Nat} {v : Value} {o : List Nat} {most : Nat} {fl fd : Option Addr}
/-- a world with its codes' block set -/
def twoSet (w : World) (cb : Nat) (LB DB : Nat) : World := (w.setCell ⟨cb, 0, none⟩ (.pointer (some ⟨LB, 0, none⟩))).setCell ⟨cb, 1, none⟩ (.pointer (some ⟨DB, 0, none⟩))
theorem icodes_one (h : InAt w B R base ra n c xs p v o most fl fd) (hX : Fx w B R v fl fd) :
    Calls Tryz.prog 184 #[.pointer (some ⟨B, 0, none⟩), .int .u32 1] (w.alloc (.cells #[.pointer none, .pointer none] 187)) fun e w' => ∃ LB DB, e = .returned (.tuple #[.agg #[.pointer (some ⟨LB, 0, none⟩), .pointer (some ⟨DB, 0, none⟩)], .int .i64 0]) ∧ Fr w w' B R v ∧ InAt w' B R base ra n c xs p v o most (some ⟨LB, 0, none⟩) (some ⟨DB, 0, none⟩) ∧ CodesBlk w' w.heap.size none none ∧ Kept (twoSet w' w.heap.size LB DB) B R v LB fixL ∧ Kept (twoSet w' w.heap.size LB DB) B R v DB fixD := by
  have hb : Below w.heap.size w (w.alloc (.cells #[.pointer none, .pointer none] 187)) := (Below.refl _ _).alloc (Nat.le_refl _) _
  have hx : CodesBlk (w.alloc (.cells #[.pointer none, .pointer none] 187)) w.heap.size none none := heap_alloc_new w _
  have hn : w.heap.size ≠ B ∧ w.heap.size ≠ R ∧ some w.heap.size ≠ v.ownBlock := ⟨by have := h.hB; have := h.low; omega, by have := h.hR; have := h.low; omega, fun e => by have := h.vlt _ e.symm; omega⟩
  have hf := Fr.below (B := B) (R := R) (v := v) hb
  have hi := h.below hb
  rcases hX with rfl | ⟨LB, DB, rfl, rfl, hl, hd⟩
  · refine (icodes_new hi).mono ?_
    rintro e w' ⟨LB, DB, rfl, hf2, hi2, hul, hud⟩
    have hf3 := hf.trans (Went.refl _ _) hf2
    exact ⟨LB, DB, rfl, hf3, hi2, hx.fr hf2 hn, ((hul.set _ 0 _ hx.lt).set _ 1 _ hx.lt).kept hi, ((hud.set _ 0 _ hx.lt).set _ 1 _ hx.lt).kept hi⟩
  · refine (icodes_old hi).mono ?_
    rintro e w' ⟨rfl, hf2, hi2⟩
    have hf3 := hf.trans (Went.refl _ _) hf2
    have hf4 : Fr w (twoSet w' w.heap.size LB DB) B R v := (hf3.set w.heap.size 0 _ (Nat.le_refl _)).set w.heap.size 1 _ (Nat.le_refl _)
    exact ⟨LB, DB, rfl, hf3, hi2, hx.fr hf2 hn, hl.on hf4 (Went.refl _ _), hd.on hf4 (Went.refl _ _)⟩
/-- what comes of codes for kind 2 -/
def Cod2 (w : World) (B R base : Nat) (ra : Option Addr) (n c : Nat) (xs : List Nat) (v : Value) (most : Nat) (fl fd : Option Addr) (r : Except Nat ((List Int × List Int) × Nat × List Nat)) (e : Ending) (w' : World) : Prop :=
  match r with
  | .error er => e = .returned (.tuple #[.agg #[.pointer none, .pointer none], .int .i64 (er : Int)]) ∧ Fr w w' B R v ∧ CodesBlk w' w.heap.size none none
  | .ok (LD, q, o') => ∃ LB DB, e = .returned (.tuple #[.agg #[.pointer (some ⟨LB, 0, none⟩), .pointer (some ⟨DB, 0, none⟩)], .int .i64 0]) ∧ Fr w w' B R v ∧ InAt w' B R base ra n c xs q v o' most fl fd ∧ CodesBlk w' w.heap.size none none ∧ Kept (twoSet w' w.heap.size LB DB) B R v LB LD.1 ∧ Kept (twoSet w' w.heap.size LB DB) B R v DB LD.2
theorem icodes_two (h : InAt w B R base ra n c xs p v o most fl fd) (hO : Ordr w) (hB0 : 1 < B) (hR0 : 1 < R) (f : Nat) (hf0 : 8 * xs.length < p + f) :
    Calls Tryz.prog 184 #[.pointer (some ⟨B, 0, none⟩), .int .u32 2] (w.alloc (.cells #[.pointer none, .pointer none] 187)) fun e w' => Cod2 w B R base ra n c xs v most fl fd (run xs most (dynR f) p o) e w' := by
  have hb : Below w.heap.size w (w.alloc (.cells #[.pointer none, .pointer none] 187)) := (Below.refl _ _).alloc (Nat.le_refl _) _
  have hx : CodesBlk (w.alloc (.cells #[.pointer none, .pointer none] 187)) w.heap.size none none := heap_alloc_new w _
  have hn : w.heap.size ≠ B ∧ w.heap.size ≠ R ∧ some w.heap.size ≠ v.ownBlock := ⟨by have := h.hB; have := h.low; omega, by have := h.hR; have := h.low; omega, fun e => by have := h.vlt _ e.symm; omega⟩
  have hf := Fr.below (B := B) (R := R) (v := v) hb
  have hi := h.below hb
  have hV0 : v.ownBlock ≠ some 1 := fun e => by have := (h.own.lt 1 e).1; have := h.hB; omega
  refine (icodes_2 hi (hO.fr hf hB0 hR0 hV0) hB0 hR0 f hf0).mono ?_
  intro e w' hsay
  cases hr : run xs most (dynR f) p o with
  | error er =>
    rw [hr] at hsay
    obtain ⟨rfl, hf2⟩ := hsay
    exact ⟨rfl, hf.trans (Went.refl _ _) hf2, hx.fr hf2 hn⟩
  | ok r =>
    rw [hr] at hsay
    obtain ⟨LD, q, o'⟩ := r
    obtain ⟨LB, DB, rfl, hf2, hi2, hul, hud⟩ := hsay
    exact ⟨LB, DB, rfl, hf.trans (Went.refl _ _) hf2, hi2, hx.fr hf2 hn, ((hul.set _ 0 _ hx.lt).set _ 1 _ hx.lt).kept hi, ((hud.set _ 0 _ hx.lt).set _ 1 _ hx.lt).kept hi⟩
end

set_option maxRecDepth 100000 in
set_option maxHeartbeats 4000000 in
theorem iblock_any {w : World} {B R base : Nat} {ra : Option Addr} {n c : Nat} {xs : List Nat} {p : Nat} {v : Value} {o : List Nat} {most : Nat} {fl fd : Option Addr} (h : InAt w B R base ra n c xs p v o most fl fd) (hO : Ordr w) (hB0 : 1 < B) (hR0 : 1 < R) (hX : Fx w B R v fl fd) (f : Nat) (hf : 8 * xs.length < p + f) :
    Calls Tryz.prog 162 #[.pointer (some ⟨B, 0, none⟩)] w fun e w' => Blk w B R base ra n c xs v most (run xs most (blockR f) p o) e w' := by
  have HV0 := Lib.hid (show v.ownBlock ≠ some 1 from fun e => by have := (h.own.lt 1 e).1; have := h.hB; omega)
  have c0 := h.ib.c0
  have HH := Lib.hid h
  have HO := Lib.hid hO
  have HX := Lib.hid hX
  have HFU := Lib.hid hf
  have HPL := Lib.hid h.pl
  clear h hO hX hf
  go_enter Tryz.func162, Tryz.ntmps162
  by_cases s1 : 8 * xs.length < p + 1
  · have HB := Lib.hid (ibits_no HH.out.rd 1 (by omega) s1)
    have HR := Lib.hid (blk_1 (most := most) (o := o) (f := f) HPL.out s1)
    clear s1
    go_wp2_with fail
    refine HB.out.mono ?_
    rintro e w2 ⟨rfl, hr2, hg2⟩
    have HF2 := Lib.hid (Fr.rd B v hg2)
    clear hr2 hg2
    go_wp2_with fail
    go_ret2
    rw [HR.out]
    exact ⟨_, rfl, HF2.out⟩
  · have HS1 := Lib.hid (show p + 1 ≤ 8 * xs.length by omega)
    have HB := Lib.hid (ibits_yes HH.out.rd 1 (by omega) HS1.out)
    have hl2 := num_lt xs p 1
    obtain ⟨last, hlast⟩ : ∃ x, x = num xs p 1 := ⟨_, rfl⟩
    rw [← hlast] at HB hl2
    have HLAST := Lib.hid hlast
    have hl3 : last < 2 := by simpa using hl2
    clear s1 hlast hl2
    go_wp2_with fail
    refine HB.out.mono ?_
    rintro e w2 ⟨rfl, hr2, hg2⟩
    have hi2 := HH.out.read hr2 hg2
    have c02 := hi2.ib.c0
    have HF2 := Lib.hid (Fr.rd B v hg2)
    have HI2 := Lib.hid hi2
    clear hr2 hg2 hi2 c0
    by_cases s2 : 8 * xs.length < p + 1 + 2
    · have HB2 := Lib.hid (ibits_no HI2.out.rd 2 (by omega) s2)
      have HR := Lib.hid (blk_2 (most := most) (o := o) (f := f) HS1.out s2)
      clear s2
      go_wp2_with fail
      refine HB2.out.mono ?_
      rintro e w3 ⟨rfl, hr3, hg3⟩
      have HF3 := Lib.hid (HF2.out.trans (Went.refl _ _) (Fr.rd B v hg3))
      clear hr3 hg3
      go_wp2_with fail
      go_ret2
      rw [HR.out]
      exact ⟨_, rfl, HF3.out⟩
    · have HS2 := Lib.hid (show p + 1 + 2 ≤ 8 * xs.length by omega)
      have HB2 := Lib.hid (ibits_yes HI2.out.rd 2 (by omega) HS2.out)
      have hk2 := num_lt xs (p + 1) 2
      have E3 := blk_3 (most := most) (o := o) (f := f) HS2.out
      obtain ⟨kind, hkind⟩ : ∃ x, x = num xs (p + 1) 2 := ⟨_, rfl⟩
      rw [← hkind] at HB2 hk2 E3
      rw [← HLAST.out] at E3
      have hk3 : kind < 4 := by simpa using hk2
      have HE3 := Lib.hid E3
      clear s2 hkind hk2 E3
      go_wp2_with fail
      refine HB2.out.mono ?_
      rintro e w3 ⟨rfl, hr3, hg3⟩
      have hi3 := HI2.out.read hr3 hg3
      have HF3 := Lib.hid (HF2.out.trans (Went.refl _ _) (Fr.rd B v hg3))
      have HI3 := Lib.hid hi3
      clear hr3 hg3 hi3 c02
      have hlb : ((last : Int) == 1) = (last == 1) := by rw [Bool.eq_iff_iff, beq_iff_eq, beq_iff_eq]; omega
      have HLB := Lib.hid hlb
      clear hlb
      rcases (show kind = 0 ∨ kind = 1 ∨ kind = 2 ∨ kind = 3 by omega) with rfl | rfl | rfl | rfl
      · have HC := icopied_any HI3.out
        have E4 : run xs most (blockR f) p o = BlkThen last (run xs most copyR (p + 1 + 2) o) := HE3.out
        obtain ⟨rr, hrr⟩ : ∃ rr, rr = run xs most copyR (p + 1 + 2) o := ⟨_, rfl⟩
        rw [← hrr] at HC E4
        have HCC := Lib.hid HC
        have HE4 := Lib.hid E4
        clear HC E4 hrr
        go_wp2_with fail
        refine HCC.out.mono ?_
        rintro e w4 hsay
        cases rr with
        | error er =>
          obtain ⟨rfl, hf4⟩ := hsay
          have HF4 := Lib.hid (HF3.out.trans (Went.refl _ _) hf4)
          clear hf4
          go_wp2_with fail
          go_ret2
          rw [HE4.out]
          exact ⟨_, rfl, HF4.out⟩
        | ok r =>
          obtain ⟨u, q, o'⟩ := r
          obtain ⟨rfl, hf4, v4, hi4, hw4⟩ := hsay
          have HF4 := Lib.hid (HF3.out.trans (Went.refl _ _) hf4)
          have HI4 := Lib.hid hi4
          have HW4 := Lib.hid ((Went.refl w v).trans HF3.out.size hw4)
          clear hf4 hi4 hw4
          go_wp2_with fail
          go_ret2
          rw [HE4.out]
          exact ⟨by rw [← HLB.out]; rfl, HF4.out, v4, fl, fd, HI4.out, HW4.out, HX.out.on HF4.out HW4.out⟩
      · have E4 : run xs most (blockR f) p o = BlkThen last (run xs most (symR fixL fixD f) (p + 1 + 2) o) := HE3.out
        have HE4 := Lib.hid E4
        have HC1 := Lib.hid (icodes_one HI3.out (HX.out.on HF3.out (Went.refl _ _)))
        have HFU8 := Lib.hid (show 8 * xs.length < p + 1 + 2 + f by have := HFU.out; omega)
        obtain ⟨cb, hcb⟩ : ∃ cb, cb = w3.heap.size := ⟨_, rfl⟩
        have HCB := Lib.hid hcb
        clear E4 hcb
        go_wp2_with fail
        refine HC1.out.mono ?_
        rintro e w8 ⟨LB, DB, rfl, hf8, hi8, hx8, hkl, hkd⟩
        rw [← HCB.out] at hx8 hkl hkd ⊢
        have hx9 := (hx8.set0 (some ⟨LB, 0, none⟩)).set1 (some ⟨DB, 0, none⟩)
        have cc0 := hx8.c0
        have cc1 := hx8.c1
        have cf0 := hx8.f 0
        have cf1 := hx8.f 1
        have d0 := hx9.c0
        have d1 := hx9.c1
        have hcbb : base ≤ cb ∧ v.ownBlock ≠ some cb := ⟨by have := HI3.out.low; have := HCB.out; omega, fun e => by have := HI3.out.vlt cb e; have := HCB.out; omega⟩
        have hi9 := (hi8.set cb 0 (.pointer (some ⟨LB, 0, none⟩)) hcbb.1 hcbb.2).set cb 1 (.pointer (some ⟨DB, 0, none⟩)) hcbb.1 hcbb.2
        have hf9 := (hf8.set cb 0 (.pointer (some ⟨LB, 0, none⟩)) (Nat.le_of_eq HCB.out.symm)).set cb 1 (.pointer (some ⟨DB, 0, none⟩)) (Nat.le_of_eq HCB.out.symm)
        have HC := isym_any hi9 hkl hkd f (by have := HFU8.out; omega)
        obtain ⟨rr, hrr⟩ : ∃ rr, rr = run xs most (symR fixL fixD f) (p + 1 + 2) o := ⟨_, rfl⟩
        have E4 := HE4.out
        rw [← hrr] at HC E4
        have HCC := Lib.hid HC
        have HE5 := Lib.hid E4
        have HF9 := Lib.hid (HF3.out.trans (Went.refl _ _) hf9)
        have HKL := Lib.hid hkl
        have HKD := Lib.hid hkd
        clear hx8 hx9 hi8 hf8 hi9 hf9 hcbb HC E4 hrr hkl hkd
        go_wp2_with fail
        refine HCC.out.mono ?_
        rintro e w10 hsay
        cases rr with
        | error er =>
          obtain ⟨rfl, hf10⟩ := hsay
          have HF10 := Lib.hid (HF9.out.trans (Went.refl _ _) hf10)
          clear hf10 cc0 cc1 cf0 cf1 d0 d1
          go_wp2_with fail
          go_ret2
          rw [HE5.out]
          exact ⟨_, rfl, HF10.out⟩
        | ok r =>
          obtain ⟨u, q9, o9⟩ := r
          obtain ⟨rfl, hf10, v10, hi10, hw10⟩ := hsay
          have HF10 := Lib.hid (HF9.out.trans (Went.refl _ _) hf10)
          have HI10 := Lib.hid hi10
          have HW10 := Lib.hid ((Went.refl w v).trans HF9.out.size hw10)
          have HFX := Lib.hid (show Fx w10 B R v10 (some ⟨LB, 0, none⟩) (some ⟨DB, 0, none⟩) from .inr ⟨LB, DB, rfl, rfl, HKL.out.on hf10 hw10, HKD.out.on hf10 hw10⟩)
          clear hf10 hi10 hw10 cc0 cc1 cf0 cf1 d0 d1
          go_wp2_with fail
          go_ret2
          rw [HE5.out]
          exact ⟨by rw [← HLB.out]; rfl, HF10.out, v10, _, _, HI10.out, HW10.out, HFX.out⟩
      · have E4 : run xs most (blockR f) p o = BlkDyn xs most f last (run xs most (dynR f) (p + 1 + 2) o) := HE3.out
        have HC1 := icodes_two HI3.out (HO.out.fr HF3.out hB0 hR0 HV0.out) hB0 hR0 f (by have := HFU.out; omega)
        have hnz := nz_dyn f xs most (p + 1 + 2) o
        have hle := fun C q o1 => @run_le _ xs most (dynR f) (p + 1 + 2) o C q o1
        obtain ⟨rd, hrd⟩ : ∃ rd, rd = run xs most (dynR f) (p + 1 + 2) o := ⟨_, rfl⟩
        rw [← hrd] at HC1 E4 hnz hle
        have HC2 := Lib.hid HC1
        have HE3' := Lib.hid E4
        have HNZ := Lib.hid hnz
        have HLE := Lib.hid hle
        obtain ⟨cb, hcb⟩ : ∃ cb, cb = w3.heap.size := ⟨_, rfl⟩
        have HCB := Lib.hid hcb
        clear E4 hcb HC1 hnz hle hrd
        go_wp2_with fail
        refine HC2.out.mono ?_
        rintro e w8 hsay
        cases rd with
        | error er =>
          obtain ⟨rfl, hf8, hx8⟩ := hsay
          rw [← HCB.out] at hx8 ⊢
          have cc0 := hx8.c0
          have cc1 := hx8.c1
          have cf0 := hx8.f 0
          have cf1 := hx8.f 1
          have hez : ((er : Int) == 0) = false := by rw [beq_eq_false_iff_ne]; have := HNZ.out er rfl; omega
          have HF9 := Lib.hid (HF3.out.trans (Went.refl _ _) ((hf8.set cb 0 (.pointer none) (Nat.le_of_eq HCB.out.symm)).set cb 1 (.pointer none) (Nat.le_of_eq HCB.out.symm)))
          clear hx8 hf8
          go_wp2_with fail
          go_ret2
          rw [HE3'.out]
          exact ⟨_, rfl, HF9.out⟩
        | ok r =>
          obtain ⟨LD, q8, o8⟩ := r
          obtain ⟨LB, DB, rfl, hf8, hi8, hx8, hkl, hkd⟩ := hsay
          rw [← HCB.out] at hx8 hkl hkd ⊢
          have HFU8 := Lib.hid (show 8 * xs.length < q8 + f by have := (HLE.out LD q8 o8 rfl).1; have := HFU.out; omega)
          have HE4 := Lib.hid (show run xs most (blockR f) p o = BlkThen last (run xs most (symR LD.1 LD.2 f) q8 o8) from HE3'.out)
          have hx9 := (hx8.set0 (some ⟨LB, 0, none⟩)).set1 (some ⟨DB, 0, none⟩)
          have cc0 := hx8.c0
          have cc1 := hx8.c1
          have cf0 := hx8.f 0
          have cf1 := hx8.f 1
          have d0 := hx9.c0
          have d1 := hx9.c1
          have hcbb : base ≤ cb ∧ v.ownBlock ≠ some cb := ⟨by have := HI3.out.low; have := HCB.out; omega, fun e => by have := HI3.out.vlt cb e; have := HCB.out; omega⟩
          have hi9 := (hi8.set cb 0 (.pointer (some ⟨LB, 0, none⟩)) hcbb.1 hcbb.2).set cb 1 (.pointer (some ⟨DB, 0, none⟩)) hcbb.1 hcbb.2
          have hf9 := (hf8.set cb 0 (.pointer (some ⟨LB, 0, none⟩)) (Nat.le_of_eq HCB.out.symm)).set cb 1 (.pointer (some ⟨DB, 0, none⟩)) (Nat.le_of_eq HCB.out.symm)
          have HC := isym_any hi9 hkl hkd f (by have := HFU8.out; omega)
          obtain ⟨rr, hrr⟩ : ∃ rr, rr = run xs most (symR LD.1 LD.2 f) (q8) o8 := ⟨_, rfl⟩
          have E4 := HE4.out
          rw [← hrr] at HC E4
          have HCC := Lib.hid HC
          have HE5 := Lib.hid E4
          have HF9 := Lib.hid (HF3.out.trans (Went.refl _ _) hf9)
          have HKL := Lib.hid hkl
          have HKD := Lib.hid hkd
          clear hx8 hx9 hi8 hf8 hi9 hf9 hcbb HC E4 hrr hkl hkd
          go_wp2_with fail
          refine HCC.out.mono ?_
          rintro e w10 hsay
          cases rr with
          | error er =>
            obtain ⟨rfl, hf10⟩ := hsay
            have HF10 := Lib.hid (HF9.out.trans (Went.refl _ _) hf10)
            clear hf10 cc0 cc1 cf0 cf1 d0 d1
            go_wp2_with fail
            go_ret2
            rw [HE5.out]
            exact ⟨_, rfl, HF10.out⟩
          | ok r =>
            obtain ⟨u, q9, o9⟩ := r
            obtain ⟨rfl, hf10, v10, hi10, hw10⟩ := hsay
            have HF10 := Lib.hid (HF9.out.trans (Went.refl _ _) hf10)
            have HI10 := Lib.hid hi10
            have HW10 := Lib.hid ((Went.refl w v).trans HF9.out.size hw10)
            have HFX := Lib.hid (show Fx w10 B R v10 fl fd from HX.out.on HF10.out HW10.out)
            clear hf10 hi10 hw10 cc0 cc1 cf0 cf1 d0 d1
            go_wp2_with fail
            go_ret2
            rw [HE5.out]
            exact ⟨by rw [← HLB.out]; rfl, HF10.out, v10, _, _, HI10.out, HW10.out, HFX.out⟩
      · have HR := Lib.hid (show run xs most (blockR f) p o = .error 4 from HE3.out)
        go_wp2_with fail
        go_ret2
        rw [HR.out]
        exact ⟨_, rfl, HF3.out⟩
end Go.Proofs.YtpbijdoemdoijaaGreatDoor
end PkCa28_0
section PkCa28_1
/- Package inflate: Inflate, walked: what it answers is inf's, for any fuel that is enough. -/
namespace Go.Proofs.YtpbijdoemdoijaaGreatDoor
open Go.RowKit PrefPlain BitsPlain InfPlain
set_option linter.unusedVariables false

section
variable {xs : List Nat} {most p : Nat} {o : List Nat} {F g : Nat}
theorem blk_one {last q : Nat} {r : List Nat} (hp : p ≤ 8 * xs.length) (h : run xs most (blockR F) p o = .ok (last, q, r)) : p + 1 ≤ q := by
  rw [blockR, run_bind, run_bits _ _ _ _ _ hp] at h
  by_cases hl : 8 * xs.length < p + 1
  · rw [if_pos hl] at h; cases h
  · rw [if_neg hl] at h
    exact (run_le _ h).1
/-- behind a block -/
def InfThen (xs : List Nat) (most F g : Nat) (r : Except Nat (Nat × Nat × List Nat)) : Except Nat (Unit × Nat × List Nat) :=
  match r with
  | .error e => .error e
  | .ok (last, q, o) => if last = 1 then .ok ((), q, o) else run xs most (infR F g) q o
theorem inf_step : run xs most (infR F (g + 1)) p o = InfThen xs most F g (run xs most (blockR F) p o) := by
  rw [infR, run_bind]
  unfold InfThen
  cases run xs most (blockR F) p o with
  | error e => rfl
  | ok r =>
    obtain ⟨last, q, o1⟩ := r
    show run xs most (if _ then _ else _) q o1 = if _ then _ else _
    split
    · rfl
    · rfl
end
/-- what Inflate's answer is -/
def InfOut (F : Nat) (xs : List Nat) (most : Nat) (w : World) (e : Ending) (w' : World) : Prop :=
  ∃ v, e = .returned (.tuple #[v, .int .i64 (((inf F xs most).2.1 : Nat) : Int), .int .i64 (((inf F xs most).2.2 : Nat) : Int)]) ∧ w'.ownsRow w.heap.size 5 1 v (inf F xs most).1.length (bv (inf F xs most).1) ∧ (∀ x ∈ (inf F xs most).1, x < 256) ∧ Below w.heap.size w w'
theorem own_less {w : World} {b0 b1 : Nat} {e : TypeId} {size : Nat} {v : Value} {n : Nat} {ys : List Value} (h : w.ownsRow b0 e size v n ys) (hb : b1 ≤ b0) : w.ownsRow b1 e size v n ys := by
  refine ⟨h.1, ?_⟩
  rcases h.2 with h0 | ⟨g, cap, cur, he, hg, rest⟩
  · exact .inl h0
  · exact .inr ⟨g, cap, cur, he, Nat.le_trans hb hg, rest⟩
theorem inf_is_ok {F : Nat} {xs : List Nat} {most q : Nat} {r : List Nat} (h : run xs most (infR F F) 0 [] = .ok ((), q, r)) : inf F xs most = (r, (q + 7) / 8, 0) := by unfold inf; rw [h]
theorem inf_is_no {F : Nat} {xs : List Nat} {most e : Nat} (h : run xs most (infR F F) 0 [] = .error e) : inf F xs most = ([], 0, e) := by unfold inf; rw [h]
/-- the loop over blocks -/
structure Bl (xs : List Nat) (most F g q : Nat) (o : List Nat) : Prop where
  run : run xs most (infR F F) 0 [] = run xs most (infR F g) q o
  fuel : 8 * xs.length < q + g

set_option maxHeartbeats 1000000 in
theorem inflate_neg (a : Option Addr) (n c : Nat) (m : Int) (hm : m < 0) (w : World) :
    Calls Tryz.prog 126 #[.slice a n c, .int .i64 m] w fun e w' => e = .returned (.tuple #[.slice none 0 0, .int .i64 0, .int .i64 1]) ∧ w = w' := by
  go_enter Tryz.func126, Tryz.ntmps126
  go_wp2_with fail
  exact bodyPost_ret (v := .tuple #[.slice none 0 0, .int .i64 0, .int .i64 1]) (by simp [results, Tryz.results126, go_sem]) rfl ⟨rfl, rfl⟩

set_option maxRecDepth 100000 in
set_option maxHeartbeats 2000000 in
theorem inflate_any {w : World} {a : Option Addr} {n c : Nat} {xs : List Nat} (h : BytesAt w a n c xs) (hO : Ordr w) (F most : Nat) (hF : 8 * xs.length < F) (hm : most ≤ 65536) (hn : n ≤ 100000) :
    Calls Tryz.prog 126 #[.slice a n c, .int .i64 (most : Int)] w fun e w' => InfOut F xs most w e w' := by
  have HN := Lib.hid (rnew_any h)
  have HO := Lib.hid hO
  have hlen := h.len
  have HLEN := Lib.hid hlen
  have HF := Lib.hid hF
  clear h hO hF hlen
  go_enter Tryz.func126, Tryz.ntmps126
  go_wp2_with fail
  refine HN.out.mono ?_
  rintro e w2 ⟨R, a', c', rfl, hr2, hb2, hRw, hfr⟩
  have hRl := hr2.lt
  obtain ⟨B, hB⟩ : ∃ B, B = w2.heap.size := ⟨_, rfl⟩
  obtain ⟨w3, hw3⟩ : ∃ w3, w3 = w2.alloc (.cells #[.pointer (some ⟨R, 0, none⟩), .slice none 0 0, .int .i64 (most : Int), .pointer none, .pointer none] 189) := ⟨_, rfl⟩
  have hb3 : Below w2.heap.size w2 w3 := by rw [hw3]; exact (Below.refl _ _).alloc (Nat.le_refl _) _
  have hs3 : w3.heap.size = B + 1 := by rw [hw3, hB]; simp
  have hi3 : InAt w3 B R (B + 1) a' n c' xs 0 (.slice none 0 0) [] most none none := by
    refine ⟨⟨by rw [hw3, hB]; exact heap_alloc_new w2 _⟩, ⟨(hb3.block R hRl).trans hr2.blk, hr2.src.kept hb3, hr2.apart, hr2.le⟩, own_nil_bytes _ _, (fun x hx => by cases hx), Nat.zero_le _, hm, Nat.le_of_eq hs3.symm, Nat.lt_succ_self _, by omega, by omega, fun b off s hp he => ?_⟩
    obtain ⟨b', off', he', hlt, _⟩ := hr2.src.cells hp
    rw [he] at he'
    cases he'
    exact ⟨by omega, by omega⟩
  have hB0 : 1 < B := by have := HO.out.pos; have := hb2.size; omega
  have hR0 : 1 < R := by have := HO.out.pos; omega
  have hb13 : Below w.heap.size w w3 := hb2.trans (hb3.mono hb2.size)
  have hO3 : Ordr w3 := fun r hr => (hb13.cell (p := ⟨1, r, none⟩) HO.out.pos).trans (HO.out r hr)
  have HI3 := Lib.hid hi3
  have HO3 := Lib.hid hO3
  have HB13 := Lib.hid hb13
  have HW3 := Lib.hid hw3
  have HBB := Lib.hid hB
  have HBW := Lib.hid (show w.heap.size ≤ B by have := hb2.size; omega)
  clear hr2 hb2 hfr hb3 hi3 hb13 hO3 hw3 hB hs3 hRl
  go_wp2_with fail
  rw [← HW3.out, ← HBB.out]
  go_loopg [] F (fun g wr => ∃ (g' q : Nat) (v' : Value) (o' : List Nat) (fl fd : Option Addr), g = g' ∧ Hid (Bl xs most F g' q o') ∧ Hid (InAt wr B R (B + 1) a' n c' xs q v' o' most fl fd) ∧ Hid (Fr w3 wr B R (.slice none 0 0)) ∧ Hid (Went w3 (.slice none 0 0) v') ∧ Hid (Fx wr B R v' fl fd))
  case atStart => exact ⟨F, 0, _, [], none, none, rfl, Lib.hid ⟨rfl, by have := HF.out; omega⟩, HI3, Lib.hid (Fr.refl _ _ _ _), Lib.hid (Went.refl _ _), Lib.hid (.inl rfl)⟩
  case round =>
    obtain ⟨g', q, v', o', fl, fd, hg, HBL, HI, HFR, HW, HX⟩ := hrel
    rename World => wr
    obtain ⟨g2, rfl⟩ : ∃ g2, g' = g2 + 1 := ⟨g' - 1, by have := HBL.out.fuel; have := HI.out.pl; omega⟩
    have HGG := Lib.hid hg
    have hq := HI.out.pl
    have hOr := HO3.out.fr HFR.out hB0 hR0 (by simp [Value.ownBlock])
    have HBK := iblock_any HI.out hOr hB0 hR0 HX.out F (by have := HF.out; omega)
    have E1 := HBL.out.run.trans (inf_step (xs := xs) (most := most) (F := F) (g := g2) (p := q) (o := o'))
    have hnz := nz_block F xs most q o'
    have hone := fun last q2 r => @blk_one xs most q o' F last q2 r hq
    obtain ⟨rb, hrb⟩ : ∃ rb, rb = run xs most (blockR F) q o' := ⟨_, rfl⟩
    rw [← hrb] at HBK E1 hnz hone
    have HBK2 := Lib.hid HBK
    have HE1 := Lib.hid E1
    have HNZ := Lib.hid hnz
    have HONE := Lib.hid hone
    clear hg hq hOr HBK E1 hnz hone hrb
    go_wp2_with fail
    refine HBK2.out.mono ?_
    rintro e w4 hsay
    cases rb with
    | error er =>
      obtain ⟨b, rfl, hf4⟩ := hsay
      have hez : ((er : Int) != 0) = true := by rw [bne_iff_ne]; have := HNZ.out er rfl; omega
      have hR := inf_is_no (show run xs most (infR F F) 0 [] = .error er from HE1.out)
      have HR := Lib.hid hR
      have hf34 := HFR.out.trans HW.out hf4
      have HB4 := Lib.hid (show Below w.heap.size w w4 from ⟨hf34.os.trans HB13.out.os, hf34.tape.trans HB13.out.tape, hf34.output.trans HB13.out.output, Nat.le_trans HB13.out.size hf34.size, fun k hk => (hf34.block k (Nat.lt_of_lt_of_le hk HB13.out.size) (by have := HBW.out; omega) (by omega) (by simp [Value.ownBlock])).trans (HB13.out.block k hk)⟩)
      clear hf4 hf34 hR
      go_wp2_with fail
      refine bodyPost_ret (v := .tuple #[.slice none 0 0, .int .i64 0, .int .i64 er]) (by simp [results, Tryz.results126, go_sem]) rfl ?_
      refine ⟨.slice none 0 0, ?_, ?_, ?_, HB4.out⟩
      · rw [HR.out]; rfl
      · rw [HR.out]; exact own_nil_bytes _ _
      · rw [HR.out]; intro x hx; cases hx
    | ok r =>
      obtain ⟨last, q4, o4⟩ := r
      obtain ⟨rfl, hf4, v4, fl4, fd4, hi4, hw4, hx4⟩ := hsay
      have hf34 := HFR.out.trans HW.out hf4
      have HI4 := Lib.hid hi4
      have HX4 := Lib.hid hx4
      have HW4 := Lib.hid (HW.out.trans HFR.out.size hw4)
      have HF34 := Lib.hid hf34
      have h1 := HONE.out last q4 o4 rfl
      by_cases hl : last = 1
      · subst hl
        have hR := inf_is_ok (show run xs most (infR F F) 0 [] = .ok ((), q4, o4) from HE1.out)
        have HR := Lib.hid hR
        have HB4 := Lib.hid (show Below w.heap.size w w4 from ⟨hf34.os.trans HB13.out.os, hf34.tape.trans HB13.out.tape, hf34.output.trans HB13.out.output, Nat.le_trans HB13.out.size hf34.size, fun k hk => (hf34.block k (Nat.lt_of_lt_of_le hk HB13.out.size) (by have := HBW.out; omega) (by omega) (by simp [Value.ownBlock])).trans (HB13.out.block k hk)⟩)
        have c0 := hi4.ib.c0
        have c1 := hi4.ib.c1
        have hq4 : q4 ≤ 800000 := by have := hi4.pl; have := HLEN.out; omega
        have hsum : IntKind.i64.wrap ((q4 : Int) + 7) = (q4 : Int) + 7 := IntWalk.i64_in _ (by omega)
        have HSUM := Lib.hid hsum
        have HAT := Lib.hid (fun k => show Calls Tryz.prog 163 #[.pointer (some ⟨R, 0, none⟩)] (w4.drewN k) fun e w' => e = .returned (.int .i64 (q4 : Int)) ∧ w' = w4.drewN k from (rat_any ((HI4.out.drewN k).rd)).mono fun e w' h => ⟨h.1, h.2.symm⟩)
        clear hf4 hf34 hi4 hw4 hx4 hR
        clear hsum
        go_wp2_with fail
        go_quiet ((first | (go_at_call 163; exact Calls.quiet_of_same (HAT.out _))))
        rename Nat => nq
        go_wp2_with fail
        refine bodyPost_ret (v := .tuple #[v4, .int .i64 (((q4 : Int) + 7) / 8), .int .i64 0]) (by simp [results, Tryz.results126, go_sem]) rfl ?_
        refine ⟨v4, ?_, ?_, ?_, ?_⟩
        · rw [HR.out]
          have e8 : (((q4 + 7) / 8 : Nat) : Int) = ((q4 : Int) + 7) / 8 := by omega
          show _ = Ending.returned (.tuple #[v4, .int .i64 (((q4 + 7) / 8 : Nat) : Int), .int .i64 0])
          rw [e8]
        · rw [HR.out]; exact own_less (HI4.out.drewN nq).own (by have := HBW.out; omega)
        · rw [HR.out]; exact HI4.out.byte
        · exact HB4.out.trans ⟨rfl, rfl, rfl, Nat.le_refl _, fun _ _ => rfl⟩
      · clear hf4 hf34 hi4 hw4 hx4
        have hlb : (last == 1) = false := by rw [beq_eq_false_iff_ne]; exact hl
        have HR := Lib.hid (show run xs most (infR F F) 0 [] = run xs most (infR F g2) q4 o4 by rw [HE1.out]; show (if last = 1 then _ else _) = _; rw [if_neg hl])
        clear hl
        go_wp2_with fail
        go_roundg g2
        case rel => exact ⟨g2, q4, v4, o4, fl4, fd4, rfl, Lib.hid ⟨HR.out, by have := HBL.out.fuel; omega⟩, HI4, HF34, HW4, HX4⟩
        case measure => have := HGG.out; omega
end Go.Proofs.YtpbijdoemdoijaaGreatDoor
end PkCa28_1
section PkCa28_2
/- Layer 6's fixed fact, walked. -/
namespace Go.Proofs.YtpbijdoemdoijaaGreatDoor
open Go.RowKit PrefPlain BitsPlain InfPlain
set_option linter.unusedVariables false

theorem inf_lives : inf 25 [75, 4, 0] 9 = ([97], 3, 0) := by decide +kernel
theorem bs_a : bs [97] = { data := #[97] } := by decide +kernel

theorem Ordr.below {w w' : World} (h : Ordr w) (hb : Below w.heap.size w w') : Ordr w' := fun r hr => (hb.cell (p := ⟨1, r, none⟩) h.pos).trans (h r hr)
/-- what came out, as a slice of bytes -/
theorem InfOut.at {F : Nat} {xs : List Nat} {most : Nat} {w w' : World} {e : Ending} (h : InfOut F xs most w e w') (hm : (inf F xs most).1.length ≤ 140737488351232) :
    ∃ a c, e = .returned (.tuple #[.slice a (inf F xs most).1.length c, .int .i64 (((inf F xs most).2.1 : Nat) : Int), .int .i64 (((inf F xs most).2.2 : Nat) : Int)]) ∧ BytesAt w' a (inf F xs most).1.length c (inf F xs most).1 ∧ Below w.heap.size w w' := by
  obtain ⟨v, rfl, ho, hby, hb⟩ := h
  obtain ⟨a, c, rfl, hba, _⟩ := BytesAt.ofOwn ho hby hm
  exact ⟨a, c, rfl, hba, hb⟩

theorem InfOut.at2 {F : Nat} {xs X : List Nat} {most N E lx : Nat} {w w' : World} {e : Ending} (h : InfOut F xs most w e w') (he : inf F xs most = (X, N, E)) (hl : X.length = lx) (hm : lx ≤ 100000) :
    ∃ a c, e = .returned (.tuple #[.slice a lx c, .int .i64 (N : Int), .int .i64 (E : Int)]) ∧ BytesAt w' a lx c X ∧ Below w.heap.size w w' := by
  obtain ⟨a, c, rfl, hba, hb⟩ := h.at (by rw [he, show (X, N, E).1.length = lx from hl]; omega)
  rw [he] at hba ⊢
  subst hl
  exact ⟨a, c, rfl, hba, hb⟩
/-- what is told of any bytes, with a limit -/
theorem inf_all (F : Nat) (xs : List Nat) (most : Nat) : ∃ X N E lx, inf F xs most = (X, N, E) ∧ X.length = lx ∧ lx ≤ most ∧ (E ≠ 0 → X = [] ∧ N = 0) ∧
    (E = 0 → 1 ≤ N ∧ N ≤ xs.length ∧ (∀ more, inf F (xs.take N ++ more) most = (X, N, 0)) ∧ inf F (xs.take (N - 1)) most = ([], 0, 3) ∧ (∀ m, lx ≤ m → inf F xs m = (X, N, 0)) ∧ (∀ m, m < lx → inf F xs m = ([], 0, 5))) := by
  have hno := @inf_no F xs most
  have hbe := @inf_behind F xs most
  have hli := @inf_limits F xs most
  have hlr : (inf F xs most).1.length ≤ most := by
    by_cases h0 : (inf F xs most).2.2 = 0
    · obtain ⟨q, r, hr, he⟩ := inf_ok h0
      rw [he]
      exact (run_end _ (by omega) (by simp) hr).2
    · rw [(hno h0).1]; simp
  cases hr : inf F xs most with
  | mk X NE =>
    obtain ⟨N, E⟩ := NE
    rw [hr] at hno hbe hli hlr
    refine ⟨X, N, E, _, rfl, rfl, hlr, hno, fun h0 => ?_⟩
    subst h0
    obtain ⟨h1, h2, h3, h4⟩ := hbe rfl
    obtain ⟨h5, h6⟩ := hli rfl
    exact ⟨h1, h2, h3, h4, h5, h6⟩

end Go.Proofs.YtpbijdoemdoijaaGreatDoor
end PkCa28_2
