/- Texts put together by packtpl2.py: InfCodes, InfCopiedWalk, InfSymWalk. -/
import Derived.Test.YtpbijdoemdoijaaGreatDoorPkCa23
import Derived.Test.YtpbijdoemdoijaaGreatDoorPkCa26
import Derived.Deep.LoopGhost
section PkCa27_0
/- Package inflate: codes, walked: those of a block's kind; those of kind 1 are made once. -/
namespace Go.Proofs.YtpbijdoemdoijaaGreatDoor
open Go.RowKit PrefPlain BitsPlain InfPlain
set_option linter.unusedVariables false

/-- the codes of kind 1, once they are made -/
def Fx (w : World) (B R : Nat) (v : Value) (fl fd : Option Addr) : Prop :=
  fl = none ∨ ∃ LB DB, fl = some ⟨LB, 0, none⟩ ∧ fd = some ⟨DB, 0, none⟩ ∧ Kept w B R v LB fixL ∧ Kept w B R v DB fixD
theorem Fx.on {w w' : World} {B R : Nat} {v v' : Value} {fl fd : Option Addr} (h : Fx w B R v fl fd) (hf : Fr w w' B R v) (hw : Went w v v') : Fx w' B R v' fl fd := by
  rcases h with h | ⟨LB, DB, h1, h2, h3, h4⟩
  · exact .inl h
  · exact .inr ⟨LB, DB, h1, h2, h3.on hf hw, h4.on hf hw⟩
section
variable {w : World} {B R base : Nat} {ra : Option Addr} {n c : Nat} {xs : List Nat} {p : Nat} {v : Value} {o : List Nat} {most : Nat} {fl fd : Option Addr}
theorem InAt.fix (h : InAt w B R base ra n c xs p v o most fl fd) (x y : Option Addr) : InAt ((w.setCell ⟨B, 3, none⟩ (.pointer x)).setCell ⟨B, 4, none⟩ (.pointer y)) B R base ra n c xs p v o most x y := by
  have hlow : ∀ b, b < base → some b ≠ v.ownBlock := fun b hb e => by have := (h.own.lt b e.symm).1; omega
  have hoth : ∀ k, k ≠ B → ((w.setCell ⟨B, 3, none⟩ (.pointer x)).setCell ⟨B, 4, none⟩ (.pointer y)).heap[k]? = w.heap[k]? := fun k hk => by rw [heap_setCell_other _ _ _ _ hk, heap_setCell_other _ _ _ _ hk]
  have hsz : ((w.setCell ⟨B, 3, none⟩ (.pointer x)).setCell ⟨B, 4, none⟩ (.pointer y)).heap.size = w.heap.size := by simp
  refine ⟨⟨by rw [heap_setCell_same _ B 4 _ _ _ (heap_setCell_same w B 3 _ _ _ h.ib.blk)]; rfl⟩, ⟨(hoth R (fun e => h.ne e.symm)).trans h.rd.blk, ?_, h.rd.apart, h.rd.le⟩, ?_, h.byte, h.lim, h.most, by rw [hsz]; exact h.low, h.hB, h.hR, h.ne, h.src⟩
  · have hs := h.rd.src
    exact ⟨hs.len, hs.cap, hs.byte, hs.reach, hs.capm, hs.nl, fun hp => by
      obtain ⟨b, off, ha, hlt, hc⟩ := hs.cells hp
      obtain ⟨s1, s2⟩ := h.src b off _ hp ha
      exact ⟨b, off, ha, by rw [hsz]; exact hlt, fun k hk => (World.cell?_of_block (w := w) (hoth b s2)).trans (hc k hk)⟩⟩
  · refine h.own.kept (row := some B) ⟨rfl, rfl, rfl, by rw [hsz]; exact Nat.le_refl _, fun k hk hne => hoth k (fun e => hne (by rw [e]))⟩ (.inr (fun e => hlow B h.hB e.symm))
theorem Fr.fix {w1 : World} (h : Fr w w1 B R v) (x y : Option Addr) : Fr w ((w1.setCell ⟨B, 3, none⟩ (.pointer x)).setCell ⟨B, 4, none⟩ (.pointer y)) B R v :=
  ⟨h.os, h.tape, h.output, by have := h.size; simp; exact this, fun k hk h1 h2 h3 => by rw [heap_setCell_other _ _ _ _ h1, heap_setCell_other _ _ _ _ h1]; exact h.block k hk h1 h2 h3⟩
end

set_option maxRecDepth 100000 in
set_option maxHeartbeats 2000000 in
theorem icodes_2 {w : World} {B R base : Nat} {ra : Option Addr} {n c : Nat} {xs : List Nat} {p : Nat} {v : Value} {o : List Nat} {most : Nat} {fl fd : Option Addr} (h : InAt w B R base ra n c xs p v o most fl fd) (hO : Ordr w) (hB0 : 1 < B) (hR0 : 1 < R) (f : Nat) (hf : 8 * xs.length < p + f) :
    Calls Tryz.prog 184 #[.pointer (some ⟨B, 0, none⟩), .int .u32 2] w fun e w' => Dyn w B R base ra n c xs v most fl fd (run xs most (dynR f) p o) e w' := by
  have HV0 := Lib.hid (show v.ownBlock ≠ some 1 from fun e => by have := (h.own.lt 1 e).1; have := h.hB; omega)
  obtain ⟨w1, hw1⟩ : ∃ w1, w1 = w.alloc (.cells #[.pointer none, .pointer none] 187) := ⟨_, rfl⟩
  have hb1 : Below w.heap.size w w1 := by rw [hw1]; exact (Below.refl _ _).alloc (Nat.le_refl _) _
  obtain ⟨cb, hcb⟩ : ∃ cb, cb = w.heap.size := ⟨_, rfl⟩
  have HX1 := Lib.hid (show CodesBlk w1 cb none none by rw [hw1, hcb]; exact heap_alloc_new w _)
  have hi1 := h.below hb1
  have hf1 := Fr.below (B := B) (R := R) (v := v) hb1
  have HD := idyn_any hi1 (hO.fr hf1 hB0 hR0 HV0.out) hB0 hR0 f hf
  have HF1 := Lib.hid hf1
  have HW1 := Lib.hid hw1
  have HCB := Lib.hid hcb
  have HN := Lib.hid (show cb ≠ B ∧ cb ≠ R ∧ some cb ≠ v.ownBlock from ⟨by have := h.hB; have := h.low; omega, by have := h.hR; have := h.low; omega, fun e => by have := h.vlt cb e.symm; omega⟩)
  have hcbb : base ≤ cb ∧ v.ownBlock ≠ some cb := ⟨by have := h.low; omega, fun e => HN.out.2.2 e.symm⟩
  have HCBB := Lib.hid hcbb
  obtain ⟨rr, hrr⟩ : ∃ rr, rr = run xs most (dynR f) p o := ⟨_, rfl⟩
  rw [← hrr] at HD ⊢
  have HDD := Lib.hid HD
  clear h hO hf hw1 hb1 hcb hi1 hf1 HD hrr hcbb
  have h21 : ((2 : Int) != 1) = true := by decide
  go_enter Tryz.func184, Tryz.ntmps184
  go_wp2_with fail
  rw [← HW1.out, ← HCB.out]
  refine HDD.out.mono ?_
  rintro e w2 hsay
  cases rr with
  | error er =>
    obtain ⟨rfl, hf2⟩ := hsay
    have hx2 := HX1.out.fr hf2 HN.out
    have cc0 := hx2.c0
    have cc1 := hx2.c1
    have cf0 := hx2.f 0
    have cf1 := hx2.f 1
    have c80 := ((hx2.set0 none).set1 none).c0
    have c81 := ((hx2.set0 none).set1 none).c1
    have HFF := Lib.hid (((HF1.out.trans (Went.refl _ _) hf2).set cb 0 (.pointer none) (Nat.le_of_eq HCB.out.symm)).set cb 1 (.pointer none) (Nat.le_of_eq HCB.out.symm))
    clear hx2 hf2
    go_wp2_with fail
    exact bodyPost_ret (v := .tuple #[.agg #[.pointer none, .pointer none], .int .i64 er]) (by simp [results, Tryz.results184, go_sem, c80, c81]) rfl ⟨rfl, HFF.out⟩
  | ok r =>
    obtain ⟨LD, q, o'⟩ := r
    obtain ⟨LB, DB, rfl, hf2, hi2, hkl, hkd⟩ := hsay
    have hx2 := HX1.out.fr hf2 HN.out
    have cc0 := hx2.c0
    have cc1 := hx2.c1
    have cf0 := hx2.f 0
    have cf1 := hx2.f 1
    have c80 := ((hx2.set0 (some ⟨LB, 0, none⟩)).set1 (some ⟨DB, 0, none⟩)).c0
    have c81 := ((hx2.set0 (some ⟨LB, 0, none⟩)).set1 (some ⟨DB, 0, none⟩)).c1
    have HFF := Lib.hid (((HF1.out.trans (Went.refl _ _) hf2).set cb 0 (.pointer (some ⟨LB, 0, none⟩)) (Nat.le_of_eq HCB.out.symm)).set cb 1 (.pointer (some ⟨DB, 0, none⟩)) (Nat.le_of_eq HCB.out.symm))
    have HII := Lib.hid ((hi2.set cb 0 (.pointer (some ⟨LB, 0, none⟩)) HCBB.out.1 HCBB.out.2).set cb 1 (.pointer (some ⟨DB, 0, none⟩)) HCBB.out.1 HCBB.out.2)
    have HKL := Lib.hid (((hkl.set cb 0 (.pointer (some ⟨LB, 0, none⟩)) HX1.out.lt).set cb 1 (.pointer (some ⟨DB, 0, none⟩)) HX1.out.lt).since HF1.out.size)
    have HKD := Lib.hid (((hkd.set cb 0 (.pointer (some ⟨LB, 0, none⟩)) HX1.out.lt).set cb 1 (.pointer (some ⟨DB, 0, none⟩)) HX1.out.lt).since HF1.out.size)
    clear hx2 hf2 hi2 hkl hkd
    go_wp2_with fail
    exact bodyPost_ret (v := .tuple #[.agg #[.pointer (some ⟨LB, 0, none⟩), .pointer (some ⟨DB, 0, none⟩)], .int .i64 0]) (by simp [results, Tryz.results184, go_sem, c80, c81]) rfl ⟨LB, DB, rfl, HFF.out, HII.out, HKL.out, HKD.out⟩

theorem InAt.c3 {w : World} {B R base : Nat} {ra : Option Addr} {n c : Nat} {xs : List Nat} {p : Nat} {v : Value} {o : List Nat} {most : Nat} {fl fd : Option Addr} (h : InAt w B R base ra n c xs p v o most fl fd) : w.cell? ⟨B, 3, none⟩ = some (.pointer fl) ∧ w.cell? ⟨B, 4, none⟩ = some (.pointer fd) ∧ w.frozen? ⟨B, 3, none⟩ = false ∧ w.frozen? ⟨B, 4, none⟩ = false := ⟨h.ib.c3, h.ib.c4, h.ib.f 3, h.ib.f 4⟩

set_option maxRecDepth 100000 in
set_option maxHeartbeats 2000000 in
theorem icodes_old {w : World} {B R base : Nat} {ra : Option Addr} {n c : Nat} {xs : List Nat} {p : Nat} {v : Value} {o : List Nat} {most : Nat} {LB DB : Nat} (h : InAt w B R base ra n c xs p v o most (some ⟨LB, 0, none⟩) (some ⟨DB, 0, none⟩)) :
    Calls Tryz.prog 184 #[.pointer (some ⟨B, 0, none⟩), .int .u32 1] w fun e w' => e = .returned (.tuple #[.agg #[.pointer (some ⟨LB, 0, none⟩), .pointer (some ⟨DB, 0, none⟩)], .int .i64 0]) ∧ Fr w w' B R v ∧ InAt w' B R base ra n c xs p v o most (some ⟨LB, 0, none⟩) (some ⟨DB, 0, none⟩) := by
  have hb : Below w.heap.size w (w.alloc (.cells #[.pointer (some ⟨LB, 0, none⟩), .pointer (some ⟨DB, 0, none⟩)] 187)) := (Below.refl _ _).alloc (Nat.le_refl _) _
  have HFF := Lib.hid (Fr.below (B := B) (R := R) (v := v) hb)
  have HII := Lib.hid (h.below hb)
  have hb1 : Below w.heap.size w (w.alloc (.cells #[.pointer none, .pointer none] 187)) := (Below.refl _ _).alloc (Nat.le_refl _) _
  have hcc := (h.below hb1).c3
  have c3 := hcc.1
  have c4 := hcc.2.1
  have f3 := hcc.2.2.1
  have f4 := hcc.2.2.2
  have h11 : ((1 : Int) != 1) = false := by decide
  clear h hb hb1 hcc
  go_enter Tryz.func184, Tryz.ntmps184
  go_wp2_with fail
  exact bodyPost_ret (v := .tuple #[.agg #[.pointer (some ⟨LB, 0, none⟩), .pointer (some ⟨DB, 0, none⟩)], .int .i64 0]) (by simp [results, Tryz.results184, go_sem]) rfl ⟨rfl, HFF.out, HII.out⟩

set_option maxRecDepth 100000 in
set_option maxHeartbeats 2000000 in
theorem icodes_new {w : World} {B R base : Nat} {ra : Option Addr} {n c : Nat} {xs : List Nat} {p : Nat} {v : Value} {o : List Nat} {most : Nat} {fd : Option Addr} (h : InAt w B R base ra n c xs p v o most none fd) :
    Calls Tryz.prog 184 #[.pointer (some ⟨B, 0, none⟩), .int .u32 1] w fun e w' => ∃ LB DB, e = .returned (.tuple #[.agg #[.pointer (some ⟨LB, 0, none⟩), .pointer (some ⟨DB, 0, none⟩)], .int .i64 0]) ∧ Fr w w' B R v ∧ InAt w' B R base ra n c xs p v o most (some ⟨LB, 0, none⟩) (some ⟨DB, 0, none⟩) ∧ Up w w' LB fixL ∧ Up w w' DB fixD := by
  obtain ⟨w1, hw1⟩ : ∃ w1, w1 = w.alloc (.cells #[.pointer none, .pointer none] 187) := ⟨_, rfl⟩
  have hb1 : Below w.heap.size w w1 := by rw [hw1]; exact (Below.refl _ _).alloc (Nat.le_refl _) _
  obtain ⟨cb, hcb⟩ : ∃ cb, cb = w.heap.size := ⟨_, rfl⟩
  have hx1 : CodesBlk w1 cb none none := by rw [hw1, hcb]; exact heap_alloc_new w _
  have hi1 := h.below hb1
  have hf1 := Fr.below (B := B) (R := R) (v := v) hb1
  have hcbb : base ≤ cb ∧ v.ownBlock ≠ some cb ∧ cb ≠ B := ⟨by have := h.low; omega, fun e => by have := h.vlt cb e; omega, by have := h.hB; have := h.low; omega⟩
  have c3 := hi1.ib.c3
  have HI1 := Lib.hid hi1
  have HF1 := Lib.hid hf1
  have HX1 := Lib.hid hx1
  have HCBB := Lib.hid hcbb
  have HW1 := Lib.hid hw1
  have HCB := Lib.hid hcb
  have HFX := Lib.hid (ifixed_any w1)
  have h11 : ((1 : Int) != 1) = false := by decide
  rw [hw1] at c3
  clear h hb1 hx1 hi1 hf1 hcbb hw1 hcb
  go_enter Tryz.func184, Tryz.ntmps184
  go_wp2_with fail
  rw [← HW1.out, ← HCB.out]
  clear c3
  refine HFX.out.mono ?_
  rintro e w2 ⟨LB, DB, rfl, hb2, hl, hd, htl, htd⟩
  have hi2 := HI1.out.below hb2
  have hf2 := HF1.out.trans (Went.refl _ _) (Fr.below hb2)
  have hx2 := HX1.out.below hb2
  have hbl := HI1.out.ib.lt
  have hul : Up w1 w2 LB fixL := ⟨_, Nat.le_refl _, hl, htl⟩
  have hud : Up w1 w2 DB fixD := ⟨_, Nat.le_refl _, hd, htd⟩
  have hcc := hi2.c3
  have c3 := hcc.1
  have c4 := hcc.2.1
  have f3 := hcc.2.2.1
  have f4 := hcc.2.2.2
  have hi3 := hi2.fix (some ⟨LB, 0, none⟩) (some ⟨DB, 0, none⟩)
  have hf3 := hf2.fix (some ⟨LB, 0, none⟩) (some ⟨DB, 0, none⟩)
  have hx3 : CodesBlk ((w2.setCell ⟨B, 3, none⟩ (.pointer (some ⟨LB, 0, none⟩))).setCell ⟨B, 4, none⟩ (.pointer (some ⟨DB, 0, none⟩))) cb none none := by
    show _ = _
    rw [heap_setCell_other _ _ _ _ HCBB.out.2.2, heap_setCell_other _ _ _ _ HCBB.out.2.2]; exact hx2
  have d3 := hi3.c3.1
  have d4 := hi3.c3.2.1
  have cc0 := hx3.c0
  have cc1 := hx3.c1
  have cf0 := hx3.f 0
  have cf1 := hx3.f 1
  have c80 := ((hx3.set0 (some ⟨LB, 0, none⟩)).set1 (some ⟨DB, 0, none⟩)).c0
  have c81 := ((hx3.set0 (some ⟨LB, 0, none⟩)).set1 (some ⟨DB, 0, none⟩)).c1
  have HFF := Lib.hid ((hf3.set cb 0 (.pointer (some ⟨LB, 0, none⟩)) (Nat.le_of_eq HCB.out.symm)).set cb 1 (.pointer (some ⟨DB, 0, none⟩)) (Nat.le_of_eq HCB.out.symm))
  have HII := Lib.hid ((hi3.set cb 0 (.pointer (some ⟨LB, 0, none⟩)) HCBB.out.1 HCBB.out.2.1).set cb 1 (.pointer (some ⟨DB, 0, none⟩)) HCBB.out.1 HCBB.out.2.1)
  have HUL := Lib.hid (((((hul.set B 3 (.pointer (some ⟨LB, 0, none⟩)) hbl).set B 4 (.pointer (some ⟨DB, 0, none⟩)) hbl).set cb 0 (.pointer (some ⟨LB, 0, none⟩)) HX1.out.lt).set cb 1 (.pointer (some ⟨DB, 0, none⟩)) HX1.out.lt).since HF1.out.size)
  have HUD := Lib.hid (((((hud.set B 3 (.pointer (some ⟨LB, 0, none⟩)) hbl).set B 4 (.pointer (some ⟨DB, 0, none⟩)) hbl).set cb 0 (.pointer (some ⟨LB, 0, none⟩)) HX1.out.lt).set cb 1 (.pointer (some ⟨DB, 0, none⟩)) HX1.out.lt).since HF1.out.size)
  clear hi2 hf2 hx2 hul hud hcc hi3 hf3 hx3 hb2 htl htd
  go_wp2_with fail
  exact bodyPost_ret (v := .tuple #[.agg #[.pointer (some ⟨LB, 0, none⟩), .pointer (some ⟨DB, 0, none⟩)], .int .i64 0]) (by simp [results, Tryz.results184, go_sem, c80, c81]) rfl ⟨LB, DB, rfl, HFF.out, HII.out, HUL.out, HUD.out⟩
end Go.Proofs.YtpbijdoemdoijaaGreatDoor
end PkCa27_0
section PkCa27_1
/- Package inflate: copied, the walk. -/
namespace Go.Proofs.YtpbijdoemdoijaaGreatDoor
open Go.RowKit PrefPlain BitsPlain InfPlain
set_option linter.unusedVariables false

set_option maxRecDepth 100000 in
set_option maxHeartbeats 4000000 in
theorem icopied_any {w : World} {B R base : Nat} {ra : Option Addr} {n c : Nat} {xs : List Nat} {p : Nat} {v : Value} {o : List Nat} {most : Nat} {fl fd : Option Addr} (h : InAt w B R base ra n c xs p v o most fl fd) :
    Calls Tryz.prog 183 #[.pointer (some ⟨B, 0, none⟩)] w fun e w' => Says w B R base ra n c xs v most fl fd (run xs most copyR p o) e w' := by
  obtain ⟨i0, hi, hz0, hz1, hz2⟩ := info_parts info_u8
  obtain ⟨av, cv, rfl, _, _⟩ := BytesAt.ofOwn h.own h.byte (by have := h.lim; have := h.most; omega)
  have c0 := h.ib.c0
  have hm := h.most
  have HA := Lib.hid (ialign_any h.rd)
  have HI := Lib.hid h
  have HLE := Lib.hid (show p ≤ 8 * xs.length by have := h.rd.le; have := h.rd.src.len; omega)
  clear h
  go_enter Tryz.func183, Tryz.ntmps183
  go_wp2_with fail
  refine HA.out.mono ?_
  rintro e w1 ⟨rfl, hr1, hg1⟩
  have hi1 := HI.out.read hr1 hg1
  have HF1 := Lib.hid (Fr.rd B (.slice av o.length cv) hg1)
  have hc1 := hi1.ib.c0
  have HI1 := Lib.hid hi1
  clear hr1 hg1 hi1 c0
  by_cases s1 : 8 * xs.length < (p + 7) / 8 * 8 + 16
  · have HB := Lib.hid (ibits_no HI1.out.rd 16 (by omega) s1)
    have HE := Lib.hid (copy_1 (most := most) (o := o) HLE.out s1)
    clear s1
    go_wp2_with fail
    refine HB.out.mono ?_
    rintro e w2 ⟨rfl, hr2, hg2⟩
    have HF2 := Lib.hid (HF1.out.trans (Went.refl _ _) (Fr.rd B _ hg2))
    clear hr2 hg2
    go_wp2_with fail
    go_ret
    rw [HE.out]
    exact ⟨rfl, HF2.out⟩
  · have HB := Lib.hid (ibits_yes HI1.out.rd 16 (by omega) (by omega))
    have hN := num_lt xs ((p + 7) / 8 * 8) 16
    obtain ⟨N, hNe⟩ : ∃ N, N = num xs ((p + 7) / 8 * 8) 16 := ⟨_, rfl⟩
    rw [← hNe] at HB hN
    have HN := Lib.hid hNe
    have hN2 : N < 65536 := by simpa using hN
    have HS1 := Lib.hid (show (p + 7) / 8 * 8 + 16 ≤ 8 * xs.length by omega)
    clear hNe hN s1
    go_wp2_with fail
    refine HB.out.mono ?_
    rintro e w2 ⟨rfl, hr2, hg2⟩
    have hi2 := HI1.out.read hr2 hg2
    have HF2 := Lib.hid (HF1.out.trans (Went.refl _ _) (Fr.rd B _ hg2))
    have HR := Lib.hid (room_any hi2.ib hi2.lim hi2.most N (by omega))
    have HI2 := Lib.hid hi2
    clear hr2 hg2 hi2 hc1
    by_cases hroom : o.length + N ≤ most
    · have hd : decide (o.length + N ≤ most) = true := decide_eq_true hroom
      rw [hd] at HR
      clear hd
      go_wp2_with fail
      refine HR.out.mono ?_
      rintro e w3 ⟨rfl, d3, rfl⟩
      have hi3 := HI2.out.drewN d3
      have hc3 := hi3.ib.c0
      have HF3 := Lib.hid (HF2.out.trans (Went.refl _ _) (Fr.touch R (touch_drewN w2 d3 B _)))
      have HI3 := Lib.hid hi3
      clear hi3
      by_cases s2 : 8 * xs.length < (p + 7) / 8 * 8 + 16 + 16
      · have HB3 := Lib.hid (ibits_no HI3.out.rd 16 (by omega) s2)
        have HE := Lib.hid (copy_3 (most := most) (o := o) HS1.out (by rw [← HN.out]; exact hroom) s2)
        clear s2
        go_wp2_with fail
        refine HB3.out.mono ?_
        rintro e w4 ⟨rfl, hr4, hg4⟩
        have HF4 := Lib.hid (HF3.out.trans (Went.refl _ _) (Fr.rd B _ hg4))
        clear hr4 hg4
        go_wp2_with fail
        go_ret
        rw [HE.out]
        exact ⟨rfl, HF4.out⟩
      · have HB3 := Lib.hid (ibits_yes HI3.out.rd 16 (by omega) (by omega))
        have hE := copy_4 (xs := xs) (most := most) (p := p) (o := o) (by omega) (by rw [← HN.out]; exact hroom)
        have hT := num_lt xs ((p + 7) / 8 * 8 + 16) 16
        obtain ⟨T, hTe⟩ : ∃ T, T = num xs ((p + 7) / 8 * 8 + 16) 16 := ⟨_, rfl⟩
        rw [← hTe] at HB3 hT hE
        rw [← HN.out] at hE
        have hT2 : T < 65536 := by simpa using hT
        have hx := xor_ffff N (by omega)
        obtain ⟨X, hX⟩ : ∃ X, X = N ^^^ 65535 := ⟨_, rfl⟩
        rw [← hX] at hE hx
        have HE := Lib.hid hE
        clear hTe hT hE hX s2
        go_wp2_with fail
        refine HB3.out.mono ?_
        rintro e w4 ⟨rfl, hr4, hg4⟩
        have HI4 := Lib.hid (HI3.out.read hr4 hg4)
        have HF4 := Lib.hid (HF3.out.trans (Went.refl _ _) (Fr.rd B _ hg4))
        clear hr4 hg4
        by_cases hTX : T = X
        · subst hTX
          have hee : ((T : Int) != (T : Int)) = false := by simp
          have HE2 := Lib.hid (show run xs most copyR p o = run xs most (bytesR N) ((p + 7) / 8 * 8 + 16 + 16) o by rw [HE.out, if_neg (by simp)])
          clear HE hc3
          go_wp2_with fail
          go_loopw [45] (fun s45 wr => ∃ (k q : Nat) (v' : Value) (o' : List Nat), k ≤ N ∧ s45 = .int .u32 (k : Int) ∧ Hid (InAt wr B R base ra n c xs q v' o' most fl fd) ∧ Hid (Cp xs most ((p + 7) / 8 * 8 + 16 + 16) o N k q o') ∧ Hid (Fr w wr B R (.slice av o.length cv)) ∧ Hid (Went w (.slice av o.length cv) v')) (fun s45 _ => N - (intOf s45).toNat)
          case atStart => exact ⟨0, _, _, o, by omega, rfl, HI4, Lib.hid ⟨rfl, hroom⟩, HF4, Lib.hid (Went.refl _ _)⟩
          case round =>
            obtain ⟨k, q, v', o', hk, rfl, HJ, HC, HF, HW⟩ := hrel
            rename World => wr
            obtain ⟨a', c', rfl, _, _⟩ := BytesAt.ofOwn HJ.out.own HJ.out.byte (by have := HJ.out.lim; omega)
            have hq : q ≤ 8 * xs.length := by have := HJ.out.rd.le; have := HJ.out.rd.src.len; omega
            have hc5 := HJ.out.ib.c0
            by_cases hkN : k < N
            · by_cases s3 : 8 * xs.length < q + 8
              · have HB5 := Lib.hid (ibits_no HJ.out.rd 8 (by omega) s3)
                have HE3 := Lib.hid (HC.out.short hkN hq s3)
                clear s3 hq
                go_wp2_with fail
                refine HB5.out.mono ?_
                rintro e w6 ⟨rfl, hr6, hg6⟩
                have HF6 := Lib.hid (HF.out.trans HW.out (Fr.rd B _ hg6))
                clear hr6 hg6
                go_wp2_with fail
                go_ret
                rw [HE2.out, HE3.out]
                exact ⟨rfl, HF6.out⟩
              · have HB5 := Lib.hid (ibits_yes HJ.out.rd 8 (by omega) (by omega))
                have HCN := Lib.hid (HC.out.next hkN (by omega))
                have hx8 := num_lt xs q 8
                obtain ⟨x, hxe⟩ : ∃ x, x = num xs q 8 := ⟨_, rfl⟩
                rw [← hxe] at HB5 HCN hx8
                have hx256 : x < 256 := by simpa using hx8
                have hl1 : o'.length + 1 ≤ most := by have := HC.out.room; omega
                clear s3 hq hx8 hxe
                go_wp2_with fail
                refine HB5.out.mono ?_
                rintro e w6 ⟨rfl, hr6, hg6⟩
                have hj6 := HJ.out.read hr6 hg6
                have HF6 := Lib.hid (HF.out.trans HW.out (Fr.rd B _ hg6))
                have hs6 := hg6.size
                have c6 := hj6.ib.c1
                have hlow6 := hj6.low
                have HJ6 := Lib.hid hj6
                have HOA := Lib.hid (hj6.own.alloc (.cells #[.int .u8 (x : Int)] 5))
                clear hr6 hg6 hj6
                go_wp2_with (at_builtin; refine wpList_append_own_at _ rfl (.tmp 62) (.tmp 65) 27 rfl base 5 i0 (.int .u8 0) 1 1 Tryz.underlying27 hi hz0 hz1 hz2 rfl (by decide) _ _ _ rfl HOA.out ⟨w6.heap.size, 0, none⟩ 1 1 [.int .u8 (x : Int)] rfl rfl (one_src _ _ _) (one_oneCell rfl) (by unfold maxLen; omega) (by omega) (by simp; omega) ?_)
                intro v2 w7 hown7 hg7 _ hat7
                have hwent : Went w6 (.slice a' o'.length c') v2 := by
                  rcases hat7 with e | e
                  · exact .inl e
                  · exact .inr ⟨_, e, by simp⟩
                have HWT := Lib.hid hwent
                obtain ⟨g2, cc2, rfl⟩ := own_some hown7 (by omega)
                obtain ⟨hb7, hb8, ho8, ht8⟩ := out_step _ HJ6.out.ib HJ6.out.own hown7 hg7
                have c7 := hb7.c1
                have f7 := hb7.f 1
                have HJ8 := Lib.hid (HJ6.out.wrote hx256 hl1 ht8 hb8 (by rw [bv_append]; exact ho8))
                have hsz6 : w.heap.size ≤ w6.heap.size := by have := HF.out.size; omega
                clear hb7 hb8 ho8 hown7 hg7 c6 hwent hat7
                go_wp2_with fail
                go_roundw
                case rel => exact ⟨k + 1, _, _, _, by omega, by go_num, HJ8, HCN, Lib.hid (HF6.out.trans HW.out (Fr.touch R ht8)), Lib.hid (HW.out.trans hsz6 HWT.out)⟩
                case measure => simp [intOf]; omega
            · obtain rfl : k = N := by omega
              have HE3 := Lib.hid HC.out.done
              clear hq hkN
              go_wp2_with fail
              go_ret
              rw [HE2.out, HE3.out]
              exact ⟨rfl, HF.out, _, HJ.out, HW.out⟩
        · have hee : ((T : Int) != (X : Int)) = true := by rw [bne_iff_ne]; omega
          have HE2 := Lib.hid (show run xs most copyR p o = .error 4 by rw [HE.out, if_pos hTX])
          clear HE hTX
          go_wp2_with fail
          go_ret
          rw [HE2.out]
          exact ⟨rfl, HF4.out⟩
    · have hd : decide (o.length + N ≤ most) = false := decide_eq_false hroom
      rw [hd] at HR
      have HE := Lib.hid (copy_2 (xs := xs) (most := most) (p := p) (o := o) HS1.out (by rw [← HN.out]; omega))
      clear hd
      go_wp2_with fail
      refine HR.out.mono ?_
      rintro e w3 ⟨rfl, d3, rfl⟩
      have HF3 := Lib.hid (HF2.out.trans (Went.refl _ _) (Fr.touch R (touch_drewN w2 d3 B _)))
      go_wp2_with fail
      go_ret
      rw [HE.out]
      exact ⟨rfl, HF3.out⟩
end Go.Proofs.YtpbijdoemdoijaaGreatDoor
end PkCa27_1
section PkCa27_2
/- Package inflate: symbols, walked: letters and distances up to the block's end. -/
namespace Go.Proofs.YtpbijdoemdoijaaGreatDoor
open Go.RowKit PrefPlain BitsPlain InfPlain
set_option linter.unusedVariables false



set_option maxRecDepth 100000 in
set_option maxHeartbeats 2000000 in
theorem isym_any {w : World} {B R base : Nat} {ra : Option Addr} {n c : Nat} {xs : List Nat} {p : Nat} {v : Value} {o : List Nat} {most : Nat} {fl fd : Option Addr} (h : InAt w B R base ra n c xs p v o most fl fd) {LB DB : Nat} {L D : List Int} (hL : Kept w B R v LB L) (hD : Kept w B R v DB D) (f : Nat) (hf : 8 * xs.length < p + f) :
    Calls Tryz.prog 185 #[.pointer (some ⟨B, 0, none⟩), .agg #[.pointer (some ⟨LB, 0, none⟩), .pointer (some ⟨DB, 0, none⟩)]] w fun e w' => Says w B R base ra n c xs v most fl fd (run xs most (symR L D f) p o) e w' := by
  have HH := Lib.hid h
  have HL := Lib.hid hL
  have HD := Lib.hid hD
  have HFU := Lib.hid hf
  clear h hL hD hf
  go_enter Tryz.func185, Tryz.ntmps185
  go_wp2_with fail
  obtain ⟨cb, hcb⟩ : ∃ cb, cb = w.heap.size := ⟨_, rfl⟩
  generalize hw1 : w.alloc (Obj.cells _ _) = w1
  rw [← hcb]
  have hbel : Below w.heap.size w w1 := by rw [← hw1]; exact (Below.refl _ _).alloc (Nat.le_refl _) _
  have hf1 : Fr w w1 B R v := Fr.below hbel
  have hbox : w1.heap[cb]? = some (.cells #[.pointer (some ⟨LB, 0, none⟩), .pointer (some ⟨DB, 0, none⟩)] 187 (0, 0)) := by rw [← hw1, hcb]; exact heap_alloc_new w _
  have hcbl : cb < w1.heap.size := (Array.getElem?_eq_some_iff.1 hbox).1
  have HI1 := Lib.hid (HH.out.below hbel)
  have HL1 := Lib.hid (HL.out.on hf1 (Went.refl _ _))
  have HD1 := Lib.hid (HD.out.on hf1 (Went.refl _ _))
  have hcbB : cb ≠ B := by have := HH.out.hB; have := HH.out.low; omega
  have hcbR : cb ≠ R := by have := HH.out.hR; have := HH.out.low; omega
  have hcbV : some cb ≠ v.ownBlock := fun e => by have := HH.out.vlt cb e.symm; omega
  have HBOX := Lib.hid hbox
  have HCB := Lib.hid (And.intro hcbB (And.intro hcbR hcbV))
  have HF1 := Lib.hid hf1
  clear hbox hf1 hbel hw1 hcb hcbB hcbR hcbV
  go_loopg [] f (fun g wr => ∃ (f' q : Nat) (v' : Value) (o' : List Nat), g = f' ∧ Hid (Sy xs most L D f p o f' q o') ∧ Hid (InAt wr B R base ra n c xs q v' o' most fl fd) ∧ Hid (Fr w1 wr B R v) ∧ Hid (Went w1 v v'))
  case atStart => exact ⟨f, p, v, o, rfl, Lib.hid ⟨rfl, HFU.out⟩, HI1, Lib.hid (Fr.refl _ _ _ _), Lib.hid (Went.refl _ _)⟩
  case round =>
    obtain ⟨f', q, v', o', hg, HS, HI, HF, HW⟩ := hrel
    rename World => wr
    have hq := HI.out.pl
    obtain ⟨f2, rfl⟩ : ∃ f2, f' = f2 + 1 := ⟨f' - 1, by have := HS.out.fuel; omega⟩
    have HGG := Lib.hid hg
    clear hg
    have hbx : wr.heap[cb]? = some (.cells #[.pointer (some ⟨LB, 0, none⟩), .pointer (some ⟨DB, 0, none⟩)] 187 (0, 0)) := (HF.out.block cb hcbl HCB.out.1 HCB.out.2.1 HCB.out.2.2).trans HBOX.out
    have cL : wr.cell? ⟨cb, 0, none⟩ = some (.pointer (some ⟨LB, 0, none⟩)) := by rw [cell_of_row wr cb 0 _ _ (0, 0) hbx]; rfl
    have cD : wr.cell? ⟨cb, 1, none⟩ = some (.pointer (some ⟨DB, 0, none⟩)) := by rw [cell_of_row wr cb 1 _ _ (0, 0) hbx]; rfl
    have c0 := HI.out.ib.c0
    have hid := HI.out.below (below_drew wr)
    have HLR := Lib.hid ((HL1.out.on HF.out HW.out).on (Fr.below (below_drew wr)) (Went.refl _ _))
    have HDR := Lib.hid ((HD1.out.on HF.out HW.out).on (Fr.below (below_drew wr)) (Went.refl _ _))
    have hnx := next_any HLR.out.at hid.rd HLR.out.ne (fun w' hg => HLR.out.tab w' (Fr.rd B _ hg))
    have E1 := @sym_1 xs most q o' L D f2 hq
    have E2 := @sym_2 xs most q o' L D f2 hq
    have E3 := @sym_3 xs most q o' L D f2 hq
    have E4 := @sym_4 xs most q o' L D f2 hq
    have E5 := @sym_5 xs most q o' L D f2 hq
    have hone := @rn_one L xs q
    obtain ⟨sn, hsn⟩ : ∃ sn : Nat, (rn L xs q).1 = (sn : Int) := ⟨(rn L xs q).1.toNat, by have := rn_nonneg L xs q; omega⟩
    have hsle : sn ≤ 320 := by have := rn_le L xs q; have := HLR.out.at.short; omega
    rw [hsn] at hnx E2 E3 E4 E5
    obtain ⟨er, her⟩ : ∃ er, er = (rn L xs q).2.1 := ⟨_, rfl⟩
    obtain ⟨ct, hct⟩ : ∃ ct, ct = (rn L xs q).2.2 := ⟨_, rfl⟩
    rw [← her] at hnx E1 E2 E3 E4 E5 hone
    rw [← hct] at hnx E2 E3 E5 hone
    rw [Int.toNat_natCast] at E3
    have HNX := Lib.hid hnx
    have HE1 := Lib.hid E1
    have HE2 := Lib.hid E2
    have HE3 := Lib.hid E3
    have HE4 := Lib.hid E4
    have HE5 := Lib.hid E5
    have HONE := Lib.hid hone
    have HID := Lib.hid hid
    have hBl := hid.ib.lt
    have hcbr : cb < wr.heap.size := (Array.getElem?_eq_some_iff.1 hbx).1
    have HBX := Lib.hid hbx
    have HQ := Lib.hid hq
    clear hnx E1 E2 E3 E4 E5 hone hid hbx her hct hsn hq
    go_wp2_with fail
    go_region_held3 (fun w' => w'.cell? ⟨cb, 0, none⟩ = some (.pointer (some ⟨LB, 0, none⟩)) ∧ w'.cell? ⟨B, 0, none⟩ = some (.pointer (some ⟨R, 0, none⟩))) (first | go_keep | exact ⟨hgrow.cell (w := wr.drew) cL (fun e => HCB.out.2.1 (Option.some.inj e)), hgrow.cell (w := wr.drew) c0 (fun e => HID.out.ne (Option.some.inj e))⟩) (first | (go_at_call 197; refine HNX.out.mono ?_; rintro r w2 ⟨rfl, hr2, hgrow⟩))
    have hi2 := HID.out.read hr2 hgrow
    have hf2 : Fr wr w2 B R v' := (Fr.below (below_drew wr)).trans (Went.refl _ _) (Fr.rd B v' hgrow)
    have HF2 := Lib.hid (HF.out.trans HW.out hf2)
    have HDK := Lib.hid (HDR.out.on (Fr.rd B v' hgrow) (Went.refl _ _))
    have HI2 := Lib.hid hi2
    have hcD2 : w2.cell? ⟨cb, 1, none⟩ = some (.pointer (some ⟨DB, 0, none⟩)) := hgrow.cell (w := wr.drew) cD (fun e => HCB.out.2.1 (Option.some.inj e))
    have hsz2 : w1.heap.size ≤ w2.heap.size := HF2.out.size
    clear hr2 hgrow hi2 hf2 cL cD c0
    by_cases her0 : er = 0
    · subst her0
      have hz : ((0 : Int) != 0) = false := by decide
      have h1 := HONE.out rfl
      have hfu : 8 * xs.length < q + ct + f2 := by have := HS.out.fuel; omega
      have HFU2 := Lib.hid hfu
      clear hfu
      by_cases s256 : sn = 256
      · subst s256
        have HE := Lib.hid (HS.out.run.trans (HE2.out rfl (by rfl)))
        have hee : (((256 : Nat) : Int) == 256) = true := by decide
        go_wp2_with fail
        go_ret
        rw [HE.out]
        exact ⟨rfl, HF1.out.trans (Went.refl _ _) HF2.out, _, HI2.out, (Went.refl w v).trans HF1.out.size HW.out⟩
      · have hne : ((sn : Int) == 256) = false := by rw [beq_eq_false_iff_ne]; omega
        by_cases slt : sn < 256
        · have hsi : (sn : Int) < 256 := by omega
          have HP := Lib.hid (iput_all HI2.out sn slt)
          have HE := Lib.hid (HE3.out rfl hsi)
          have HNZ := Lib.hid (nz_put (x := sn) (nz_ret (α := Unit) ()) xs most (q + ct) o')
          have HLE := Lib.hid (fun u q3 o3 => @run_le Unit xs most (.put sn (.ret ())) (q + ct) o' u q3 o3)
          obtain ⟨rr, hrr⟩ : ∃ rr, rr = run xs most (.put sn (.ret ())) (q + ct) o' := ⟨_, rfl⟩
          rw [← hrr] at HP HE HNZ HLE
          clear hrr s256
          go_wp2_with fail
          refine HP.out.mono ?_
          rintro e w3 hsay
          cases rr with
          | error e3 =>
            obtain ⟨rfl, hf3⟩ := hsay
            have hez : ((e3 : Int) != 0) = true := by rw [bne_iff_ne]; have := HNZ.out e3 rfl; omega
            have HR := Lib.hid (HS.out.run.trans HE.out)
            have HF3 := Lib.hid (HF2.out.trans HW.out hf3)
            clear hf3
            go_wp2_with fail
            go_ret
            rw [HR.out]
            exact ⟨rfl, HF1.out.trans (Went.refl _ _) HF3.out⟩
          | ok r3 =>
            obtain ⟨u3, q3, o3⟩ := r3
            obtain ⟨rfl, hf3, v3, hi3, hw3⟩ := hsay
            have HR := Lib.hid (HS.out.run.trans HE.out)
            have HF3 := Lib.hid (HF2.out.trans HW.out hf3)
            have HI3 := Lib.hid hi3
            have HW3 := Lib.hid (HW.out.trans hsz2 hw3)
            clear hf3 hi3 hw3
            go_wp2_with fail
            go_roundg f2
            case rel => exact ⟨f2, q3, v3, o3, rfl, Lib.hid ⟨HR.out, by have := (HLE.out u3 q3 o3 rfl).1; have := HFU2.out; omega⟩, HI3, HF3, HW3⟩
            case measure => have := HGG.out; omega
        · have hsi : (256 : Int) ≤ (sn : Int) := by omega
          by_cases s286 : 286 ≤ sn
          · have hsi2 : (286 : Int) ≤ (sn : Int) := by omega
            have HE := Lib.hid (HS.out.run.trans (HE4.out rfl hsi2))
            clear s256 slt
            go_wp2_with fail
            go_ret
            rw [HE.out]
            exact ⟨rfl, HF1.out.trans (Went.refl _ _) HF2.out⟩
          · obtain ⟨m, rfl⟩ : ∃ m, sn = m + 257 := ⟨sn - 257, by omega⟩
            have hm29 : m < 29 := by omega
            have hsi2 : ((m + 257 : Nat) : Int) < 286 := by omega
            have hme : (m : Int) + 257 - 256 - 1 = (m : Int) := by omega
            have hp0 := irep_any HI2.out m hm29 HDK.out.tab HDK.out.ne
            rw [← hme] at hp0
            have HP := Lib.hid hp0
            have HE := Lib.hid (HE5.out rfl (by omega) hsi2)
            rw [show (((m + 257 : Nat) : Int) - 257).toNat = m from by omega] at HE
            have HNZ := Lib.hid (nz_rep m D xs most (q + ct) o')
            have HLE := Lib.hid (fun u q3 o3 => @run_le Unit xs most (repR m D) (q + ct) o' u q3 o3)
            obtain ⟨rr, hrr⟩ : ∃ rr, rr = run xs most (repR m D) (q + ct) o' := ⟨_, rfl⟩
            rw [← hrr] at HP HE HNZ HLE
            clear hrr s256 slt s286 hme hp0
            go_wp2_with fail
            refine HP.out.mono ?_
            rintro e w3 hsay
            cases rr with
            | error e3 =>
              obtain ⟨rfl, hf3⟩ := hsay
              have hez : ((e3 : Int) != 0) = true := by rw [bne_iff_ne]; have := HNZ.out e3 rfl; omega
              have HR := Lib.hid (HS.out.run.trans HE.out)
              have HF3 := Lib.hid (HF2.out.trans HW.out hf3)
              clear hf3
              go_wp2_with fail
              go_ret
              rw [HR.out]
              exact ⟨rfl, HF1.out.trans (Went.refl _ _) HF3.out⟩
            | ok r3 =>
              obtain ⟨u3, q3, o3⟩ := r3
              obtain ⟨rfl, hf3, v3, hi3, hw3⟩ := hsay
              have HR := Lib.hid (HS.out.run.trans HE.out)
              have HF3 := Lib.hid (HF2.out.trans HW.out hf3)
              have HI3 := Lib.hid hi3
              have HW3 := Lib.hid (HW.out.trans hsz2 hw3)
              clear hf3 hi3 hw3
              go_wp2_with fail
              go_roundg f2
              case rel => exact ⟨f2, q3, v3, o3, rfl, Lib.hid ⟨HR.out, by have := (HLE.out u3 q3 o3 rfl).1; have := HFU2.out; omega⟩, HI3, HF3, HW3⟩
              case measure => have := HGG.out; omega
    · have hz : ((er : Int) != 0) = true := by rw [bne_iff_ne]; omega
      have HE := Lib.hid (HS.out.run.trans (HE1.out her0))
      clear her0
      go_wp2_with fail
      go_ret
      rw [HE.out]
      exact ⟨rfl, HF1.out.trans (Went.refl _ _) HF2.out⟩
end Go.Proofs.YtpbijdoemdoijaaGreatDoor
end PkCa27_2
