/- Package inflate: codes, walked: those of a block's kind; those of kind 1 are made once. -/
import Derived.Test.YtnfdojdppifmoaaDoorInfDyn
namespace Go.Proofs.YtnfdojdppifmoaaDoor
open Go.RowKit PrefPlain BitsPlain InfPlain
set_option linter.unusedVariables false

/-- the codes of kind 1, once they are made -/
def Fx (w : World) (B R : Nat) (v : Value) (fl fd : Option Addr) : Prop :=
  fl = none ∨ ∃ LB DB, fl = some ⟨LB, 0, none⟩ ∧ fd = some ⟨DB, 0, none⟩ ∧ Kept w B R v LB fixL ∧ Kept w B R v DB fixD
theorem Fx.on {w w' : World} {B R : Nat} {v v' : Value} {fl fd : Option Addr} (h : Fx w B R v fl fd) (hf : Fr w w' B R v) (hw : Went w v v') : Fx w' B R v' fl fd := by
  rcases h with h | ⟨LB, DB, h1, h2, h3, h4⟩
  · exact .inl h
  · exact .inr ⟨LB, DB, h1, h2, h3.on hf hw, h4.on hf hw⟩
section
variable {w : World} {B R base : Nat} {ra : Option Addr} {n c : Nat} {xs : List Nat} {p : Nat} {v : Value} {o : List Nat} {most : Nat} {fl fd : Option Addr}
theorem InAt.fix (h : InAt w B R base ra n c xs p v o most fl fd) (x y : Option Addr) : InAt ((w.setCell ⟨B, 3, none⟩ (.pointer x)).setCell ⟨B, 4, none⟩ (.pointer y)) B R base ra n c xs p v o most x y := by
  have hlow : ∀ b, b < base → some b ≠ v.ownBlock := fun b hb e => by have := (h.own.lt b e.symm).1; omega
  have hoth : ∀ k, k ≠ B → ((w.setCell ⟨B, 3, none⟩ (.pointer x)).setCell ⟨B, 4, none⟩ (.pointer y)).heap[k]? = w.heap[k]? := fun k hk => by rw [heap_setCell_other _ _ _ _ hk, heap_setCell_other _ _ _ _ hk]
  have hsz : ((w.setCell ⟨B, 3, none⟩ (.pointer x)).setCell ⟨B, 4, none⟩ (.pointer y)).heap.size = w.heap.size := by simp
  refine ⟨⟨by rw [heap_setCell_same _ B 4 _ _ _ (heap_setCell_same w B 3 _ _ _ h.ib.blk)]; rfl⟩, ⟨(hoth R (fun e => h.ne e.symm)).trans h.rd.blk, ?_, h.rd.apart, h.rd.le⟩, ?_, h.byte, h.lim, h.most, by rw [hsz]; exact h.low, h.hB, h.hR, h.ne, h.src⟩
  · have hs := h.rd.src
    exact ⟨hs.len, hs.cap, hs.byte, hs.reach, hs.capm, hs.nl, fun hp => by
      obtain ⟨b, off, ha, hlt, hc⟩ := hs.cells hp
      obtain ⟨s1, s2⟩ := h.src b off _ hp ha
      exact ⟨b, off, ha, by rw [hsz]; exact hlt, fun k hk => (World.cell?_of_block (w := w) (hoth b s2)).trans (hc k hk)⟩⟩
  · refine h.own.kept (row := some B) ⟨rfl, rfl, rfl, by rw [hsz]; exact Nat.le_refl _, fun k hk hne => hoth k (fun e => hne (by rw [e]))⟩ (.inr (fun e => hlow B h.hB e.symm))
theorem Fr.fix {w1 : World} (h : Fr w w1 B R v) (x y : Option Addr) : Fr w ((w1.setCell ⟨B, 3, none⟩ (.pointer x)).setCell ⟨B, 4, none⟩ (.pointer y)) B R v :=
  ⟨h.os, h.tape, h.output, by have := h.size; simp; exact this, fun k hk h1 h2 h3 => by rw [heap_setCell_other _ _ _ _ h1, heap_setCell_other _ _ _ _ h1]; exact h.block k hk h1 h2 h3⟩
end

set_option maxRecDepth 100000 in
set_option maxHeartbeats 2000000 in
theorem icodes_2 {w : World} {B R base : Nat} {ra : Option Addr} {n c : Nat} {xs : List Nat} {p : Nat} {v : Value} {o : List Nat} {most : Nat} {fl fd : Option Addr} (h : InAt w B R base ra n c xs p v o most fl fd) (hO : Ordr w) (hB0 : 0 < B) (hR0 : 0 < R) (f : Nat) (hf : 8 * xs.length < p + f) :
    Calls Tryd.prog 20 #[.pointer (some ⟨B, 0, none⟩), .int .u32 2] w fun e w' => Dyn w B R base ra n c xs v most fl fd (run xs most (dynR f) p o) e w' := by
  have HV0 := Lib.hid (show v.ownBlock ≠ some 0 from fun e => by have := (h.own.lt 0 e).1; have := h.hB; omega)
  obtain ⟨w1, hw1⟩ : ∃ w1, w1 = w.alloc (.cells #[.pointer none, .pointer none] 39) := ⟨_, rfl⟩
  have hb1 : Below w.heap.size w w1 := by rw [hw1]; exact (Below.refl _ _).alloc (Nat.le_refl _) _
  obtain ⟨cb, hcb⟩ : ∃ cb, cb = w.heap.size := ⟨_, rfl⟩
  have HX1 := Lib.hid (show CodesBlk w1 cb none none by rw [hw1, hcb]; exact heap_alloc_new w _)
  have hi1 := h.below hb1
  have hf1 := Fr.below (B := B) (R := R) (v := v) hb1
  have HD := idyn_any hi1 (hO.fr hf1 hB0 hR0 HV0.out) hB0 hR0 f hf
  have HF1 := Lib.hid hf1
  have HW1 := Lib.hid hw1
  have HCB := Lib.hid hcb
  have HN := Lib.hid (show cb ≠ B ∧ cb ≠ R ∧ some cb ≠ v.ownBlock from ⟨by have := h.hB; have := h.low; omega, by have := h.hR; have := h.low; omega, fun e => by have := h.vlt cb e.symm; omega⟩)
  have hcbb : base ≤ cb ∧ v.ownBlock ≠ some cb := ⟨by have := h.low; omega, fun e => HN.out.2.2 e.symm⟩
  have HCBB := Lib.hid hcbb
  obtain ⟨rr, hrr⟩ : ∃ rr, rr = run xs most (dynR f) p o := ⟨_, rfl⟩
  rw [← hrr] at HD ⊢
  have HDD := Lib.hid HD
  clear h hO hf hw1 hb1 hcb hi1 hf1 HD hrr hcbb
  have h21 : ((2 : Int) != 1) = true := by decide
  go_enter Tryd.func20, Tryd.ntmps20
  go_wp2_with fail
  rw [← HW1.out, ← HCB.out]
  refine HDD.out.mono ?_
  rintro e w2 hsay
  cases rr with
  | error er =>
    obtain ⟨rfl, hf2⟩ := hsay
    have hx2 := HX1.out.fr hf2 HN.out
    have cc0 := hx2.c0
    have cc1 := hx2.c1
    have cf0 := hx2.f 0
    have cf1 := hx2.f 1
    have c80 := ((hx2.set0 none).set1 none).c0
    have c81 := ((hx2.set0 none).set1 none).c1
    have HFF := Lib.hid (((HF1.out.trans (Went.refl _ _) hf2).set cb 0 (.pointer none) (Nat.le_of_eq HCB.out.symm)).set cb 1 (.pointer none) (Nat.le_of_eq HCB.out.symm))
    clear hx2 hf2
    go_wp2_with fail
    exact bodyPost_ret (v := .tuple #[.agg #[.pointer none, .pointer none], .int .i64 er]) (by simp [results, Tryd.results20, go_sem, c80, c81]) rfl ⟨rfl, HFF.out⟩
  | ok r =>
    obtain ⟨LD, q, o'⟩ := r
    obtain ⟨LB, DB, rfl, hf2, hi2, hkl, hkd⟩ := hsay
    have hx2 := HX1.out.fr hf2 HN.out
    have cc0 := hx2.c0
    have cc1 := hx2.c1
    have cf0 := hx2.f 0
    have cf1 := hx2.f 1
    have c80 := ((hx2.set0 (some ⟨LB, 0, none⟩)).set1 (some ⟨DB, 0, none⟩)).c0
    have c81 := ((hx2.set0 (some ⟨LB, 0, none⟩)).set1 (some ⟨DB, 0, none⟩)).c1
    have HFF := Lib.hid (((HF1.out.trans (Went.refl _ _) hf2).set cb 0 (.pointer (some ⟨LB, 0, none⟩)) (Nat.le_of_eq HCB.out.symm)).set cb 1 (.pointer (some ⟨DB, 0, none⟩)) (Nat.le_of_eq HCB.out.symm))
    have HII := Lib.hid ((hi2.set cb 0 (.pointer (some ⟨LB, 0, none⟩)) HCBB.out.1 HCBB.out.2).set cb 1 (.pointer (some ⟨DB, 0, none⟩)) HCBB.out.1 HCBB.out.2)
    have HKL := Lib.hid (((hkl.set cb 0 (.pointer (some ⟨LB, 0, none⟩)) HX1.out.lt).set cb 1 (.pointer (some ⟨DB, 0, none⟩)) HX1.out.lt).since HF1.out.size)
    have HKD := Lib.hid (((hkd.set cb 0 (.pointer (some ⟨LB, 0, none⟩)) HX1.out.lt).set cb 1 (.pointer (some ⟨DB, 0, none⟩)) HX1.out.lt).since HF1.out.size)
    clear hx2 hf2 hi2 hkl hkd
    go_wp2_with fail
    exact bodyPost_ret (v := .tuple #[.agg #[.pointer (some ⟨LB, 0, none⟩), .pointer (some ⟨DB, 0, none⟩)], .int .i64 0]) (by simp [results, Tryd.results20, go_sem, c80, c81]) rfl ⟨LB, DB, rfl, HFF.out, HII.out, HKL.out, HKD.out⟩

theorem InAt.c3 {w : World} {B R base : Nat} {ra : Option Addr} {n c : Nat} {xs : List Nat} {p : Nat} {v : Value} {o : List Nat} {most : Nat} {fl fd : Option Addr} (h : InAt w B R base ra n c xs p v o most fl fd) : w.cell? ⟨B, 3, none⟩ = some (.pointer fl) ∧ w.cell? ⟨B, 4, none⟩ = some (.pointer fd) ∧ w.frozen? ⟨B, 3, none⟩ = false ∧ w.frozen? ⟨B, 4, none⟩ = false := ⟨h.ib.c3, h.ib.c4, h.ib.f 3, h.ib.f 4⟩

set_option maxRecDepth 100000 in
set_option maxHeartbeats 2000000 in
theorem icodes_old {w : World} {B R base : Nat} {ra : Option Addr} {n c : Nat} {xs : List Nat} {p : Nat} {v : Value} {o : List Nat} {most : Nat} {LB DB : Nat} (h : InAt w B R base ra n c xs p v o most (some ⟨LB, 0, none⟩) (some ⟨DB, 0, none⟩)) :
    Calls Tryd.prog 20 #[.pointer (some ⟨B, 0, none⟩), .int .u32 1] w fun e w' => e = .returned (.tuple #[.agg #[.pointer (some ⟨LB, 0, none⟩), .pointer (some ⟨DB, 0, none⟩)], .int .i64 0]) ∧ Fr w w' B R v ∧ InAt w' B R base ra n c xs p v o most (some ⟨LB, 0, none⟩) (some ⟨DB, 0, none⟩) := by
  have hb : Below w.heap.size w (w.alloc (.cells #[.pointer (some ⟨LB, 0, none⟩), .pointer (some ⟨DB, 0, none⟩)] 39)) := (Below.refl _ _).alloc (Nat.le_refl _) _
  have HFF := Lib.hid (Fr.below (B := B) (R := R) (v := v) hb)
  have HII := Lib.hid (h.below hb)
  have hb1 : Below w.heap.size w (w.alloc (.cells #[.pointer none, .pointer none] 39)) := (Below.refl _ _).alloc (Nat.le_refl _) _
  have hcc := (h.below hb1).c3
  have c3 := hcc.1
  have c4 := hcc.2.1
  have f3 := hcc.2.2.1
  have f4 := hcc.2.2.2
  have h11 : ((1 : Int) != 1) = false := by decide
  clear h hb hb1 hcc
  go_enter Tryd.func20, Tryd.ntmps20
  go_wp2_with fail
  exact bodyPost_ret (v := .tuple #[.agg #[.pointer (some ⟨LB, 0, none⟩), .pointer (some ⟨DB, 0, none⟩)], .int .i64 0]) (by simp [results, Tryd.results20, go_sem]) rfl ⟨rfl, HFF.out, HII.out⟩

set_option maxRecDepth 100000 in
set_option maxHeartbeats 2000000 in
theorem icodes_new {w : World} {B R base : Nat} {ra : Option Addr} {n c : Nat} {xs : List Nat} {p : Nat} {v : Value} {o : List Nat} {most : Nat} {fd : Option Addr} (h : InAt w B R base ra n c xs p v o most none fd) :
    Calls Tryd.prog 20 #[.pointer (some ⟨B, 0, none⟩), .int .u32 1] w fun e w' => ∃ LB DB, e = .returned (.tuple #[.agg #[.pointer (some ⟨LB, 0, none⟩), .pointer (some ⟨DB, 0, none⟩)], .int .i64 0]) ∧ Fr w w' B R v ∧ InAt w' B R base ra n c xs p v o most (some ⟨LB, 0, none⟩) (some ⟨DB, 0, none⟩) ∧ Up w w' LB fixL ∧ Up w w' DB fixD := by
  obtain ⟨w1, hw1⟩ : ∃ w1, w1 = w.alloc (.cells #[.pointer none, .pointer none] 39) := ⟨_, rfl⟩
  have hb1 : Below w.heap.size w w1 := by rw [hw1]; exact (Below.refl _ _).alloc (Nat.le_refl _) _
  obtain ⟨cb, hcb⟩ : ∃ cb, cb = w.heap.size := ⟨_, rfl⟩
  have hx1 : CodesBlk w1 cb none none := by rw [hw1, hcb]; exact heap_alloc_new w _
  have hi1 := h.below hb1
  have hf1 := Fr.below (B := B) (R := R) (v := v) hb1
  have hcbb : base ≤ cb ∧ v.ownBlock ≠ some cb ∧ cb ≠ B := ⟨by have := h.low; omega, fun e => by have := h.vlt cb e; omega, by have := h.hB; have := h.low; omega⟩
  have c3 := hi1.ib.c3
  have HI1 := Lib.hid hi1
  have HF1 := Lib.hid hf1
  have HX1 := Lib.hid hx1
  have HCBB := Lib.hid hcbb
  have HW1 := Lib.hid hw1
  have HCB := Lib.hid hcb
  have HFX := Lib.hid (ifixed_any w1)
  have h11 : ((1 : Int) != 1) = false := by decide
  rw [hw1] at c3
  clear h hb1 hx1 hi1 hf1 hcbb hw1 hcb
  go_enter Tryd.func20, Tryd.ntmps20
  go_wp2_with fail
  rw [← HW1.out, ← HCB.out]
  clear c3
  refine HFX.out.mono ?_
  rintro e w2 ⟨LB, DB, rfl, hb2, hl, hd, htl, htd⟩
  have hi2 := HI1.out.below hb2
  have hf2 := HF1.out.trans (Went.refl _ _) (Fr.below hb2)
  have hx2 := HX1.out.below hb2
  have hbl := HI1.out.ib.lt
  have hul : Up w1 w2 LB fixL := ⟨_, Nat.le_refl _, hl, htl⟩
  have hud : Up w1 w2 DB fixD := ⟨_, Nat.le_refl _, hd, htd⟩
  have hcc := hi2.c3
  have c3 := hcc.1
  have c4 := hcc.2.1
  have f3 := hcc.2.2.1
  have f4 := hcc.2.2.2
  have hi3 := hi2.fix (some ⟨LB, 0, none⟩) (some ⟨DB, 0, none⟩)
  have hf3 := hf2.fix (some ⟨LB, 0, none⟩) (some ⟨DB, 0, none⟩)
  have hx3 : CodesBlk ((w2.setCell ⟨B, 3, none⟩ (.pointer (some ⟨LB, 0, none⟩))).setCell ⟨B, 4, none⟩ (.pointer (some ⟨DB, 0, none⟩))) cb none none := by
    show _ = _
    rw [heap_setCell_other _ _ _ _ HCBB.out.2.2, heap_setCell_other _ _ _ _ HCBB.out.2.2]; exact hx2
  have d3 := hi3.c3.1
  have d4 := hi3.c3.2.1
  have cc0 := hx3.c0
  have cc1 := hx3.c1
  have cf0 := hx3.f 0
  have cf1 := hx3.f 1
  have c80 := ((hx3.set0 (some ⟨LB, 0, none⟩)).set1 (some ⟨DB, 0, none⟩)).c0
  have c81 := ((hx3.set0 (some ⟨LB, 0, none⟩)).set1 (some ⟨DB, 0, none⟩)).c1
  have HFF := Lib.hid ((hf3.set cb 0 (.pointer (some ⟨LB, 0, none⟩)) (Nat.le_of_eq HCB.out.symm)).set cb 1 (.pointer (some ⟨DB, 0, none⟩)) (Nat.le_of_eq HCB.out.symm))
  have HII := Lib.hid ((hi3.set cb 0 (.pointer (some ⟨LB, 0, none⟩)) HCBB.out.1 HCBB.out.2.1).set cb 1 (.pointer (some ⟨DB, 0, none⟩)) HCBB.out.1 HCBB.out.2.1)
  have HUL := Lib.hid (((((hul.set B 3 (.pointer (some ⟨LB, 0, none⟩)) hbl).set B 4 (.pointer (some ⟨DB, 0, none⟩)) hbl).set cb 0 (.pointer (some ⟨LB, 0, none⟩)) HX1.out.lt).set cb 1 (.pointer (some ⟨DB, 0, none⟩)) HX1.out.lt).since HF1.out.size)
  have HUD := Lib.hid (((((hud.set B 3 (.pointer (some ⟨LB, 0, none⟩)) hbl).set B 4 (.pointer (some ⟨DB, 0, none⟩)) hbl).set cb 0 (.pointer (some ⟨LB, 0, none⟩)) HX1.out.lt).set cb 1 (.pointer (some ⟨DB, 0, none⟩)) HX1.out.lt).since HF1.out.size)
  clear hi2 hf2 hx2 hul hud hcc hi3 hf3 hx3 hb2 htl htd
  go_wp2_with fail
  exact bodyPost_ret (v := .tuple #[.agg #[.pointer (some ⟨LB, 0, none⟩), .pointer (some ⟨DB, 0, none⟩)], .int .i64 0]) (by simp [results, Tryd.results20, go_sem, c80, c81]) rfl ⟨LB, DB, rfl, HFF.out, HII.out, HUL.out, HUD.out⟩
end Go.Proofs.YtnfdojdppifmoaaDoor
