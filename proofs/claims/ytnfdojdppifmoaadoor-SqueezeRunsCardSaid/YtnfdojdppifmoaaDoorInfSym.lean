/- Package inflate: what symR says, step by step; tables that the calls of an inflater leave alone. -/
import Derived.Test.YtnfdojdppifmoaaDoorInfRepWalk
import Derived.Test.YtnfdojdppifmoaaDoorRepeat
namespace Go.Proofs.YtnfdojdppifmoaaDoor
open Go.RowKit PrefPlain BitsPlain InfPlain
set_option linter.unusedVariables false

theorem nx_one (L : List Int) (bit : Nat → Nat) (left : Nat) : ∀ f k W, (nx L bit left f k W).2.1 = 0 → k + 1 ≤ (nx L bit left f k W).2.2
  | 0, k, W => by rw [nx]; intro h; cases h
  | f + 1, k, W => by
    rw [nx]
    split
    · intro h; cases h
    · split
      · intro _; exact Nat.le_refl _
      · intro h; have := nx_one L bit left f (k + 1) _ h; omega
theorem rn_one {L : List Int} {xs : List Nat} {p : Nat} (h : (rn L xs p).2.1 = 0) : 1 ≤ (rn L xs p).2.2 := by
  have := nx_one _ _ _ _ _ _ h
  unfold rn; omega
theorem nx_le (L : List Int) (bit : Nat → Nat) (left : Nat) : ∀ f k W, (nx L bit left f k W).1 ≤ L.length
  | 0, k, W => by simp [nx]
  | f + 1, k, W => by
    rw [nx]
    split
    · simp
    · split
      · show (sy L L.length (k + 1)).getD _ 0 ≤ _
        rw [List.getD_eq_getElem?_getD]
        cases h : (sy L L.length (k + 1))[2 * W + bit k - fw (cn L) (k + 1)]? with
        | none => simp
        | some z => exact Int.le_of_lt (sy_bound z (List.mem_of_getElem? h)).2
      · exact nx_le L bit left f _ _
theorem rn_le (L : List Int) (xs : List Nat) (p : Nat) : (rn L xs p).1 ≤ L.length := nx_le _ _ _ _ _ _

/-- a table that whatever the inflater's calls may turn leaves as it is -/
structure Kept (w : World) (B R : Nat) (v : Value) (TB : Nat) (L : List Int) : Prop where
  tab : ∀ w', Fr w w' B R v → TabAt w' TB L
  ne : TB ≠ R
theorem Kept.on {w w' : World} {B R TB : Nat} {v v' : Value} {L : List Int} (h : Kept w B R v TB L) (hf : Fr w w' B R v) (hw : Went w v v') : Kept w' B R v' TB L := ⟨fun w'' hf2 => h.tab w'' (hf.trans hw hf2), h.ne⟩
theorem Kept.at {w : World} {B R TB : Nat} {v : Value} {L : List Int} (h : Kept w B R v TB L) : TabAt w TB L := h.tab w (Fr.refl _ _ _ _)
theorem tab_kept {b0 : Nat} {w : World} {B R TB : Nat} {v : Value} {L : List Int} (h : TabUp b0 w TB L) (hB : B < b0) (hR : R < b0) (hv : ∀ g, v.ownBlock = some g → g < b0) (hT : b0 ≤ TB) : Kept w B R v TB L :=
  ⟨fun w' hf => h w' hf.size (fun k hk hlt => hf.block k hlt (by omega) (by omega) (fun e => by have := hv k e.symm; omega)), by omega⟩
theorem TabUp.on {b0 b1 : Nat} {w w' : World} {TB : Nat} {L : List Int} (h : TabUp b0 w TB L) (hb : Below w.heap.size w w') (h01 : b1 ≤ b0) : TabUp b1 w' TB L := fun w'' hs hk =>
  h w'' (Nat.le_trans hb.size hs) (fun k hk0 hlt => (hk k (by omega) (Nat.lt_of_lt_of_le hlt hb.size)).trans (hb.block k hlt))
theorem TabUp.on' {b0 b1 : Nat} {w w' : World} {TB : Nat} {L : List Int} (h : TabUp b0 w TB L) (hs : w.heap.size ≤ w'.heap.size) (hk : ∀ k, b0 ≤ k → k < w.heap.size → w'.heap[k]? = w.heap[k]?) (h01 : b1 ≤ b0) : TabUp b1 w' TB L := fun w'' hs2 hk2 =>
  h w'' (Nat.le_trans hs hs2) (fun k hk0 hlt => (hk2 k (by omega) (Nat.lt_of_lt_of_le hlt hs)).trans (hk k hk0 hlt))
theorem Fr.below {w w' : World} {B R : Nat} {v : Value} (h : Below w.heap.size w w') : Fr w w' B R v := ⟨h.os, h.tape, h.output, h.size, fun k hk _ _ _ => h.block k hk⟩

section
variable {w : World} {B R base : Nat} {ra : Option Addr} {n c : Nat} {xs : List Nat} {p : Nat} {v : Value} {o : List Nat} {most : Nat} {fl fd : Option Addr}
theorem InAt.below {w' : World} (h : InAt w B R base ra n c xs p v o most fl fd) (hb : Below w.heap.size w w') : InAt w' B R base ra n c xs p v o most fl fd :=
  ⟨h.ib.other (hb.block B h.ib.lt), ⟨(hb.block R h.rd.lt).trans h.rd.blk, h.rd.src.kept hb, h.rd.apart, h.rd.le⟩, own_below h.own hb, h.byte, h.lim, h.most, Nat.le_trans h.low hb.size, h.hB, h.hR, h.ne, h.src⟩
theorem InAt.vlt (h : InAt w B R base ra n c xs p v o most fl fd) : ∀ g, v.ownBlock = some g → g < w.heap.size := fun g hg => (h.own.lt g hg).2
theorem InAt.pl (h : InAt w B R base ra n c xs p v o most fl fd) : p ≤ 8 * xs.length := by have := h.rd.le; have := h.rd.src.len; omega
end

section
variable {xs : List Nat} {most p : Nat} {o : List Nat} {L D : List Int} {f : Nat}
theorem sym_1 (hp : p ≤ 8 * xs.length) (he : (rn L xs p).2.1 ≠ 0) : run xs most (symR L D (f + 1)) p o = .error (rn L xs p).2.1 := by
  rw [symR, run_bind, run_next _ _ _ _ _ hp, if_neg he]
/-- what comes behind one letter -/
def SymThen (xs : List Nat) (most : Nat) (L D : List Int) (f : Nat) (r : Except Nat (Unit × Nat × List Nat)) : Except Nat (Unit × Nat × List Nat) := match r with | .error e => .error e | .ok (_, q, o) => run xs most (symR L D f) q o
theorem sym_2 (hp : p ≤ 8 * xs.length) (he : (rn L xs p).2.1 = 0) (hs : (rn L xs p).1 = 256) : run xs most (symR L D (f + 1)) p o = .ok ((), p + (rn L xs p).2.2, o) := by
  rw [symR, run_bind, run_next _ _ _ _ _ hp, if_pos he]
  show run xs most (if _ then _ else _) _ o = _
  rw [if_pos hs]; rfl
theorem sym_3 (hp : p ≤ 8 * xs.length) (he : (rn L xs p).2.1 = 0) (hs : (rn L xs p).1 < 256) : run xs most (symR L D (f + 1)) p o = SymThen xs most L D f (run xs most (.put (rn L xs p).1.toNat (.ret ())) (p + (rn L xs p).2.2) o) := by
  rw [symR, run_bind, run_next _ _ _ _ _ hp, if_pos he]
  show run xs most (if _ then _ else _) _ o = _
  rw [if_neg (by omega), if_pos hs, run, run]
  by_cases hm : most < o.length + 1
  · rw [if_pos hm, if_pos hm]; rfl
  · rw [if_neg hm, if_neg hm]; rfl
theorem sym_4 (hp : p ≤ 8 * xs.length) (he : (rn L xs p).2.1 = 0) (hs : 286 ≤ (rn L xs p).1) : run xs most (symR L D (f + 1)) p o = .error 4 := by
  rw [symR, run_bind, run_next _ _ _ _ _ hp, if_pos he]
  show run xs most (if _ then _ else _) _ o = _
  rw [if_neg (by omega), if_neg (by omega), if_pos hs]; rfl
theorem sym_5 (hp : p ≤ 8 * xs.length) (he : (rn L xs p).2.1 = 0) (h1 : 256 < (rn L xs p).1) (h2 : (rn L xs p).1 < 286) : run xs most (symR L D (f + 1)) p o = SymThen xs most L D f (run xs most (repR ((rn L xs p).1 - 257).toNat D) (p + (rn L xs p).2.2) o) := by
  rw [symR, run_bind, run_next _ _ _ _ _ hp, if_pos he]
  show run xs most (if _ then _ else _) _ o = _
  rw [if_neg (by omega), if_neg (by omega), if_neg (by omega), run_bind]
  unfold SymThen
  cases run xs most (repR ((rn L xs p).1 - 257).toNat D) (p + (rn L xs p).2.2) o <;> rfl
end

/-- the loop over letters -/
structure Sy (xs : List Nat) (most : Nat) (L D : List Int) (f0 p0 : Nat) (o0 : List Nat) (f p : Nat) (o : List Nat) : Prop where
  run : run xs most (symR L D f0) p0 o0 = run xs most (symR L D f) p o
  fuel : 8 * xs.length < p + f
end Go.Proofs.YtnfdojdppifmoaaDoor
