/- A heap that a call owns: what a Push or a Pop may turn. -/
import Derived.Test.YteihbbmbdkkbbaaHpAt
namespace Go.Proofs.Yteihbbmbdkkbbaa
open Go.ChangeShapes Go.WideShapes Go.Deep Go.RowKit Hp
set_option linter.unusedVariables false

/-- nothing that was there is turned, but the heap's cell and its things' block -/
structure HpKept (w w' : World) (p : Nat) (og : Option Nat) : Prop where
  os : w'.os = w.os
  tape : w'.tape = w.tape
  output : w'.output = w.output
  size : w.heap.size ≤ w'.heap.size
  block : ∀ k, k < w.heap.size → k ≠ p → some k ≠ og → w'.heap[k]? = w.heap[k]?
theorem HpKept.refl (w : World) (p : Nat) (og : Option Nat) : HpKept w w p og := ⟨rfl, rfl, rfl, Nat.le_refl _, fun _ _ _ _ => rfl⟩
/-- the next step may turn the heap, its block, and what is new -/
theorem HpKept.trans {a b c : World} {p : Nat} {o1 o2 : Option Nat} (h : HpKept a b p o1) (k : HpKept b c p o2) (h2 : ∀ g, o2 = some g → o1 = some g ∨ a.heap.size ≤ g) : HpKept a c p o1 :=
  ⟨k.os.trans h.os, k.tape.trans h.tape, k.output.trans h.output, Nat.le_trans h.size k.size, fun i hi hp ho => (k.block i (Nat.lt_of_lt_of_le hi h.size) hp (fun e => by
    rcases h2 i e.symm with g | g
    · exact ho g.symm
    · omega)).trans (h.block i hi hp ho)⟩
theorem HpKept.ofBelow {a b : World} (h : Below a.heap.size a b) (p : Nat) (og : Option Nat) : HpKept a b p og := ⟨h.os, h.tape, h.output, h.size, fun k hk _ _ => h.block k hk⟩
theorem HpKept.ofGrown {a b : World} {r : Option Nat} (h : a.grownBy b r) (p : Nat) : HpKept a b p r := ⟨h.os, h.tape, h.output, h.size, fun k hk _ hr => h.block k hk hr⟩
theorem HpKept.ofGrownP {a b : World} {p : Nat} (h : a.grownBy b (some p)) (r : Option Nat) : HpKept a b p r := ⟨h.os, h.tape, h.output, h.size, fun k hk hp _ => h.block k hk (by simpa using hp)⟩
theorem Below.hp {B : Nat} {w0 w w' : World} {p : Nat} {og : Option Nat} (h : Below B w0 w) (k : HpKept w w' p og) (hs : B ≤ w.heap.size) (hp : B ≤ p) (ho : ∀ g, og = some g → B ≤ g) : Below B w0 w' :=
  h.trans ⟨k.os, k.tape, k.output, k.size, fun i hi => k.block i (by omega) (by omega) (fun e => by have := ho i e.symm; omega)⟩
/-- the heap at p: nothing in it yet, or its things in block g -/
def HpO (w : World) (base p : Nat) (og : Option Nat) (n : Nat) (z : Nat → Int) : Prop :=
  base ≤ p ∧ ((og = none ∧ n = 0 ∧ w.heap[p]? = some (.cells #[.func (.func 10) #[] #[], .slice none 0 0] 64 (0, 0))) ∨ ∃ g c, og = some g ∧ base ≤ g ∧ c ≤ maxLen ∧ HpAt w p g c n z)
theorem HpO.lt {w : World} {base p n : Nat} {og : Option Nat} {z : Nat → Int} (h : HpO w base p og n z) : base ≤ p ∧ p < w.heap.size := by
  refine ⟨h.1, ?_⟩
  rcases h.2 with ⟨_, _, h1⟩ | ⟨g, c, _, _, _, h1⟩
  · exact (Array.getElem?_eq_some_iff.1 h1).1
  · exact (Array.getElem?_eq_some_iff.1 h1.hd).1
theorem HpO.glt {w : World} {base p n : Nat} {og : Option Nat} {z : Nat → Int} (h : HpO w base p og n z) : ∀ g, og = some g → base ≤ g ∧ g < w.heap.size ∧ g ≠ p := by
  intro g hg
  rcases h.2 with ⟨h0, _, h1⟩ | ⟨g', c, hg', hb, _, h1⟩
  · rw [h0] at hg; cases hg
  · rw [hg'] at hg
    cases hg
    obtain ⟨cur, h2, _⟩ := h1.bk
    exact ⟨hb, (Array.getElem?_eq_some_iff.1 h2).1, h1.ne⟩
theorem HpO.kept {w w' : World} {base p n : Nat} {og : Option Nat} {z : Nat → Int} (h : HpO w base p og n z) (hb : Below w.heap.size w w') : HpO w' base p og n z := by
  have hlt := h.lt.2
  refine ⟨h.1, ?_⟩
  rcases h.2 with ⟨h0, h1, h2⟩ | ⟨g, c, h0, h1, h2, h3⟩
  · exact .inl ⟨h0, h1, (hb.block p hlt).trans h2⟩
  · exact .inr ⟨g, c, h0, h1, h2, h3.kept hb⟩
/-- the slice that the heap holds -/
theorem HpO.own {w : World} {base p n : Nat} {og : Option Nat} {z : Nat → Int} (h : HpO w base p og n z) : ∃ s, w.heap[p]? = some (.cells #[.func (.func 10) #[] #[], s] 64 (0, 0)) ∧ w.ownsRow base 3 1 s n (iv ((List.range n).map z)) ∧ s.ownBlock = og ∧ (∃ a c, s = .slice a n c) := by
  rcases h.2 with ⟨h0, h1, h2⟩ | ⟨g, c, h0, h1, h2, h3⟩
  · subst h1
    exact ⟨_, h2, World.ownsRow_nil _ _ _ _, h0.symm, _, _, rfl⟩
  · obtain ⟨cur, hc, hs, hv⟩ := h3.bk
    have hnc := h3.nc
    refine ⟨_, h3.hd, ⟨by simp [iv], .inr ⟨g, c, cur, rfl, h1, hc, h3.nc, h2, by omega, ?_⟩⟩, by rw [h0]; rfl, _, _, rfl⟩
    refine List.ext_getElem? fun i => ?_
    rw [List.getElem?_take, Nat.mul_one]
    by_cases hi : i < n
    · rw [if_pos hi, Array.getElem?_toList, hv i hi]
      simp [iv, hi]
    · rw [if_neg hi, List.getElem?_eq_none (by simp [iv]; omega)]
/-- and back -/
theorem HpO.ofOwn {w : World} {base p n : Nat} {z : Nat → Int} {s : Value} (hp : base ≤ p) (h1 : w.heap[p]? = some (.cells #[.func (.func 10) #[] #[], s] 64 (0, 0))) (h2 : w.ownsRow base 3 1 s n (iv ((List.range n).map z))) : HpO w base p s.ownBlock n z := by
  refine ⟨hp, ?_⟩
  rcases h2.2 with ⟨rfl, h0⟩ | ⟨g, c, cur, rfl, hg, hh, hnc, hcm, hsz, htake⟩
  · exact .inl ⟨rfl, h0, h1⟩
  · refine .inr ⟨g, c, rfl, hg, hcm, h1, ⟨cur, hh, by omega, fun k hk => ?_⟩, hnc, fun e => ?_⟩
    · have := congrArg (fun l => l[k]?) htake
      simp only [List.getElem?_take, Nat.mul_one, if_pos hk, Array.getElem?_toList] at this
      rw [this]
      simp [iv, hk]
    · rw [e, h1] at hh
      have : 64 = 3 := by simpa using (Option.some.inj hh)
      exact absurd this (by decide)
end Go.Proofs.Yteihbbmbdkkbbaa
