/- What is turned and what stays: frames, cells of blocks; maps by texts. -/
import Derived.Test.YtpcohkhdbjimgaaGm
import Derived.BigRegion
import Derived.Below
import Derived.Laws.RangeAny
import Derived.Laws.Cover1
namespace Go.Proofs.Ytpcohkhdbjimgaa
open Go.RowKit
open Go.Maps (Keyed int_keyed string_keyed)
set_option linter.unusedVariables false

def slit (s : ByteArray) : Lit := .string s.data.toList
theorem keyS {s : ByteArray} (h : s.size ≤ maxLen) : keyOf Try.prog 9 (.string s) = some (slit s) := by
  have := Go.WideMaps.keyOf_string_mk (P := Try.prog) (k := 9) Try.underlying9 h
  exact this
theorem GM.drew {κ α : Type} {T : MTy} {lit : κ → Lit} {f : α → Value} {w : World} {M : Nat} {l : List (κ × α)} (h : GM T lit f w M l) : GM T lit f w.drew M l := h.same rfl
/-- nothing that was there is turned but these blocks -/
structure Frm (F : Nat → Prop) (w w' : World) : Prop where
  os : w'.os = w.os
  tape : w'.tape = w.tape
  output : w'.output = w.output
  size : w.heap.size ≤ w'.heap.size
  block : ∀ k, k < w.heap.size → ¬ F k → w'.heap[k]? = w.heap[k]?
theorem Frm.refl (F : Nat → Prop) (w : World) : Frm F w w := ⟨rfl, rfl, rfl, Nat.le_refl _, fun _ _ _ => rfl⟩
theorem Frm.below {F : Nat → Prop} {a b c : World} (h : Frm F a b) (k : Below b.heap.size b c) : Frm F a c :=
  ⟨k.os.trans h.os, k.tape.trans h.tape, k.output.trans h.output, Nat.le_trans h.size k.size, fun i hi hp => (k.block i (Nat.lt_of_lt_of_le hi h.size)).trans (h.block i hi hp)⟩
theorem Frm.trans {F F' : Nat → Prop} {a b c : World} (h : Frm F a b) (k : Frm F' b c) (hF : ∀ i, F' i → F i ∨ a.heap.size ≤ i) : Frm F a c :=
  ⟨k.os.trans h.os, k.tape.trans h.tape, k.output.trans h.output, Nat.le_trans h.size k.size, fun i hi hp => (k.block i (Nat.lt_of_lt_of_le hi h.size) (fun hf => by
    rcases hF i hf with g | g
    · exact hp g
    · omega)).trans (h.block i hi hp)⟩
theorem Frm.ofBelow {F : Nat → Prop} {a b : World} (k : Below a.heap.size a b) : Frm F a b := (Frm.refl F a).below k
theorem Frm.set {F : Nat → Prop} {a b : World} (h : Frm F a b) {p : Nat} (hp : F p ∨ a.heap.size ≤ p) (j : Nat) (u : Value) : Frm F a (b.setCell ⟨p, j, none⟩ u) :=
  ⟨h.os, h.tape, h.output, by simpa [World.setCell] using h.size, fun i hi hf => (Below.heap_setCell b ⟨p, j, none⟩ u i (fun e => by
    rcases hp with g | g
    · subst e; exact hf g
    · rw [e] at hi; simp only at hi; omega)).trans (h.block i hi hf)⟩
theorem Frm.turned {F : Nat → Prop} {a b c : World} (h : Frm F a b) {p : Nat} (hp : F p ∨ a.heap.size ≤ p) (k : b.mapTurned c p) : Frm F a c := by
  have g := k.grown
  exact ⟨g.os.trans h.os, g.tape.trans h.tape, g.output.trans h.output, Nat.le_trans h.size g.size, fun i hi hf => (g.block i (Nat.lt_of_lt_of_le hi h.size) (fun e => by
    simp at e; subst e
    rcases hp with g | g
    · exact hf g
    · omega)).trans (h.block i hi hf)⟩
theorem Frm.toBelow {F : Nat → Prop} {a b : World} {B : Nat} (h : Frm F a b) (hB : B ≤ a.heap.size) (hF : ∀ i, F i → B ≤ i) : Below B a b :=
  ⟨h.os, h.tape, h.output, h.size, fun i hi => h.block i (by omega) (fun hf => by have := hF i hf; omega)⟩
theorem Frm.imp {F G : Nat → Prop} {a b : World} (h : Frm F a b) (hi : ∀ i, F i → G i) : Frm G a b := ⟨h.os, h.tape, h.output, h.size, fun k hk hg => h.block k hk fun hf => hg (hi k hf)⟩
theorem Frm.drew {F : Nat → Prop} {a b : World} (h : Frm F a b) : Frm F a b.drew := ⟨h.os, h.tape, h.output, h.size, h.block⟩
theorem Frm.at {F : Nat → Prop} {a b : World} (h : Frm F a b) {k : Nat} {o : Obj} (hk : a.heap[k]? = some o) (hf : ¬ F k) : b.heap[k]? = some o := (h.block k (Array.getElem?_eq_some_iff.1 hk).1 hf).trans hk
theorem gm_obj {κ α : Type} {T : MTy} {lit : κ → Lit} {f : α → Value} {w : World} {M : Nat} {l : List (κ × α)} (h : GM T lit f w M l) : ∃ es c, w.heap[M]? = some (.map es c) := by
  obtain ⟨es, c, hb, _⟩ := h
  exact ⟨es, c, hb⟩
theorem cell_blk2 {w : World} {b : Nat} {cs : Array Value} {t : TypeId} (g : w.heap[b]? = some (.cells cs t (0, 0))) {i : Nat} {u : Value} (h : cs[i]? = some u) : w.cell? ⟨b, i, none⟩ = some u := by
  rw [cell_of_row w b i _ _ (0, 0) g]; exact h
theorem fro_blk2 {w : World} {b : Nat} {cs : Array Value} {t : TypeId} (g : w.heap[b]? = some (.cells cs t (0, 0))) (i : Nat) : w.frozen? ⟨b, i, none⟩ = false := by
  unfold World.frozen?
  simp [g]
theorem heap_new (w : World) (o : Obj) : (w.alloc o).heap[w.heap.size]? = some o := (MapKept.heap_alloc w o).1
end Go.Proofs.Ytpcohkhdbjimgaa
