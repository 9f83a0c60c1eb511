/- A slice of labels, as a walk is told of it. -/
import Derived.Test.YtjbljplgkbnpmaaLabNm
import Derived.Deep.Slices
import Derived.Deep.Fields
import Derived.ChangeSame
namespace Go.Proofs.Ytjbljplgkbnpmaa
open Go.RowKit LabPlain
set_option linter.unusedVariables false

structure LabsAt (w : World) (a : Option Addr) (n c : Nat) (l : List Lab) : Prop where
  len : l.length = n
  cap : n ≤ c
  capm : c ≤ 9223372036854775807
  nl : a = none → c = 0
  size : ∀ x ∈ l, x.1.size ≤ 140737488355328 ∧ x.2.size ≤ 140737488355328
  cells : 0 < n → ∃ b off, a = some ⟨b, off, none⟩ ∧ b < w.heap.size ∧ ∀ i, i < n → w.cell? ⟨b, off + i * 2, none⟩ = some (.string (l.getD i lab0).1) ∧ w.cell? ⟨b, off + i * 2 + 1, none⟩ = some (.string (l.getD i lab0).2)
theorem LabsAt.keep {w w' : World} {a : Option Addr} {n c : Nat} {l : List Lab} (h : LabsAt w a n c l) {B : Nat} (hb : Below B w w') (hB : w.heap.size ≤ B) : LabsAt w' a n c l :=
  ⟨h.len, h.cap, h.capm, h.nl, h.size, fun hn => by
    obtain ⟨b, off, ha, hlt, hc⟩ := h.cells hn
    exact ⟨b, off, ha, Nat.lt_of_lt_of_le hlt hb.size, fun i hi => ⟨(hb.cell (p := ⟨b, off + i * 2, none⟩) (Nat.lt_of_lt_of_le hlt hB)).trans (hc i hi).1, (hb.cell (p := ⟨b, off + i * 2 + 1, none⟩) (Nat.lt_of_lt_of_le hlt hB)).trans (hc i hi).2⟩⟩⟩
theorem LabsAt.kept {w w' : World} {a : Option Addr} {n c : Nat} {l : List Lab} (h : LabsAt w a n c l) (hb : Below w.heap.size w w') : LabsAt w' a n c l := h.keep hb (Nat.le_refl _)
theorem LabsAt.empty (w : World) (a : Option Addr) (c : Nat) (hc : c ≤ 9223372036854775807) (ha : a = none → c = 0) : LabsAt w a 0 c [] :=
  ⟨rfl, Nat.zero_le _, hc, ha, (fun x hx => by cases hx), fun h => absurd h (Nat.lt_irrefl 0)⟩
theorem lab_mem {l : List Lab} {i : Nat} (h : i < l.length) : l.getD i lab0 ∈ l := by
  have : l.getD i lab0 = l[i] := by simp [h]
  rw [this]; exact List.getElem_mem h
end Go.Proofs.Ytjbljplgkbnpmaa
