/- A slice of slices of bytes that came in, as a walk is told of it. -/
import Derived.Test.YtjafagfhkpaciaaOwn
import Derived.ProofKit
import Derived.Deep.Slices
import Derived.Deep.Matrix
namespace Go.Proofs.Ytjafagfhkpaciaa
open Go.RowKit Go.Deep
set_option linter.unusedVariables false

structure RowsAt (w : World) (a : Option Addr) (n c : Nat) (A : Nat → Option Addr) (L C : Nat → Nat) (X : Nat → List Nat) : Prop where
  cap : n ≤ c
  capm : c ≤ 9223372036854775807
  nl : a = none → c = 0
  cells : 0 < n → ∃ b off, a = some ⟨b, off, none⟩ ∧ b < w.heap.size ∧ ∀ i, i < n → w.cell? ⟨b, off + i, none⟩ = some (.slice (A i) (L i) (C i)) ∧ L i ≤ C i ∧ C i ≤ 9223372036854775807 ∧ (L i ≤ 140737488351232 → BytesAt w (A i) (L i) (C i) (X i))

theorem rows_one : Try.prog.cellsOf 27 = 1 := by kernel_rfl
theorem rows_byte : Try.prog.cellsOf 5 = 1 := by kernel_rfl

theorem bytes_of_cells {W : World} {A : Option Addr} {L C : Nat} {Z : List Int} (g2 : L ≤ C) (g3 : C ≤ maxLen) (g4 : Z.length = C) (g5 : ∀ n ∈ Z, (Lit.int .u8 n).wf = true) (g6 : A = none → C = 0)
    (g7 : ∀ a', A = some a' → ∀ c, c < C → W.cell? (a'.add c) = some (.int .u8 (Z.getD c 0))) (hreach : L ≤ 140737488351232) : BytesAt W A L C ((Z.take L).map Int.toNat) := by
  have hm : C ≤ 9223372036854775807 := by unfold maxLen at g3; exact g3
  refine ⟨by simp; omega, g2, ?_, hreach, hm, g6, fun hp => ?_⟩
  · intro y hy
    simp only [List.mem_map] at hy
    obtain ⟨z, hzm, rfl⟩ := hy
    have := byte_of_wf (g5 z (List.mem_of_mem_take hzm))
    omega
  · rcases A with _ | ad
    · have := g6 rfl; omega
    · obtain ⟨b, off, spot⟩ := ad
      have hc := g7 _ rfl 0 (by omega)
      have hspot : spot = none := by simpa [Addr.add] using World.cell?_spot hc
      subst hspot
      refine ⟨b, off, rfl, ?_, fun j hj => ?_⟩
      · have := World.block_lt_of_cell? W _ hc
        simpa [Addr.add] using this
      · have h1 := g7 _ rfl j (by omega)
        have h4 : (⟨b, off, none⟩ : Addr).add j = ⟨b, off + j, none⟩ := by unfold Addr.add; split <;> simp_all
        rw [h4] at h1
        rw [h1]
        have h2 : j < Z.length := by omega
        have h3 := byte_of_wf (g5 Z[j] (List.getElem_mem h2))
        have e1 : Z.getD j 0 = Z[j] := by simp [h2]
        have e2 : (((Z.take L).map Int.toNat).getD j 0 : Nat) = Z[j].toNat := by simp [h2, hj]
        rw [e1, e2]
        congr 2
        omega

theorem open_rows {H : Type} {enc : TypeId × Value → H} {W : World} {fuel : Nat} {a : Option Addr} {len cap : Nat} {x : DataW H × List MemPlace}
    (hf : DataW.trod enc Try.prog W 0 (fun _ => true) true fuel 42 [.slice a len cap] = some x) : ∃ (z : (Nat → Option Addr) × (Nat → Nat) × (Nat → Nat) × (Nat → List Nat)), RowsAt W a len cap z.1 z.2.1 z.2.2.1 z.2.2.2 := by
  rcases open_int_rows Try.underlying42 Try.underlying27 Try.underlying5 rows_one rows_byte hf with ⟨hcs, _⟩ | ⟨x0, l, c, A, L, C, Z, hcs, _, hl, hm, _, hr⟩
  · simp at hcs
    obtain ⟨rfl, rfl, rfl⟩ := hcs
    exact ⟨(fun _ => none, fun _ => 0, fun _ => 0, fun _ => []), Nat.le_refl _, by omega, fun _ => rfl, fun h => absurd h (Nat.lt_irrefl 0)⟩
  · simp at hcs
    obtain ⟨rfl, rfl, rfl⟩ := hcs
    refine ⟨(A, L, C, fun i => ((Z i).take (L i)).map Int.toNat), hl, by unfold maxLen at hm; exact hm, (fun e => by cases e), fun hp => ?_⟩
    obtain ⟨b, off, spot⟩ := x0
    have hc := (hr 0 (by omega)).1
    have hspot : spot = none := by simpa [Addr.add] using World.cell?_spot hc
    subst hspot
    have h4 : ∀ (b off j : Nat), (⟨b, off, none⟩ : Addr).add j = ⟨b, off + j, none⟩ := by intro b off j; unfold Addr.add; split <;> simp_all
    refine ⟨b, off, rfl, ?_, fun i hi => ?_⟩
    · have := World.block_lt_of_cell? W _ hc
      simpa [Addr.add] using this
    · obtain ⟨g1, g2, g3, g4, g5, g6, g7⟩ := hr i (by omega)
      rw [h4] at g1
      exact ⟨g1, g2, by unfold maxLen at g3; exact g3, fun hreach => bytes_of_cells g2 g3 g4 g5 g6 (fun a' ha' => (g7 a' ha').2) hreach⟩

/-- what a call owns, and another block of another type -/
theorem own_ne {w : World} {base : Nat} {e t : TypeId} {size : Nat} {v : Value} {n D : Nat} {xs : List Value} {cs : Array Value} {fr : Nat × Nat} (h : w.ownsRow base e size v n xs) (hD : w.heap[D]? = some (.cells cs t fr)) (hne : t ≠ e) : v.ownBlock ≠ some D := by
  rcases h.2 with ⟨rfl, _⟩ | ⟨g, cap, cur, rfl, _, hg, _⟩
  · simp [Value.ownBlock]
  · intro e1
    simp [Value.ownBlock] at e1
    subst e1
    rw [hg] at hD
    simp at hD
    exact hne hD.2.1.symm
end Go.Proofs.Ytjafagfhkpaciaa
