/- A slice of slices of bytes that came in: any beginning of a part that is within reach. -/
import Derived.Test.YtjafagfhkpaciaaParts
namespace Go.Proofs.Ytjafagfhkpaciaa
open Go.RowKit Go.Deep
set_option linter.unusedVariables false

structure RowsAt2 (w : World) (a : Option Addr) (n c : Nat) (A : Nat → Option Addr) (L C : Nat → Nat) (X : Nat → List Nat) : Prop where
  cap : n ≤ c
  capm : c ≤ 9223372036854775807
  nl : a = none → c = 0
  cells : 0 < n → ∃ b off, a = some ⟨b, off, none⟩ ∧ b < w.heap.size ∧ ∀ i, i < n → w.cell? ⟨b, off + i, none⟩ = some (.slice (A i) (L i) (C i)) ∧ L i ≤ C i ∧ C i ≤ 9223372036854775807 ∧ (X i).length = L i ∧ (∀ m, m ≤ L i → m ≤ 140737488351232 → BytesAt w (A i) m (C i) ((X i).take m))

theorem open_rows2 {H : Type} {enc : TypeId × Value → H} {W : World} {fuel : Nat} {a : Option Addr} {len cap : Nat} {x : DataW H × List MemPlace}
    (hf : DataW.trod enc Try.prog W 0 (fun _ => true) true fuel 42 [.slice a len cap] = some x) : ∃ (z : (Nat → Option Addr) × (Nat → Nat) × (Nat → Nat) × (Nat → List Nat)), RowsAt2 W a len cap z.1 z.2.1 z.2.2.1 z.2.2.2 := by
  rcases open_int_rows Try.underlying42 Try.underlying27 Try.underlying5 rows_one rows_byte hf with ⟨hcs, _⟩ | ⟨x0, l, c, A, L, C, Z, hcs, _, hl, hm, _, hr⟩
  · simp at hcs
    obtain ⟨rfl, rfl, rfl⟩ := hcs
    exact ⟨(fun _ => none, fun _ => 0, fun _ => 0, fun _ => []), Nat.le_refl _, by omega, fun _ => rfl, fun h => absurd h (Nat.lt_irrefl 0)⟩
  · simp at hcs
    obtain ⟨rfl, rfl, rfl⟩ := hcs
    refine ⟨(A, L, C, fun i => ((Z i).take (L i)).map Int.toNat), hl, by unfold maxLen at hm; exact hm, (fun e => by cases e), fun hp => ?_⟩
    obtain ⟨b, off, spot⟩ := x0
    have hc := (hr 0 (by omega)).1
    have hspot : spot = none := by simpa [Addr.add] using World.cell?_spot hc
    subst hspot
    have h4 : ∀ (b off j : Nat), (⟨b, off, none⟩ : Addr).add j = ⟨b, off + j, none⟩ := by intro b off j; unfold Addr.add; split <;> simp_all
    refine ⟨b, off, rfl, ?_, fun i hi => ?_⟩
    · have := World.block_lt_of_cell? W _ hc
      simpa [Addr.add] using this
    · obtain ⟨g1, g2, g3, g4, g5, g6, g7⟩ := hr i (by omega)
      rw [h4] at g1
      refine ⟨g1, g2, by unfold maxLen at g3; exact g3, by simp; omega, fun m hm hreach => ?_⟩
      have hm' : m ≤ L i := hm
      show BytesAt W (A i) m (C i) ((((Z i).take (L i)).map Int.toNat).take m)
      have := bytes_of_cells (L := m) (by omega) g3 g4 g5 g6 (fun a' ha' => (g7 a' ha').2) hreach
      rw [show ((Z i).take (L i)).map Int.toNat = ((Z i).map Int.toNat).take (L i) from List.map_take, List.take_take, show min m (L i) = m from by omega, ← List.map_take]
      exact this
end Go.Proofs.Ytjafagfhkpaciaa
