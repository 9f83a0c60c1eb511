/- A slice of Read that came in, as a walk is told of it. -/
import Derived.Test.YtbpimhklekcaiaaNumsPutsWalk
import Derived.ProofKit
import Derived.Deep.Slices
import Derived.Deep.SlicePairs
namespace Go.Proofs.Ytbpimhklekcaiaa
open Go.RowKit Go.Deep
set_option linter.unusedVariables false

structure ReadsAt (w : World) (a : Option Addr) (n c : Nat) (ps : Nat → Int × Int) : Prop where
  cap : n ≤ c
  capm : c ≤ 9223372036854775807
  nl : a = none → c = 0
  cells : 0 < n → ∃ b off, a = some ⟨b, off, none⟩ ∧ b < w.heap.size ∧ ∀ i, i < n → w.cell? ⟨b, off + i * 2, none⟩ = some (.int .i64 (ps i).1) ∧ w.cell? ⟨b, off + i * 2 + 1, none⟩ = some (.int .i64 (ps i).2) ∧ (Lit.int .i64 (ps i).2).wf = true

theorem reads_cells : Try.prog.cellsOf 46 = 2 := by kernel_rfl
theorem cells_int : Try.prog.cellsOf 3 = 1 := by kernel_rfl

theorem open_reads {H : Type} {enc : TypeId × Value → H} {W : World} {fuel : Nat} {a : Option Addr} {len cap : Nat} {x : DataW H × List MemPlace}
    (hf : DataW.trod enc Try.prog W 0 (fun _ => true) true fuel 39 [.slice a len cap] = some x) : ∃ ps, ReadsAt W a len cap ps := by
  rcases open_slice Try.underlying39 hf with ⟨hcs, _⟩ | ⟨b, l, c, m, n, D, Pl, hcs, _, hl, hm, hmm, _, hx⟩
  · simp at hcs
    obtain ⟨rfl, rfl, rfl⟩ := hcs
    exact ⟨fun _ => (0, 0), Nat.le_refl _, by omega, fun _ => rfl, fun h => absurd h (Nat.lt_irrefl 0)⟩
  · simp at hcs
    obtain ⟨rfl, rfl, rfl⟩ := hcs
    have each : ∀ i, i < len → ∃ q : Int × Int, W.cell? (b.add (i * 2)) = some (.int .i64 q.1) ∧ W.cell? (b.add (i * 2 + 1)) = some (.int .i64 q.2) ∧ (Lit.int .i64 q.2).wf = true := by
      intro i hi
      obtain ⟨cs', h1, h2⟩ := hx i (by simp at hmm; omega)
      rw [reads_cells] at h1
      obtain ⟨_, hlen, hcell⟩ := World.cells?_some h1
      obtain ⟨ys, k, _, _, _, hyl, hfs⟩ := DataW.trod_struct Try.underlying46 h2
      match cs', hlen with
      | [c0, c1], _ =>
        have g0 : DataW.trod enc Try.prog W 0 (fun _ => true) true k 3 (([c0, c1].drop 0).take (Try.prog.cellsOf 3)) = ys[0]? := hfs 0 _ rfl
        have g1 : DataW.trod enc Try.prog W 0 (fun _ => true) true k 3 (([c0, c1].drop 1).take (Try.prog.cellsOf 3)) = ys[1]? := hfs 1 _ rfl
        simp only [cells_int, List.drop_zero, List.drop_succ_cons, List.take_succ_cons, List.take_zero] at g0 g1
        have hyl2 : ys.length = 2 := hyl
        match ys, hyl2 with
        | [y0, y1], _ =>
          obtain ⟨v0, e0, _, w0⟩ := DataW.trod_int Try.underlying3 g0
          obtain ⟨v1, e1, _, w1⟩ := DataW.trod_int Try.underlying3 g1
          simp at e0 e1
          subst e0 e1
          have q0 := hcell 0 (by omega)
          have q1 := hcell 1 (by omega)
          rw [add_add] at q0 q1
          exact ⟨(v0, v1), by simpa using q0, by simpa using q1, w1⟩
    obtain ⟨q, hq⟩ := choose_lt each
    refine ⟨q, hl, by unfold maxLen at hm; exact hm, (fun e => by cases e), fun hp => ?_⟩
    obtain ⟨b, off, spot⟩ := b
    have hc := (hq 0 hp).1
    have hspot : spot = none := by simpa [Addr.add] using World.cell?_spot hc
    subst hspot
    refine ⟨b, off, rfl, ?_, fun i hi => ?_⟩
    · have := World.block_lt_of_cell? W _ hc
      simpa [Addr.add] using this
    · have h4 : ∀ j, (⟨b, off, none⟩ : Addr).add j = ⟨b, off + j, none⟩ := by intro j; unfold Addr.add; split <;> simp_all
      obtain ⟨q0, q1, q2⟩ := hq i hi
      simp only [h4, ← Nat.add_assoc] at q0 q1
      exact ⟨q0, q1, q2⟩
end Go.Proofs.Ytbpimhklekcaiaa
