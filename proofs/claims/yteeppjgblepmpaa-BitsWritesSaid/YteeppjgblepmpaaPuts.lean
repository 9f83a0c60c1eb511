/- A slice of Put that came in, as a walk is told of it. -/
import Derived.Test.YteeppjgblepmpaaTwin
import Derived.ProofKit
import Derived.Deep.Slices
import Derived.Deep.SlicePairs
namespace Go.Proofs.Yteeppjgblepmpaa
open Go.RowKit Go.Deep
set_option linter.unusedVariables false

/-- one thing that is written: number, count, is it a code, is it the end of a byte -/
structure PutV where
  v : Nat
  n : Int
  code : Bool
  align : Bool

instance : Inhabited PutV := ⟨⟨0, 0, false, false⟩⟩

structure PutsAt (w : World) (a : Option Addr) (n c : Nat) (ps : Nat → PutV) : Prop where
  cap : n ≤ c
  capm : c ≤ 9223372036854775807
  nl : a = none → c = 0
  cells : 0 < n → ∃ b off, a = some ⟨b, off, none⟩ ∧ b < w.heap.size ∧ ∀ i, i < n → w.cell? ⟨b, off + i * 4, none⟩ = some (.int .u32 ((ps i).v : Int)) ∧ w.cell? ⟨b, off + i * 4 + 1, none⟩ = some (.int .i64 (ps i).n) ∧
    w.cell? ⟨b, off + i * 4 + 2, none⟩ = some (.bool (ps i).code) ∧ w.cell? ⟨b, off + i * 4 + 3, none⟩ = some (.bool (ps i).align) ∧ (ps i).v < 4294967296 ∧ (Lit.int .i64 (ps i).n).wf = true

theorem puts_cells : Try.prog.cellsOf 43 = 4 := by kernel_rfl
theorem cells_u32 : Try.prog.cellsOf 32 = 1 := by kernel_rfl
theorem cells_int : Try.prog.cellsOf 3 = 1 := by kernel_rfl
theorem cells_bool : Try.prog.cellsOf 4 = 1 := by kernel_rfl

theorem open_puts {H : Type} {enc : TypeId × Value → H} {W : World} {fuel : Nat} {a : Option Addr} {len cap : Nat} {x : DataW H × List MemPlace}
    (hf : DataW.trod enc Try.prog W 0 (fun _ => true) true fuel 38 [.slice a len cap] = some x) : ∃ ps, PutsAt W a len cap ps := by
  rcases open_slice Try.underlying38 hf with ⟨hcs, _⟩ | ⟨b, l, c, m, n, D, Pl, hcs, _, hl, hm, hmm, _, hx⟩
  · simp at hcs
    obtain ⟨rfl, rfl, rfl⟩ := hcs
    exact ⟨fun _ => ⟨0, 0, false, false⟩, Nat.le_refl _, by omega, fun _ => rfl, fun h => absurd h (Nat.lt_irrefl 0)⟩
  · simp at hcs
    obtain ⟨rfl, rfl, rfl⟩ := hcs
    have each : ∀ i, i < len → ∃ q : PutV, W.cell? (b.add (i * 4)) = some (.int .u32 (q.v : Int)) ∧ W.cell? (b.add (i * 4 + 1)) = some (.int .i64 q.n) ∧
        W.cell? (b.add (i * 4 + 2)) = some (.bool q.code) ∧ W.cell? (b.add (i * 4 + 3)) = some (.bool q.align) ∧ q.v < 4294967296 ∧ (Lit.int .i64 q.n).wf = true := by
      intro i hi
      obtain ⟨cs', h1, h2⟩ := hx i (by simp at hmm; omega)
      rw [puts_cells] at h1
      obtain ⟨_, hlen, hcell⟩ := World.cells?_some h1
      obtain ⟨ys, k, _, _, _, hyl, hfs⟩ := DataW.trod_struct Try.underlying43 h2
      match cs', hlen with
      | [c0, c1, c2, c3], _ =>
        have g0 : DataW.trod enc Try.prog W 0 (fun _ => true) true k 32 (([c0, c1, c2, c3].drop 0).take (Try.prog.cellsOf 32)) = ys[0]? := hfs 0 _ rfl
        have g1 : DataW.trod enc Try.prog W 0 (fun _ => true) true k 3 (([c0, c1, c2, c3].drop 1).take (Try.prog.cellsOf 3)) = ys[1]? := hfs 1 _ rfl
        have g2 : DataW.trod enc Try.prog W 0 (fun _ => true) true k 4 (([c0, c1, c2, c3].drop 2).take (Try.prog.cellsOf 4)) = ys[2]? := hfs 2 _ rfl
        have g3 : DataW.trod enc Try.prog W 0 (fun _ => true) true k 4 (([c0, c1, c2, c3].drop 3).take (Try.prog.cellsOf 4)) = ys[3]? := hfs 3 _ rfl
        simp only [cells_u32, cells_int, cells_bool, List.drop_zero, List.drop_succ_cons, List.take_succ_cons, List.take_zero] at g0 g1 g2 g3
        have hyl4 : ys.length = 4 := hyl
        match ys, hyl4 with
        | [y0, y1, y2, y3], _ =>
          obtain ⟨v0, e0, _, w0⟩ := DataW.trod_int Try.underlying32 g0
          obtain ⟨v1, e1, _, w1⟩ := DataW.trod_int Try.underlying3 g1
          obtain ⟨v2, e2, _⟩ := DataW.trod_bool Try.underlying4 g2
          obtain ⟨v3, e3, _⟩ := DataW.trod_bool Try.underlying4 g3
          simp at e0 e1 e2 e3
          subst e0 e1 e2 e3
          obtain ⟨v, rfl, hv⟩ := u32_of_wf' w0
          have q0 := hcell 0 (by omega)
          have q1 := hcell 1 (by omega)
          have q2 := hcell 2 (by omega)
          have q3 := hcell 3 (by omega)
          rw [add_add] at q0 q1 q2 q3
          exact ⟨⟨v, v1, v2, v3⟩, by simpa using q0, by simpa using q1, by simpa using q2, by simpa using q3, hv, w1⟩
    obtain ⟨q, hq⟩ := choose_lt each
    refine ⟨q, hl, by unfold maxLen at hm; exact hm, (fun e => by cases e), fun hp => ?_⟩
    obtain ⟨b, off, spot⟩ := b
    have hc := (hq 0 hp).1
    have hspot : spot = none := by simpa [Addr.add] using World.cell?_spot hc
    subst hspot
    refine ⟨b, off, rfl, ?_, fun i hi => ?_⟩
    · have := World.block_lt_of_cell? W _ hc
      simpa [Addr.add] using this
    · have h4 : ∀ j, (⟨b, off, none⟩ : Addr).add j = ⟨b, off + j, none⟩ := by intro j; unfold Addr.add; split <;> simp_all
      obtain ⟨q0, q1, q2, q3, q4, q5⟩ := hq i hi
      simp only [h4, ← Nat.add_assoc] at q0 q1 q2 q3
      exact ⟨q0, q1, q2, q3, q4, q5⟩
end Go.Proofs.Yteeppjgblepmpaa
