/- A slice of acts (two integers each) that came in, opened to cells. -/
import Derived.Test.YteihbbmbdkkbbaaHpInts
import Derived.Deep.Slices
import Derived.Deep.Fields
import Derived.OpenShut
namespace Go.Proofs.Yteihbbmbdkkbbaa
open Go.ChangeShapes Go.WideShapes Go.Deep Go.RowKit
set_option linter.unusedVariables false

structure ActsAt (w : World) (a : Option Addr) (n c : Nat) (l : List (Bool × Int)) : Prop where
  len : l.length = n
  cap : n ≤ c
  capm : c ≤ 9223372036854775807
  cells : 0 < n → ∃ b off, a = some ⟨b, off, none⟩ ∧ b < w.heap.size ∧ ∀ i, i < n → w.cell? ⟨b, off + i * 2, none⟩ = some (.bool (l.getD i (false, 0)).1) ∧ w.cell? ⟨b, off + i * 2 + 1, none⟩ = some (.int .i64 (l.getD i (false, 0)).2)
theorem ActsAt.kept {w w' : World} {a : Option Addr} {n c : Nat} {l : List (Bool × Int)} (h : ActsAt w a n c l) (hb : Below w.heap.size w w') : ActsAt w' a n c l :=
  ⟨h.len, h.cap, h.capm, fun hn => by
    obtain ⟨b, off, ha, hlt, hc⟩ := h.cells hn
    exact ⟨b, off, ha, Nat.lt_of_lt_of_le hlt hb.size, fun i hi => ⟨(hb.cell (p := ⟨b, off + i * 2, none⟩) hlt).trans (hc i hi).1, (hb.cell (p := ⟨b, off + i * 2 + 1, none⟩) hlt).trans (hc i hi).2⟩⟩⟩
theorem add_none (b off j : Nat) : (⟨b, off, none⟩ : Addr).add j = ⟨b, off + j, none⟩ := by unfold Addr.add; split <;> simp_all
theorem act_fields {H : Type} {enc : TypeId × Value → H} {W : World} {fuel : Nat} {sp : Nat → Bool} {held : Bool} {cs : List Value} {y : DataW H × List MemPlace} (h : DataW.trod enc Try.prog W 0 sp held fuel 29 cs = some y) :
    ∃ (s0 : Bool) (s1 : Int), cs = [.bool s0, .int .i64 s1] := by
  obtain ⟨xs, n, _, hy, hcl, hxl, hfld⟩ := DataW.trod_struct Try.underlying29 h
  rw [show Try.prog.cellsOf 29 = 2 from by kernel_rfl] at hcl
  have hxl2 : xs.length = 2 := hxl
  match cs, xs, hcl, hxl2 with
  | [v0, v1], [p0, p1], _, _ =>
    have t0 : DataW.trod enc Try.prog W 0 sp held n 4 (List.take (Try.prog.cellsOf 4) (List.drop 0 [v0, v1])) = [p0, p1][0]? := hfld 0 _ rfl
    rw [show Try.prog.cellsOf 4 = 1 from by kernel_rfl] at t0
    obtain ⟨s0, hs0, _⟩ := DataW.trod_bool Try.underlying4 (show DataW.trod enc Try.prog W 0 sp held n 4 [v0] = some p0 from by simpa using t0)
    have e0 : v0 = .bool s0 := by simpa using hs0
    have t1 : DataW.trod enc Try.prog W 0 sp held n 3 (List.take (Try.prog.cellsOf 3) (List.drop 1 [v0, v1])) = [p0, p1][1]? := hfld 1 _ rfl
    rw [show Try.prog.cellsOf 3 = 1 from by kernel_rfl] at t1
    obtain ⟨s1, hs1, hx1, _⟩ := DataW.trod_int Try.underlying3 (show DataW.trod enc Try.prog W 0 sp held n 3 [v1] = some p1 from by simpa using t1)
    have e1 : v1 = .int .i64 s1 := by simpa using hs1
    subst e0 e1
    exact ⟨s0, s1, rfl⟩
theorem open_acts {H : Type} {enc : TypeId × Value → H} {W : World} {fuel : Nat} {a : Option Addr} {len cap : Nat} {x : DataW H × List MemPlace}
    (hf : DataW.trod enc Try.prog W 0 (fun _ => true) true fuel 22 [.slice a len cap] = some x) : ∃ z : List (Bool × Int), ActsAt W a len cap z := by
  rcases open_slice Try.underlying22 hf with ⟨hcs, _⟩ | ⟨x0, l, c, m, n, D, Pl, hcs, _, hl, hm, hmm, hx, hi⟩
  · simp at hcs
    obtain ⟨rfl, rfl, rfl⟩ := hcs
    exact ⟨[], rfl, by omega, by omega, fun h => absurd h (Nat.lt_irrefl 0)⟩
  · simp at hcs
    obtain ⟨rfl, rfl, rfl⟩ := hcs
    rw [show Try.prog.cellsOf 29 = 2 from by kernel_rfl] at hi
    have hm2 : m = cap := by rw [hmm]; simp
    have hone : ∀ i : Nat, ∃ p : Bool × Int, i < len → W.cell? (x0.add (i * 2)) = some (.bool p.1) ∧ W.cell? (x0.add (i * 2 + 1)) = some (.int .i64 p.2) := by
      intro i
      by_cases hil : i < len
      · obtain ⟨cs, hcc, ht⟩ := hi i (by omega)
        obtain ⟨s0, s1, rfl⟩ := act_fields ht
        obtain ⟨_, _, hat⟩ := World.cells?_some hcc
        have hc0 : W.cell? (x0.add (i * 2)) = some (.bool s0) := by
          have := hat 0 (by omega)
          rw [add_add] at this
          simpa using this
        have hc1 : W.cell? (x0.add (i * 2 + 1)) = some (.int .i64 s1) := by
          have := hat 1 (by omega)
          rw [add_add] at this
          simpa using this
        exact ⟨(s0, s1), fun _ => ⟨hc0, hc1⟩⟩
      · exact ⟨(false, 0), fun h => absurd h hil⟩
    obtain ⟨f, hF⟩ := Classical.skolem.1 hone
    have hget : ∀ i, i < len → ((List.range len).map f).getD i (false, 0) = f i := fun i h => by simp [h]
    refine ⟨(List.range len).map f, by simp, hl, by unfold maxLen at hm; exact hm, fun hp => ?_⟩
    obtain ⟨b, off, spot⟩ := x0
    have hc := (hF 0 hp).1
    have hspot : spot = none := by simpa [Addr.add] using World.cell?_spot hc
    subst hspot
    refine ⟨b, off, rfl, ?_, fun i hi' => ?_⟩
    · have := World.block_lt_of_cell? W _ hc
      simpa [Addr.add] using this
    · have h0 := (hF i hi').1
      have h1 := (hF i hi').2
      rw [add_none] at h0 h1
      rw [hget i hi']
      exact ⟨h0, h1⟩
end Go.Proofs.Yteihbbmbdkkbbaa
