/- Slices of labels that came in, opened to cells; their texts' sizes out of the reach (LabOpen without the matchers: for the seats that have none). -/
import Derived.Test.YtjbljplgkbnpmaaLabAt
import Derived.Deep.Slices
import Derived.Deep.Fields
import Derived.SizedLaws
import Derived.Below
import Derived.OpenShut
namespace Go.Proofs.Ytjbljplgkbnpmaa
open Go.ChangeShapes Go.WideShapes Go.Deep Go.RowKit LabPlain
set_option linter.unusedVariables false

theorem weightsAll_mem {H : Type} {P : Program} {e : TypeId} {d : DataW H} {n : Nat} : ∀ {l : List (DataW H)}, d ∈ l → n ∈ DataW.weights P e d → n ∈ DataW.weightsAll P e l
  | [], h, _ => by cases h
  | x :: r, h, hn => by
    rw [DataW.weightsAll]
    rcases List.mem_cons.1 h with rfl | h
    · exact List.mem_append_left _ hn
    · exact List.mem_append_right _ (weightsAll_mem h hn)
theorem add_none (b off j : Nat) : (⟨b, off, none⟩ : Addr).add j = ⟨b, off + j, none⟩ := by unfold Addr.add; split <;> simp_all
set_option maxRecDepth 100000 in
theorem lab_fields {H : Type} {enc : TypeId × Value → H} {W : World} {fuel : Nat} {sp : Nat → Bool} {held : Bool} {cs : List Value} {y : DataW H × List MemPlace} (h : DataW.trod enc Try.prog W 0 sp held fuel 41 cs = some y) :
    ∃ (s0 : ByteArray) (s1 : ByteArray), cs = [.string s0, .string s1] ∧ y.1 = .agg [.lit (.string s0.data.toList), .lit (.string s1.data.toList)] := by
  obtain ⟨xs, n, _, hy, hcl, hxl, hfld⟩ := DataW.trod_struct Try.underlying41 h
  rw [show Try.prog.cellsOf 41 = 2 from by kernel_rfl] at hcl
  have hxl2 : xs.length = 2 := hxl
  match cs, xs, hcl, hxl2 with
  | [v0, v1], [p0, p1], _, _ =>
    have t0 : DataW.trod enc Try.prog W 0 sp held n 9 (List.take (Try.prog.cellsOf 9) (List.drop 0 [v0, v1])) = [p0, p1][0]? := hfld 0 _ rfl
    rw [show Try.prog.cellsOf 9 = 1 from by kernel_rfl] at t0
    obtain ⟨s0, hs0, hx0, _⟩ := DataW.trod_string Try.underlying9 (show DataW.trod enc Try.prog W 0 sp held n 9 [v0] = some p0 from by simpa using t0)
    have e0 : v0 = .string s0 := by simpa using hs0
    have t1 : DataW.trod enc Try.prog W 0 sp held n 9 (List.take (Try.prog.cellsOf 9) (List.drop 1 [v0, v1])) = [p0, p1][1]? := hfld 1 _ rfl
    rw [show Try.prog.cellsOf 9 = 1 from by kernel_rfl] at t1
    obtain ⟨s1, hs1, hx1, _⟩ := DataW.trod_string Try.underlying9 (show DataW.trod enc Try.prog W 0 sp held n 9 [v1] = some p1 from by simpa using t1)
    have e1 : v1 = .string s1 := by simpa using hs1
    subst e0 e1
    refine ⟨s0, s1, rfl, ?_⟩
    rw [hy]
    show DataW.agg [p0.1, p1.1] = _
    rw [hx0, hx1]

set_option maxRecDepth 100000 in
theorem open_labs {H : Type} {enc : TypeId × Value → H} {W : World} {fuel : Nat} {a : Option Addr} {len cap : Nat} {x : DataW H × List MemPlace}
    (hf : DataW.trod enc Try.prog W 0 (fun _ => true) true fuel 22 [.slice a len cap] = some x) (hw : ∀ n, n ∈ DataW.weights Try.prog 22 x.1 → n ≤ reachBytes) : ∃ z : List Lab, LabsAt W a len cap z ∧ len * 32 ≤ 140737488355328 := by
  rcases open_slice Try.underlying22 hf with ⟨hcs, _⟩ | ⟨x0, l, c, m, n, D, Pl, hcs, _, hl, hm, hmm, hx, hi⟩
  · simp at hcs
    obtain ⟨rfl, rfl, rfl⟩ := hcs
    exact ⟨[], LabsAt.empty W none 0 (by omega) (fun _ => rfl), by omega⟩
  · simp at hcs
    obtain ⟨rfl, rfl, rfl⟩ := hcs
    rw [show Try.prog.cellsOf 41 = 2 from by kernel_rfl] at hi
    have hm2 : m = cap := by rw [hmm]; simp
    have hone : ∀ i : Nat, ∃ p : Lab, i < len → W.cell? (x0.add (i * 2)) = some (.string p.1) ∧ W.cell? (x0.add (i * 2 + 1)) = some (.string p.2) ∧ p.1.size ≤ 140737488355328 ∧ p.2.size ≤ 140737488355328 := by
      intro i
      by_cases hil : i < len
      · obtain ⟨cs, hcc, ht⟩ := hi i (by omega)
        obtain ⟨s0, s1, rfl, hD⟩ := lab_fields ht
        have hD : D i = _ := hD
        obtain ⟨_, _, hat⟩ := World.cells?_some hcc
        have hc0 : W.cell? (x0.add (i * 2)) = some (.string s0) := by
          have := hat 0 (by omega)
          rw [add_add] at this
          simpa using this
        have hc1 : W.cell? (x0.add (i * 2 + 1)) = some (.string s1) := by
          have := hat 1 (by omega)
          rw [add_add] at this
          simpa using this
        have hwD : ∀ n, n ∈ DataW.weights Try.prog 41 (D i) → n ≤ reachBytes := fun n hn => hw n (by
          rw [hx]
          simp only [DataW.weights, Try.underlying22]
          exact List.mem_cons_of_mem _ (List.mem_append_left _ (weightsAll_mem (List.mem_map.2 ⟨i, List.mem_range.2 hil, rfl⟩) hn)))
        have w0 := hwD s0.data.toList.length (by rw [hD]; simp [DataW.weights, DataW.weightsEach, Try.underlying41])
        have w1 := hwD s1.data.toList.length (by rw [hD]; simp [DataW.weights, DataW.weightsEach, Try.underlying41])
        have hr := reachBytes_lt
        exact ⟨(s0, s1), fun _ => ⟨hc0, hc1, by show s0.size ≤ _; simp at w0; omega, by show s1.size ≤ _; simp at w1; omega⟩⟩
      · exact ⟨lab0, fun h => absurd h hil⟩
    obtain ⟨f, hF⟩ := Classical.skolem.1 hone
    have hget : ∀ i, i < len → ((List.range len).map f).getD i lab0 = f i := fun i h => by simp [h]
    have hby : len * 32 ≤ 140737488355328 := by
      have h1 := hw ((((List.range len).map D).length + ((List.range (m - len)).map fun j => D (len + j)).length) * Try.prog.bytesOf 41) (by
        rw [hx]
        simp only [DataW.weights, Try.underlying22]
        exact List.mem_cons_self)
      rw [show Try.prog.bytesOf 41 = 32 from by kernel_rfl] at h1
      have hr := reachBytes_lt
      simp only [List.length_map, List.length_range] at h1
      omega
    refine ⟨(List.range len).map f, ⟨by simp, hl, by unfold maxLen at hm; exact hm, (fun e => by cases e), ?_, fun hp => ?_⟩, hby⟩
    · intro y hy
      obtain ⟨i, hi', rfl⟩ := List.mem_map.1 hy
      exact ⟨(hF i (List.mem_range.1 hi')).2.2.1, (hF i (List.mem_range.1 hi')).2.2.2⟩
    · obtain ⟨b, off, spot⟩ := x0
      have hc := (hF 0 hp).1
      have hspot : spot = none := by simpa [Addr.add] using World.cell?_spot hc
      subst hspot
      refine ⟨b, off, rfl, ?_, fun i hi' => ?_⟩
      · have := World.block_lt_of_cell? W _ hc
        simpa [Addr.add] using this
      · have h0 := (hF i hi').1
        have h1 := (hF i hi').2.1
        rw [add_none] at h0 h1
        rw [hget i hi']
        exact ⟨h0, h1⟩
end Go.Proofs.Ytjbljplgkbnpmaa
