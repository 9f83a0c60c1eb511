/- Rows as a law's argument. -/
import Derived.Test.YtjbljplgkbnpmaaRowAt
namespace Go.Proofs.Ytjbljplgkbnpmaa
open Go.ChangeShapes Go.WideShapes Go.Deep Go.RowKit LabPlain RecPlain
set_option linter.unusedVariables false

set_option maxRecDepth 100000 in
theorem row_fields {H : Type} {enc : TypeId × Value → H} {W : World} {fuel : Nat} {cs : List Value} {y : DataW H × List MemPlace} (h : DataW.trod enc Try.prog W 0 (fun _ => true) true fuel 62 cs = some y) (hw : ∀ n, n ∈ DataW.weights Try.prog 62 y.1 → n ≤ reachBytes) :
    ∃ r : RowV, cs = r.cells ∧ r.fits ∧ LabsAt W r.r.la r.r.ln r.r.lc r.r.labs := by
  obtain ⟨xs, n, _, hy, hcl, hxl, hfld⟩ := DataW.trod_struct Try.underlying62 h
  rw [show Try.prog.cellsOf 62 = 9 from by kernel_rfl] at hcl
  have hxl2 : xs.length = 4 := hxl
  match cs, xs, hcl, hxl2 with
  | [v0, v1, v2, v3, v4, v5, v6, v7, v8], [p0, p1, p2, p3], _, _ =>
    have t0 : DataW.trod enc Try.prog W 0 (fun _ => true) true n 54 (List.take (Try.prog.cellsOf 54) (List.drop 0 [v0, v1, v2, v3, v4, v5, v6, v7, v8])) = [p0, p1, p2, p3][0]? := hfld 0 _ rfl
    rw [show Try.prog.cellsOf 54 = 6 from by kernel_rfl] at t0
    have t0' : DataW.trod enc Try.prog W 0 (fun _ => true) true n 54 [v0, v1, v2, v3, v4, v5] = some p0 := by simpa using t0
    have t1 : DataW.trod enc Try.prog W 0 (fun _ => true) true n 3 (List.take (Try.prog.cellsOf 3) (List.drop 6 [v0, v1, v2, v3, v4, v5, v6, v7, v8])) = [p0, p1, p2, p3][1]? := hfld 1 _ rfl
    rw [show Try.prog.cellsOf 3 = 1 from by kernel_rfl] at t1
    obtain ⟨s1, hs1, hx1, hw1⟩ := DataW.trod_int Try.underlying3 (show DataW.trod enc Try.prog W 0 (fun _ => true) true n 3 [v6] = some p1 from by simpa using t1)
    have e1 : v6 = .int .i64 s1 := by simpa using hs1
    have t2 : DataW.trod enc Try.prog W 0 (fun _ => true) true n 3 (List.take (Try.prog.cellsOf 3) (List.drop 7 [v0, v1, v2, v3, v4, v5, v6, v7, v8])) = [p0, p1, p2, p3][2]? := hfld 2 _ rfl
    rw [show Try.prog.cellsOf 3 = 1 from by kernel_rfl] at t2
    obtain ⟨s2, hs2, hx2, hw2⟩ := DataW.trod_int Try.underlying3 (show DataW.trod enc Try.prog W 0 (fun _ => true) true n 3 [v7] = some p2 from by simpa using t2)
    have e2 : v7 = .int .i64 s2 := by simpa using hs2
    have t3 : DataW.trod enc Try.prog W 0 (fun _ => true) true n 3 (List.take (Try.prog.cellsOf 3) (List.drop 8 [v0, v1, v2, v3, v4, v5, v6, v7, v8])) = [p0, p1, p2, p3][3]? := hfld 3 _ rfl
    rw [show Try.prog.cellsOf 3 = 1 from by kernel_rfl] at t3
    obtain ⟨s3, hs3, hx3, hw3⟩ := DataW.trod_int Try.underlying3 (show DataW.trod enc Try.prog W 0 (fun _ => true) true n 3 [v8] = some p3 from by simpa using t3)
    have e3 : v8 = .int .i64 s3 := by simpa using hs3
    subst e1 e2 e3
    have hy1 : y.1 = .agg [p0.1, p1.1, p2.1, p3.1] := by rw [hy]; rfl
    have w0 : ∀ m, m ∈ DataW.weights Try.prog 54 p0.1 → m ≤ reachBytes := fun m hm => hw m (by rw [hy1]; simp [DataW.weights, DataW.weightsEach, Try.underlying62, hm])
    obtain ⟨r, hr, hf, hl⟩ := rec_fields t0' w0
    refine ⟨⟨r, s1, s2, s3⟩, ?_, ⟨hf, i64_of_wf hw1, i64_of_wf hw2, i64_of_wf hw3⟩, hl⟩
    unfold RecV.cells at hr
    simp only [List.cons.injEq, and_true] at hr
    obtain ⟨rfl, rfl, rfl, rfl, rfl, rfl⟩ := hr
    rfl

set_option maxRecDepth 100000 in
theorem open_rowsR {H : Type} {enc : TypeId × Value → H} {W : World} {fuel : Nat} {a : Option Addr} {len cap : Nat} {x : DataW H × List MemPlace}
    (hf : DataW.trod enc Try.prog W 0 (fun _ => true) true fuel 58 [.slice a len cap] = some x) (hw : ∀ n, n ∈ DataW.weights Try.prog 58 x.1 → n ≤ reachBytes) : ∃ z : List RowV, RowsAt W a len cap z := by
  rcases open_slice Try.underlying58 hf with ⟨hcs, _⟩ | ⟨x0, l, c, m, n, D, Pl, hcs, _, hl, hm, hmm, hx, hi⟩
  · simp at hcs
    obtain ⟨rfl, rfl, rfl⟩ := hcs
    exact ⟨[], RowsAt.empty W none 0 (by omega) (fun _ => rfl)⟩
  · simp at hcs
    obtain ⟨rfl, rfl, rfl⟩ := hcs
    rw [show Try.prog.cellsOf 62 = 9 from by kernel_rfl] at hi
    have hm2 : m = cap := by rw [hmm]; simp
    have hone : ∀ i : Nat, ∃ r : RowV, i < len → (∀ j u, r.cells[j]? = some u → W.cell? (x0.add (i * 9 + j)) = some u) ∧ r.fits ∧ LabsAt W r.r.la r.r.ln r.r.lc r.r.labs := by
      intro i
      by_cases hil : i < len
      · obtain ⟨cs, hcc, ht⟩ := hi i (by omega)
        obtain ⟨r, rfl, hfit, hlab⟩ := row_fields ht (fun n hn => hw n (by
          rw [hx]
          simp only [DataW.weights, Try.underlying58]
          exact List.mem_cons_of_mem _ (List.mem_append_left _ (weightsAll_mem (List.mem_map.2 ⟨i, List.mem_range.2 hil, rfl⟩) hn))))
        obtain ⟨_, hl9, hat⟩ := World.cells?_some hcc
        refine ⟨r, fun _ => ⟨fun j u hu => ?_, hfit, hlab⟩⟩
        have := hat j (by rw [← hl9]; exact (List.getElem?_eq_some_iff.1 hu).1)
        rw [add_add, hu] at this
        exact this
      · exact ⟨row0, fun h => absurd h hil⟩
    obtain ⟨f, hF⟩ := Classical.skolem.1 hone
    have hget : ∀ i, i < len → ((List.range len).map f).getD i row0 = f i := fun i h => by simp [h]
    refine ⟨(List.range len).map f, by simp, hl, by unfold maxLen at hm; exact hm, (fun e => by cases e), ?_, ?_, fun hp => ?_⟩
    · intro y hy
      obtain ⟨i, hi', rfl⟩ := List.mem_map.1 hy
      exact (hF i (List.mem_range.1 hi')).2.1
    · intro y hy
      obtain ⟨i, hi', rfl⟩ := List.mem_map.1 hy
      exact (hF i (List.mem_range.1 hi')).2.2
    · obtain ⟨b, off, spot⟩ := x0
      have hc := (hF 0 hp).1 0 _ rfl
      have hspot : spot = none := by simpa [Addr.add] using World.cell?_spot hc
      subst hspot
      refine ⟨b, off, rfl, ?_, fun i hi' j u hu => ?_⟩
      · have := World.block_lt_of_cell? W _ hc
        simpa [Addr.add] using this
      · rw [hget i hi'] at hu
        have h0 := (hF i hi').1 j u hu
        rw [add_none, ← Nat.add_assoc] at h0
        exact h0
end Go.Proofs.Ytjbljplgkbnpmaa
