/- Matchers, and a query, that came in, opened. Written by genqopen.py. -/
import Derived.Test.YtjbljplgkbnpmaaRowOpen
import Derived.Test.YtjbljplgkbnpmaaLabMt
import Derived.Deep.Slices
import Derived.Deep.Fields
import Derived.SizedLaws
import Derived.Below
import Derived.OpenShut
import Derived.ChangeSlices
namespace Go.Proofs.Ytjbljplgkbnpmaa
open Go.ChangeShapes Go.WideShapes Go.Deep Go.RowKit LabPlain
set_option linter.unusedVariables false
set_option maxRecDepth 100000
theorem mat_fields {H : Type} {enc : TypeId × Value → H} {W : World} {fuel : Nat} {sp : Nat → Bool} {held : Bool} {cs : List Value} {y : DataW H × List MemPlace} (h : DataW.trod enc Try.prog W 0 sp held fuel 46 cs = some y) :
    ∃ (s0 : ByteArray) (s1 : Int) (s2 : ByteArray), cs = [.string s0, .int .i64 s1, .string s2] ∧ y.1 = .agg [.lit (.string s0.data.toList), .lit (.int .i64 s1), .lit (.string s2.data.toList)] := by
  obtain ⟨xs, n, _, hy, hcl, hxl, hfld⟩ := DataW.trod_struct Try.underlying46 h
  rw [show Try.prog.cellsOf 46 = 3 from by kernel_rfl] at hcl
  have hxl2 : xs.length = 3 := hxl
  match cs, xs, hcl, hxl2 with
  | [v0, v1, v2], [p0, p1, p2], _, _ =>
    have t0 : DataW.trod enc Try.prog W 0 sp held n 9 (List.take (Try.prog.cellsOf 9) (List.drop 0 [v0, v1, v2])) = [p0, p1, p2][0]? := hfld 0 _ rfl
    rw [show Try.prog.cellsOf 9 = 1 from by kernel_rfl] at t0
    obtain ⟨s0, hs0, hx0, _⟩ := DataW.trod_string Try.underlying9 (show DataW.trod enc Try.prog W 0 sp held n 9 [v0] = some p0 from by simpa using t0)
    have e0 : v0 = .string s0 := by simpa using hs0
    have t1 : DataW.trod enc Try.prog W 0 sp held n 3 (List.take (Try.prog.cellsOf 3) (List.drop 1 [v0, v1, v2])) = [p0, p1, p2][1]? := hfld 1 _ rfl
    rw [show Try.prog.cellsOf 3 = 1 from by kernel_rfl] at t1
    obtain ⟨s1, hs1, hx1, _⟩ := DataW.trod_int Try.underlying3 (show DataW.trod enc Try.prog W 0 sp held n 3 [v1] = some p1 from by simpa using t1)
    have e1 : v1 = .int .i64 s1 := by simpa using hs1
    have t2 : DataW.trod enc Try.prog W 0 sp held n 9 (List.take (Try.prog.cellsOf 9) (List.drop 2 [v0, v1, v2])) = [p0, p1, p2][2]? := hfld 2 _ rfl
    rw [show Try.prog.cellsOf 9 = 1 from by kernel_rfl] at t2
    obtain ⟨s2, hs2, hx2, _⟩ := DataW.trod_string Try.underlying9 (show DataW.trod enc Try.prog W 0 sp held n 9 [v2] = some p2 from by simpa using t2)
    have e2 : v2 = .string s2 := by simpa using hs2
    subst e0 e1 e2
    refine ⟨s0, s1, s2, rfl, ?_⟩
    rw [hy]
    show DataW.agg [p0.1, p1.1, p2.1] = _
    rw [hx0, hx1, hx2]

theorem open_mats {H : Type} {enc : TypeId × Value → H} {W : World} {fuel : Nat} {a : Option Addr} {len cap : Nat} {x : DataW H × List MemPlace}
    (hf : DataW.trod enc Try.prog W 0 (fun _ => true) true fuel 44 [.slice a len cap] = some x) (hw : ∀ n, n ∈ DataW.weights Try.prog 44 x.1 → n ≤ reachBytes) : ∃ z : List Mat, MatsAt W a len cap z := by
  rcases open_slice Try.underlying44 hf with ⟨hcs, _⟩ | ⟨x0, l, c, m, n, D, Pl, hcs, _, hl, hm, hmm, hx, hi⟩
  · simp at hcs
    obtain ⟨rfl, rfl, rfl⟩ := hcs
    exact ⟨[], MatsAt.empty W none 0 (by omega) (fun _ => rfl)⟩
  · simp at hcs
    obtain ⟨rfl, rfl, rfl⟩ := hcs
    rw [show Try.prog.cellsOf 46 = 3 from by kernel_rfl] at hi
    have hm2 : m = cap := by rw [hmm]; simp
    have hone : ∀ i : Nat, ∃ p : Mat, i < len → W.cell? (x0.add (i * 3)) = some (.string p.1) ∧ W.cell? (x0.add (i * 3 + 1)) = some (.int .i64 p.2.1) ∧ W.cell? (x0.add (i * 3 + 2)) = some (.string p.2.2) ∧ p.1.size ≤ 140737488355328 ∧ p.2.2.size ≤ 140737488355328 := by
      intro i
      by_cases hil : i < len
      · obtain ⟨cs, hcc, ht⟩ := hi i (by omega)
        obtain ⟨s0, s1, s2, rfl, hD⟩ := mat_fields ht
        have hD : D i = _ := hD
        obtain ⟨_, _, hat⟩ := World.cells?_some hcc
        have hc0 : W.cell? (x0.add (i * 3)) = some (.string s0) := by
          have := hat 0 (by omega)
          rw [add_add] at this
          simpa using this
        have hc1 : W.cell? (x0.add (i * 3 + 1)) = some (.int .i64 s1) := by
          have := hat 1 (by omega)
          rw [add_add] at this
          simpa using this
        have hc2 : W.cell? (x0.add (i * 3 + 2)) = some (.string s2) := by
          have := hat 2 (by omega)
          rw [add_add] at this
          simpa using this
        have hwD : ∀ n, n ∈ DataW.weights Try.prog 46 (D i) → n ≤ reachBytes := fun n hn => hw n (by
          rw [hx]
          simp only [DataW.weights, Try.underlying44]
          exact List.mem_cons_of_mem _ (List.mem_append_left _ (weightsAll_mem (List.mem_map.2 ⟨i, List.mem_range.2 hil, rfl⟩) hn)))
        have w0 := hwD s0.data.toList.length (by rw [hD]; simp [DataW.weights, DataW.weightsEach, Try.underlying46])
        have w1 := hwD s2.data.toList.length (by rw [hD]; simp [DataW.weights, DataW.weightsEach, Try.underlying46])
        have hr := reachBytes_lt
        exact ⟨(s0, s1, s2), fun _ => ⟨hc0, hc1, hc2, by show s0.size ≤ _; simp at w0; omega, by show s2.size ≤ _; simp at w1; omega⟩⟩
      · exact ⟨mat0, fun h => absurd h hil⟩
    obtain ⟨f, hF⟩ := Classical.skolem.1 hone
    have hget : ∀ i, i < len → ((List.range len).map f).getD i mat0 = f i := fun i h => by simp [h]
    refine ⟨(List.range len).map f, by simp, hl, by unfold maxLen at hm; exact hm, (fun e => by cases e), ?_, fun hp => ?_⟩
    · intro y hy
      obtain ⟨i, hi', rfl⟩ := List.mem_map.1 hy
      exact ⟨(hF i (List.mem_range.1 hi')).2.2.2.1, (hF i (List.mem_range.1 hi')).2.2.2.2⟩
    · obtain ⟨b, off, spot⟩ := x0
      have hc := (hF 0 hp).1
      have hspot : spot = none := by simpa [Addr.add] using World.cell?_spot hc
      subst hspot
      refine ⟨b, off, rfl, ?_, fun i hi' => ?_⟩
      · have := World.block_lt_of_cell? W _ hc
        simpa [Addr.add] using this
      · have h0 := (hF i hi').1
        have h1 := (hF i hi').2.1
        have h2 := (hF i hi').2.2.1
        rw [add_none] at h0 h1 h2
        rw [hget i hi']
        exact ⟨h0, h1, h2⟩
theorem open_mat {H : Type} {enc : TypeId × Value → H} {W : World} {fuel : Nat} {cs : Array Value} {x : DataW H × List MemPlace}
    (hf : DataW.trod enc Try.prog W 0 (fun _ => true) true fuel 46 cs.toList = some x) (hw : ∀ n, n ∈ DataW.weights Try.prog 46 x.1 → n ≤ reachBytes) :
    ∃ (s0 : ByteArray) (s1 : Int) (s2 : ByteArray), cs = #[.string s0, .int .i64 s1, .string s2] ∧ s0.size ≤ 140737488355328 ∧ s2.size ≤ 140737488355328 := by
  obtain ⟨s0, s1, s2, hcs, hD⟩ := mat_fields hf
  have w0 := hw s0.data.toList.length (by rw [hD]; simp [DataW.weights, DataW.weightsEach, Try.underlying46])
  have w1 := hw s2.data.toList.length (by rw [hD]; simp [DataW.weights, DataW.weightsEach, Try.underlying46])
  have hr := reachBytes_lt
  refine ⟨s0, s1, s2, ?_, by simp at w0; show s0.size ≤ _; omega, by simp at w1; show s2.size ≤ _; omega⟩
  rw [← Array.toList_inj, hcs]

/-- a query that came in -/
theorem open_query {H : Type} {enc : TypeId × Value → H} {W : World} {fuel : Nat} {cs : Array Value} {x : DataW H × List MemPlace}
    (h : DataW.trod enc Try.prog W 0 (fun _ => true) true fuel 76 cs.toList = some x) (hw : ∀ n, n ∈ DataW.weights Try.prog 76 x.1 → n ≤ reachBytes) :
    ∃ (fr to : Int) (a : Option Addr) (len cap : Nat) (ms : List Mat) (lim : Int) (tx : Bool), cs = #[.int .i64 fr, .int .i64 to, .slice a len cap, .int .i64 lim, .bool tx] ∧ MatsAt W a len cap ms := by
  obtain ⟨xs, n, _, hy, hcl, hxl, hfld⟩ := DataW.trod_struct Try.underlying76 h
  rw [show Try.prog.cellsOf 76 = 5 from by kernel_rfl] at hcl
  have hxl2 : xs.length = 5 := hxl
  obtain ⟨ls, hls⟩ : ∃ ls, ls = cs.toList := ⟨_, rfl⟩
  have hcs : cs = ls.toArray := by rw [hls]
  rw [← hls] at hcl hfld
  subst hcs
  clear h hls
  match ls, xs, hcl, hxl2 with
  | [v0, v1, v2, v3, v4], [p0, p1, p2, p3, p4], _, _ =>
    have t0 : DataW.trod enc Try.prog W 0 (fun _ => true) true n 3 (List.take (Try.prog.cellsOf 3) (List.drop 0 [v0, v1, v2, v3, v4])) = [p0, p1, p2, p3, p4][0]? := hfld 0 _ rfl
    rw [show Try.prog.cellsOf 3 = 1 from by kernel_rfl] at t0
    have u0 : DataW.trod enc Try.prog W 0 (fun _ => true) true n 3 [v0] = some p0 := by simpa using t0
    have t1 : DataW.trod enc Try.prog W 0 (fun _ => true) true n 3 (List.take (Try.prog.cellsOf 3) (List.drop 1 [v0, v1, v2, v3, v4])) = [p0, p1, p2, p3, p4][1]? := hfld 1 _ rfl
    rw [show Try.prog.cellsOf 3 = 1 from by kernel_rfl] at t1
    have u1 : DataW.trod enc Try.prog W 0 (fun _ => true) true n 3 [v1] = some p1 := by simpa using t1
    have t2 : DataW.trod enc Try.prog W 0 (fun _ => true) true n 44 (List.take (Try.prog.cellsOf 44) (List.drop 2 [v0, v1, v2, v3, v4])) = [p0, p1, p2, p3, p4][2]? := hfld 2 _ rfl
    rw [show Try.prog.cellsOf 44 = 1 from by kernel_rfl] at t2
    have u2 : DataW.trod enc Try.prog W 0 (fun _ => true) true n 44 [v2] = some p2 := by simpa using t2
    have t3 : DataW.trod enc Try.prog W 0 (fun _ => true) true n 3 (List.take (Try.prog.cellsOf 3) (List.drop 3 [v0, v1, v2, v3, v4])) = [p0, p1, p2, p3, p4][3]? := hfld 3 _ rfl
    rw [show Try.prog.cellsOf 3 = 1 from by kernel_rfl] at t3
    have u3 : DataW.trod enc Try.prog W 0 (fun _ => true) true n 3 [v3] = some p3 := by simpa using t3
    have t4 : DataW.trod enc Try.prog W 0 (fun _ => true) true n 4 (List.take (Try.prog.cellsOf 4) (List.drop 4 [v0, v1, v2, v3, v4])) = [p0, p1, p2, p3, p4][4]? := hfld 4 _ rfl
    rw [show Try.prog.cellsOf 4 = 1 from by kernel_rfl] at t4
    have u4 : DataW.trod enc Try.prog W 0 (fun _ => true) true n 4 [v4] = some p4 := by simpa using t4
    obtain ⟨s0, hs0, hx0, _⟩ := DataW.trod_int Try.underlying3 u0
    obtain ⟨s1, hs1, hx1, _⟩ := DataW.trod_int Try.underlying3 u1
    obtain ⟨s3, hs3, hx3, _⟩ := DataW.trod_int Try.underlying3 u3
    obtain ⟨s4, hs4, _⟩ := DataW.trod_bool Try.underlying4 u4
    have e0 : v0 = .int .i64 s0 := by simpa using hs0
    have e1 : v1 = .int .i64 s1 := by simpa using hs1
    have e3 : v3 = .int .i64 s3 := by simpa using hs3
    have e4 : v4 = .bool s4 := by simpa using hs4
    subst e0 e1 e3 e4
    have hy1 : x.1 = .agg [p0.1, p1.1, p2.1, p3.1, p4.1] := by rw [hy]; rfl
    have w2 : ∀ m, m ∈ DataW.weights Try.prog 44 p2.1 → m ≤ reachBytes := fun m hm => hw m (by rw [hy1]; simp [DataW.weights, DataW.weightsEach, Try.underlying76, hm])
    obtain ⟨a, len, cap, rfl⟩ : ∃ (a : Option Addr) (len cap : Nat), v2 = .slice a len cap := by
      rcases open_slice Try.underlying44 u2 with ⟨hcs, _⟩ | ⟨x0, l, c, m, n, D, Pl, hcs, _⟩
      · simp at hcs
        exact ⟨none, 0, 0, hcs⟩
      · simp at hcs
        exact ⟨some x0, l, c, hcs⟩
    obtain ⟨ms, hms⟩ := open_mats u2 w2
    exact ⟨s0, s1, a, len, cap, ms, s3, s4, rfl, hms⟩
end Go.Proofs.Ytjbljplgkbnpmaa
