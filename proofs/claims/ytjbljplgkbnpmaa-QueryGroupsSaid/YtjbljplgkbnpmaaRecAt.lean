/- A slice of records, as a walk is told of it; a batch that came in, opened to cells. -/
import Derived.Test.YtjbljplgkbnpmaaRecPlain
import Derived.Test.YtjbljplgkbnpmaaLabOpen1
namespace Go.Proofs.Ytjbljplgkbnpmaa
open Go.ChangeShapes Go.WideShapes Go.Deep Go.RowKit LabPlain RecPlain
set_option linter.unusedVariables false

structure RecsAt (w : World) (a : Option Addr) (n c : Nat) (l : List RecV) : Prop where
  len : l.length = n
  cap : n ≤ c
  capm : c ≤ 9223372036854775807
  nl : a = none → c = 0
  fits : ∀ x ∈ l, x.fits
  labs : ∀ x ∈ l, LabsAt w x.la x.ln x.lc x.labs
  cells : 0 < n → ∃ b off, a = some ⟨b, off, none⟩ ∧ b < w.heap.size ∧ ∀ i, i < n → ∀ j u, (l.getD i rec0).cells[j]? = some u → w.cell? ⟨b, off + i * 6 + j, none⟩ = some u
theorem RecsAt.keep {w w' : World} {a : Option Addr} {n c : Nat} {l : List RecV} (h : RecsAt w a n c l) {B : Nat} (hb : Below B w w') (hB : w.heap.size ≤ B) : RecsAt w' a n c l :=
  ⟨h.len, h.cap, h.capm, h.nl, h.fits, fun x hx => (h.labs x hx).keep hb hB, fun hn => by
    obtain ⟨b, off, ha, hlt, hc⟩ := h.cells hn
    exact ⟨b, off, ha, Nat.lt_of_lt_of_le hlt hb.size, fun i hi j u hu => (hb.cell (p := ⟨b, off + i * 6 + j, none⟩) (Nat.lt_of_lt_of_le hlt hB)).trans (hc i hi j u hu)⟩⟩
theorem RecsAt.kept {w w' : World} {a : Option Addr} {n c : Nat} {l : List RecV} (h : RecsAt w a n c l) (hb : Below w.heap.size w w') : RecsAt w' a n c l := h.keep hb (Nat.le_refl _)
theorem RecsAt.empty (w : World) (a : Option Addr) (c : Nat) (hc : c ≤ 9223372036854775807) (ha : a = none → c = 0) : RecsAt w a 0 c [] :=
  ⟨rfl, Nat.zero_le _, hc, ha, (fun x hx => by cases hx), (fun x hx => by cases hx), fun h => absurd h (Nat.lt_irrefl 0)⟩
theorem rec_mem {l : List RecV} {i : Nat} (h : i < l.length) : l.getD i rec0 ∈ l := by
  have : l.getD i rec0 = l[i] := by simp [h]
  rw [this]; exact List.getElem_mem h
/-- one record's six cells -/
theorem RecsAt.six {w : World} {b off n : Nat} {l : List RecV} (hc : ∀ i, i < n → ∀ j u, (l.getD i rec0).cells[j]? = some u → w.cell? ⟨b, off + i * 6 + j, none⟩ = some u) {i : Nat} (hi : i < n) {r : RecV} (hr : r = l.getD i rec0) :
    w.cell? ⟨b, off + i * 6, none⟩ = some (.int .i64 r.kind) ∧ w.cell? ⟨b, off + i * 6 + 1, none⟩ = some (.int .i64 r.time) ∧ w.cell? ⟨b, off + i * 6 + 2, none⟩ = some (.slice r.la r.ln r.lc) ∧
    w.cell? ⟨b, off + i * 6 + 3, none⟩ = some (.string r.text) ∧ w.cell? ⟨b, off + i * 6 + 4, none⟩ = some (.int .i64 r.value) ∧ w.cell? ⟨b, off + i * 6 + 5, none⟩ = some (.bool r.null) := by
  subst hr
  exact ⟨hc i hi 0 _ rfl, hc i hi 1 _ rfl, hc i hi 2 _ rfl, hc i hi 3 _ rfl, hc i hi 4 _ rfl, hc i hi 5 _ rfl⟩

set_option maxRecDepth 100000 in
theorem rec_fields {H : Type} {enc : TypeId × Value → H} {W : World} {fuel : Nat} {cs : List Value} {y : DataW H × List MemPlace} (h : DataW.trod enc Try.prog W 0 (fun _ => true) true fuel 54 cs = some y) (hw : ∀ n, n ∈ DataW.weights Try.prog 54 y.1 → n ≤ reachBytes) :
    ∃ r : RecV, cs = r.cells ∧ r.fits ∧ LabsAt W r.la r.ln r.lc r.labs := by
  obtain ⟨xs, n, _, hy, hcl, hxl, hfld⟩ := DataW.trod_struct Try.underlying54 h
  rw [show Try.prog.cellsOf 54 = 6 from by kernel_rfl] at hcl
  have hxl2 : xs.length = 6 := hxl
  match cs, xs, hcl, hxl2 with
  | [v0, v1, v2, v3, v4, v5], [p0, p1, p2, p3, p4, p5], _, _ =>
    have t0 : DataW.trod enc Try.prog W 0 (fun _ => true) true n 3 (List.take (Try.prog.cellsOf 3) (List.drop 0 [v0, v1, v2, v3, v4, v5])) = [p0, p1, p2, p3, p4, p5][0]? := hfld 0 _ rfl
    rw [show Try.prog.cellsOf 3 = 1 from by kernel_rfl] at t0
    obtain ⟨s0, hs0, hx0, hw0⟩ := DataW.trod_int Try.underlying3 (show DataW.trod enc Try.prog W 0 (fun _ => true) true n 3 [v0] = some p0 from by simpa using t0)
    have t1 : DataW.trod enc Try.prog W 0 (fun _ => true) true n 3 (List.take (Try.prog.cellsOf 3) (List.drop 1 [v0, v1, v2, v3, v4, v5])) = [p0, p1, p2, p3, p4, p5][1]? := hfld 1 _ rfl
    rw [show Try.prog.cellsOf 3 = 1 from by kernel_rfl] at t1
    obtain ⟨s1, hs1, hx1, hw1⟩ := DataW.trod_int Try.underlying3 (show DataW.trod enc Try.prog W 0 (fun _ => true) true n 3 [v1] = some p1 from by simpa using t1)
    have t2 : DataW.trod enc Try.prog W 0 (fun _ => true) true n 22 (List.take (Try.prog.cellsOf 22) (List.drop 2 [v0, v1, v2, v3, v4, v5])) = [p0, p1, p2, p3, p4, p5][2]? := hfld 2 _ rfl
    rw [show Try.prog.cellsOf 22 = 1 from by kernel_rfl] at t2
    have t2' : DataW.trod enc Try.prog W 0 (fun _ => true) true n 22 [v2] = some p2 := by simpa using t2
    have t3 : DataW.trod enc Try.prog W 0 (fun _ => true) true n 9 (List.take (Try.prog.cellsOf 9) (List.drop 3 [v0, v1, v2, v3, v4, v5])) = [p0, p1, p2, p3, p4, p5][3]? := hfld 3 _ rfl
    rw [show Try.prog.cellsOf 9 = 1 from by kernel_rfl] at t3
    obtain ⟨s3, hs3, hx3, _⟩ := DataW.trod_string Try.underlying9 (show DataW.trod enc Try.prog W 0 (fun _ => true) true n 9 [v3] = some p3 from by simpa using t3)
    have t4 : DataW.trod enc Try.prog W 0 (fun _ => true) true n 3 (List.take (Try.prog.cellsOf 3) (List.drop 4 [v0, v1, v2, v3, v4, v5])) = [p0, p1, p2, p3, p4, p5][4]? := hfld 4 _ rfl
    rw [show Try.prog.cellsOf 3 = 1 from by kernel_rfl] at t4
    obtain ⟨s4, hs4, hx4, hw4⟩ := DataW.trod_int Try.underlying3 (show DataW.trod enc Try.prog W 0 (fun _ => true) true n 3 [v4] = some p4 from by simpa using t4)
    have t5 : DataW.trod enc Try.prog W 0 (fun _ => true) true n 4 (List.take (Try.prog.cellsOf 4) (List.drop 5 [v0, v1, v2, v3, v4, v5])) = [p0, p1, p2, p3, p4, p5][5]? := hfld 5 _ rfl
    rw [show Try.prog.cellsOf 4 = 1 from by kernel_rfl] at t5
    obtain ⟨s5, hs5, hx5⟩ := DataW.trod_bool Try.underlying4 (show DataW.trod enc Try.prog W 0 (fun _ => true) true n 4 [v5] = some p5 from by simpa using t5)
    have e0 : v0 = .int .i64 s0 := by simpa using hs0
    have e1 : v1 = .int .i64 s1 := by simpa using hs1
    have e3 : v3 = .string s3 := by simpa using hs3
    have e4 : v4 = .int .i64 s4 := by simpa using hs4
    have e5 : v5 = .bool s5 := by simpa using hs5
    subst e0 e1 e3 e4 e5
    have hy1 : y.1 = .agg [p0.1, p1.1, p2.1, p3.1, p4.1, p5.1] := by rw [hy]; rfl
    have w3 := hw s3.data.toList.length (by rw [hy1, hx3]; simp [DataW.weights, DataW.weightsEach, Try.underlying54])
    have w2 : ∀ m, m ∈ DataW.weights Try.prog 22 p2.1 → m ≤ reachBytes := fun m hm => hw m (by rw [hy1]; simp [DataW.weights, DataW.weightsEach, Try.underlying54, hm])
    have hr := reachBytes_lt
    have hv2 : ∃ a len cap, v2 = .slice a len cap := by
      rcases open_slice Try.underlying22 t2' with ⟨hcs, _⟩ | ⟨x0, l, c, m, n, D, Pl, hcs, _⟩
      · simp at hcs; exact ⟨_, _, _, hcs⟩
      · simp at hcs; exact ⟨_, _, _, hcs⟩
    obtain ⟨a, len, cap, rfl⟩ := hv2
    obtain ⟨z, hz, hby⟩ := open_labs t2' w2
    exact ⟨⟨s0, s1, a, len, cap, z, s3, s4, s5⟩, rfl, ⟨i64_of_wf hw0, i64_of_wf hw1, i64_of_wf hw4, by show s3.size ≤ _; simp at w3; omega, hby⟩, hz⟩

set_option maxRecDepth 100000 in
theorem open_recs {H : Type} {enc : TypeId × Value → H} {W : World} {fuel : Nat} {a : Option Addr} {len cap : Nat} {x : DataW H × List MemPlace}
    (hf : DataW.trod enc Try.prog W 0 (fun _ => true) true fuel 50 [.slice a len cap] = some x) (hw : ∀ n, n ∈ DataW.weights Try.prog 50 x.1 → n ≤ reachBytes) : ∃ z : List RecV, RecsAt W a len cap z := by
  rcases open_slice Try.underlying50 hf with ⟨hcs, _⟩ | ⟨x0, l, c, m, n, D, Pl, hcs, _, hl, hm, hmm, hx, hi⟩
  · simp at hcs
    obtain ⟨rfl, rfl, rfl⟩ := hcs
    exact ⟨[], RecsAt.empty W none 0 (by omega) (fun _ => rfl)⟩
  · simp at hcs
    obtain ⟨rfl, rfl, rfl⟩ := hcs
    rw [show Try.prog.cellsOf 54 = 6 from by kernel_rfl] at hi
    have hm2 : m = cap := by rw [hmm]; simp
    have hone : ∀ i : Nat, ∃ r : RecV, i < len → (∀ j u, r.cells[j]? = some u → W.cell? (x0.add (i * 6 + j)) = some u) ∧ r.fits ∧ LabsAt W r.la r.ln r.lc r.labs := by
      intro i
      by_cases hil : i < len
      · obtain ⟨cs, hcc, ht⟩ := hi i (by omega)
        obtain ⟨r, rfl, hfit, hlab⟩ := rec_fields ht (fun n hn => hw n (by
          rw [hx]
          simp only [DataW.weights, Try.underlying50]
          exact List.mem_cons_of_mem _ (List.mem_append_left _ (weightsAll_mem (List.mem_map.2 ⟨i, List.mem_range.2 hil, rfl⟩) hn))))
        obtain ⟨_, hl6, hat⟩ := World.cells?_some hcc
        refine ⟨r, fun _ => ⟨fun j u hu => ?_, hfit, hlab⟩⟩
        have := hat j (by rw [← hl6]; exact (List.getElem?_eq_some_iff.1 hu).1)
        rw [add_add, hu] at this
        exact this
      · exact ⟨rec0, fun h => absurd h hil⟩
    obtain ⟨f, hF⟩ := Classical.skolem.1 hone
    have hget : ∀ i, i < len → ((List.range len).map f).getD i rec0 = f i := fun i h => by simp [h]
    refine ⟨(List.range len).map f, by simp, hl, by unfold maxLen at hm; exact hm, (fun e => by cases e), ?_, ?_, fun hp => ?_⟩
    · intro y hy
      obtain ⟨i, hi', rfl⟩ := List.mem_map.1 hy
      exact (hF i (List.mem_range.1 hi')).2.1
    · intro y hy
      obtain ⟨i, hi', rfl⟩ := List.mem_map.1 hy
      exact (hF i (List.mem_range.1 hi')).2.2
    · obtain ⟨b, off, spot⟩ := x0
      have hc := (hF 0 hp).1 0 _ rfl
      have hspot : spot = none := by simpa [Addr.add] using World.cell?_spot hc
      subst hspot
      refine ⟨b, off, rfl, ?_, fun i hi' j u hu => ?_⟩
      · have := World.block_lt_of_cell? W _ hc
        simpa [Addr.add] using this
      · rw [hget i hi'] at hu
        have h0 := (hF i hi').1 j u hu
        rw [add_none, ← Nat.add_assoc] at h0
        exact h0
set_option maxRecDepth 100000 in
/-- a batch that came in -/
theorem open_batch {H : Type} {enc : TypeId × Value → H} {W : World} {fuel : Nat} {cs : Array Value} {x : DataW H × List MemPlace}
    (h : DataW.trod enc Try.prog W 0 (fun _ => true) true fuel 52 cs.toList = some x) (hw : ∀ n, n ∈ DataW.weights Try.prog 52 x.1 → n ≤ reachBytes) :
    ∃ (mk sq : Int) (a : Option Addr) (len cap : Nat) (z : List RecV), cs = #[.int .i64 mk, .int .i64 sq, .slice a len cap] ∧ (-9223372036854775808 ≤ mk ∧ mk ≤ 9223372036854775807) ∧ (-9223372036854775808 ≤ sq ∧ sq ≤ 9223372036854775807) ∧ RecsAt W a len cap z := by
  obtain ⟨xs, n, _, hy, hcl, hxl, hfld⟩ := DataW.trod_struct Try.underlying52 h
  rw [show Try.prog.cellsOf 52 = 3 from by kernel_rfl] at hcl
  have hxl2 : xs.length = 3 := hxl
  obtain ⟨ls, hls⟩ : ∃ ls, ls = cs.toList := ⟨_, rfl⟩
  have hcs : cs = ls.toArray := by rw [hls]
  rw [← hls] at hcl hfld
  subst hcs
  clear h hls
  match ls, xs, hcl, hxl2 with
  | [v0, v1, v2], [p0, p1, p2], _, _ =>
    have t0 : DataW.trod enc Try.prog W 0 (fun _ => true) true n 3 (List.take (Try.prog.cellsOf 3) (List.drop 0 [v0, v1, v2])) = [p0, p1, p2][0]? := hfld 0 _ rfl
    rw [show Try.prog.cellsOf 3 = 1 from by kernel_rfl] at t0
    obtain ⟨s0, hs0, hx0, hw0⟩ := DataW.trod_int Try.underlying3 (show DataW.trod enc Try.prog W 0 (fun _ => true) true n 3 [v0] = some p0 from by simpa using t0)
    have t1 : DataW.trod enc Try.prog W 0 (fun _ => true) true n 3 (List.take (Try.prog.cellsOf 3) (List.drop 1 [v0, v1, v2])) = [p0, p1, p2][1]? := hfld 1 _ rfl
    rw [show Try.prog.cellsOf 3 = 1 from by kernel_rfl] at t1
    obtain ⟨s1, hs1, hx1, hw1⟩ := DataW.trod_int Try.underlying3 (show DataW.trod enc Try.prog W 0 (fun _ => true) true n 3 [v1] = some p1 from by simpa using t1)
    have t2 : DataW.trod enc Try.prog W 0 (fun _ => true) true n 50 (List.take (Try.prog.cellsOf 50) (List.drop 2 [v0, v1, v2])) = [p0, p1, p2][2]? := hfld 2 _ rfl
    rw [show Try.prog.cellsOf 50 = 1 from by kernel_rfl] at t2
    have t2' : DataW.trod enc Try.prog W 0 (fun _ => true) true n 50 [v2] = some p2 := by simpa using t2
    have e0 : v0 = .int .i64 s0 := by simpa using hs0
    have e1 : v1 = .int .i64 s1 := by simpa using hs1
    subst e0 e1
    have hy1 : x.1 = .agg [p0.1, p1.1, p2.1] := by rw [hy]; rfl
    have w2 : ∀ m, m ∈ DataW.weights Try.prog 50 p2.1 → m ≤ reachBytes := fun m hm => hw m (by rw [hy1]; simp [DataW.weights, DataW.weightsEach, Try.underlying52, hm])
    have hv2 : ∃ a len cap, v2 = .slice a len cap := by
      rcases open_slice Try.underlying50 t2' with ⟨hcs, _⟩ | ⟨x0, l, c, m, n, D, Pl, hcs, _⟩
      · simp at hcs; exact ⟨_, _, _, hcs⟩
      · simp at hcs; exact ⟨_, _, _, hcs⟩
    obtain ⟨a, len, cap, rfl⟩ := hv2
    obtain ⟨z, hz⟩ := open_recs t2' w2
    exact ⟨s0, s1, a, len, cap, z, rfl, i64_of_wf hw0, i64_of_wf hw1, hz⟩
end Go.Proofs.Ytjbljplgkbnpmaa
