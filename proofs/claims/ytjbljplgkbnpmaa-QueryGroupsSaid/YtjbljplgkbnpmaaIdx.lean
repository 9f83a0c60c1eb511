/- Spans and postings of a block's index: where they lie; opened as a law's arguments; integers likewise. Written by gengrp.py. -/
import Derived.Test.YtjbljplgkbnpmaaVec
import Derived.Deep.Slices
import Derived.Deep.Fields
import Derived.SizedLaws
import Derived.OpenShut
namespace Go.Proofs.Ytjbljplgkbnpmaa
open Go.ChangeShapes Go.WideShapes Go.Deep Go.RowKit LabPlain RecPlain
set_option linter.unusedVariables false

/-- integers, as things of one cell -/
def IntS : Sty Int := ⟨fun z => [.int .i64 z], 1, 0, fun _ z => (Lit.int .i64 z).wf = true, by decide, fun _ => rfl, (fun x u hu => by rw [List.mem_singleton.1 hu]; rfl), fun _ h => h⟩
set_option maxRecDepth 100000 in
theorem int_field {H : Type} {enc : TypeId × Value → H} {W : World} {fuel : Nat} {cs : List Value} {y : DataW H × List MemPlace} (h : DataW.trod enc Try.prog W 0 (fun _ => true) true fuel 3 cs = some y) (hw : ∀ n, n ∈ DataW.weights Try.prog 3 y.1 → n ≤ reachBytes) :
    ∃ z : Int, cs = IntS.f z ∧ IntS.ok W z := by
  obtain ⟨s, hs, _, hwf⟩ := DataW.trod_int Try.underlying3 h
  exact ⟨s, hs, hwf⟩
structure SpanV where
  at' : Int
  sz : Int
  rw' : Int
  fi : Int
  la : Int
def SpanS : Sty SpanV := ⟨fun s => [.int .i64 s.at', .int .i64 s.sz, .int .i64 s.rw', .int .i64 s.fi, .int .i64 s.la], 5, ⟨0, 0, 0, 0, 0⟩, fun _ _ => True, by decide, fun _ => rfl, (fun x u hu => by simp at hu; rcases hu with rfl | rfl | rfl | rfl | rfl <;> rfl), fun _ h => h⟩
structure PostV where
  text : ByteArray
  a : Option Addr
  n : Nat
  c : Nat
  gs : List Int
def PostS : Sty PostV := ⟨fun s => [.string s.text, .slice s.a s.n s.c], 2, ⟨ByteArray.empty, none, 0, 0, []⟩, fun w s => s.text.size ≤ 140737488355328 ∧ VecAt IntS w s.a s.n s.c s.gs, by decide, fun _ => rfl, (fun x u hu => by simp at hu; rcases hu with rfl | rfl <;> rfl), fun hb h => ⟨h.1, h.2.kept hb⟩⟩

set_option maxRecDepth 100000 in
theorem span_fields0 {H : Type} {enc : TypeId × Value → H} {W : World} {fuel : Nat} {cs : List Value} {y : DataW H × List MemPlace} (h : DataW.trod enc Try.prog W 0 (fun _ => true) true fuel 91 cs = some y) (hw : ∀ n, n ∈ DataW.weights Try.prog 91 y.1 → n ≤ reachBytes) :
    ∃ (s0 : Int) (s1 : Int) (s2 : Int) (s3 : Int) (s4 : Int), cs = [.int .i64 s0, .int .i64 s1, .int .i64 s2, .int .i64 s3, .int .i64 s4] ∧ (Lit.int .i64 s0).wf = true ∧ (Lit.int .i64 s1).wf = true ∧ (Lit.int .i64 s2).wf = true ∧ (Lit.int .i64 s3).wf = true ∧ (Lit.int .i64 s4).wf = true ∧ True := by
  obtain ⟨xs, n, _, hy, hcl, hxl, hfld⟩ := DataW.trod_struct Try.underlying91 h
  rw [show Try.prog.cellsOf 91 = 5 from by kernel_rfl] at hcl
  have hxl2 : xs.length = 5 := hxl
  match cs, xs, hcl, hxl2 with
  | [v0, v1, v2, v3, v4], [p0, p1, p2, p3, p4], _, _ =>
    have t0 : DataW.trod enc Try.prog W 0 (fun _ => true) true n 3 (List.take (Try.prog.cellsOf 3) (List.drop 0 [v0, v1, v2, v3, v4])) = [p0, p1, p2, p3, p4][0]? := hfld 0 _ rfl
    rw [show Try.prog.cellsOf 3 = 1 from by kernel_rfl] at t0
    obtain ⟨s0, hs0, hx0, hw0⟩ := DataW.trod_int Try.underlying3 (show DataW.trod enc Try.prog W 0 (fun _ => true) true n 3 [v0] = some p0 from by simpa using t0)
    have e0 : v0 = .int .i64 s0 := by simpa using hs0
    have t1 : DataW.trod enc Try.prog W 0 (fun _ => true) true n 3 (List.take (Try.prog.cellsOf 3) (List.drop 1 [v0, v1, v2, v3, v4])) = [p0, p1, p2, p3, p4][1]? := hfld 1 _ rfl
    rw [show Try.prog.cellsOf 3 = 1 from by kernel_rfl] at t1
    obtain ⟨s1, hs1, hx1, hw1⟩ := DataW.trod_int Try.underlying3 (show DataW.trod enc Try.prog W 0 (fun _ => true) true n 3 [v1] = some p1 from by simpa using t1)
    have e1 : v1 = .int .i64 s1 := by simpa using hs1
    have t2 : DataW.trod enc Try.prog W 0 (fun _ => true) true n 3 (List.take (Try.prog.cellsOf 3) (List.drop 2 [v0, v1, v2, v3, v4])) = [p0, p1, p2, p3, p4][2]? := hfld 2 _ rfl
    rw [show Try.prog.cellsOf 3 = 1 from by kernel_rfl] at t2
    obtain ⟨s2, hs2, hx2, hw2⟩ := DataW.trod_int Try.underlying3 (show DataW.trod enc Try.prog W 0 (fun _ => true) true n 3 [v2] = some p2 from by simpa using t2)
    have e2 : v2 = .int .i64 s2 := by simpa using hs2
    have t3 : DataW.trod enc Try.prog W 0 (fun _ => true) true n 3 (List.take (Try.prog.cellsOf 3) (List.drop 3 [v0, v1, v2, v3, v4])) = [p0, p1, p2, p3, p4][3]? := hfld 3 _ rfl
    rw [show Try.prog.cellsOf 3 = 1 from by kernel_rfl] at t3
    obtain ⟨s3, hs3, hx3, hw3⟩ := DataW.trod_int Try.underlying3 (show DataW.trod enc Try.prog W 0 (fun _ => true) true n 3 [v3] = some p3 from by simpa using t3)
    have e3 : v3 = .int .i64 s3 := by simpa using hs3
    have t4 : DataW.trod enc Try.prog W 0 (fun _ => true) true n 3 (List.take (Try.prog.cellsOf 3) (List.drop 4 [v0, v1, v2, v3, v4])) = [p0, p1, p2, p3, p4][4]? := hfld 4 _ rfl
    rw [show Try.prog.cellsOf 3 = 1 from by kernel_rfl] at t4
    obtain ⟨s4, hs4, hx4, hw4⟩ := DataW.trod_int Try.underlying3 (show DataW.trod enc Try.prog W 0 (fun _ => true) true n 3 [v4] = some p4 from by simpa using t4)
    have e4 : v4 = .int .i64 s4 := by simpa using hs4
    subst e0 e1 e2 e3 e4
    have hy1 : y.1 = .agg [p0.1, p1.1, p2.1, p3.1, p4.1] := by rw [hy]; rfl
    have hr := reachBytes_lt
    exact ⟨s0, s1, s2, s3, s4, rfl, hw0, hw1, hw2, hw3, hw4, trivial⟩

theorem span_fields {H : Type} {enc : TypeId × Value → H} {W : World} {fuel : Nat} {cs : List Value} {y : DataW H × List MemPlace} (h : DataW.trod enc Try.prog W 0 (fun _ => true) true fuel 91 cs = some y) (hw : ∀ n, n ∈ DataW.weights Try.prog 91 y.1 → n ≤ reachBytes) :
    ∃ r : SpanV, cs = SpanS.f r ∧ SpanS.ok W r := by
  obtain ⟨s0, s1, s2, s3, s4, rfl, _⟩ := span_fields0 h hw
  exact ⟨⟨s0, s1, s2, s3, s4⟩, rfl, trivial⟩

set_option maxRecDepth 100000 in
theorem post_fields0 {H : Type} {enc : TypeId × Value → H} {W : World} {fuel : Nat} {cs : List Value} {y : DataW H × List MemPlace} (h : DataW.trod enc Try.prog W 0 (fun _ => true) true fuel 95 cs = some y) (hw : ∀ n, n ∈ DataW.weights Try.prog 95 y.1 → n ≤ reachBytes) :
    ∃ (s0 : ByteArray) (a1 : Option Addr) (n1 c1 : Nat) (l1 : List _), cs = [.string s0, .slice a1 n1 c1] ∧ s0.size ≤ 140737488355328 ∧ VecAt (IntS) W a1 n1 c1 l1 ∧ True := by
  obtain ⟨xs, n, _, hy, hcl, hxl, hfld⟩ := DataW.trod_struct Try.underlying95 h
  rw [show Try.prog.cellsOf 95 = 2 from by kernel_rfl] at hcl
  have hxl2 : xs.length = 2 := hxl
  match cs, xs, hcl, hxl2 with
  | [v0, v1], [p0, p1], _, _ =>
    have t0 : DataW.trod enc Try.prog W 0 (fun _ => true) true n 9 (List.take (Try.prog.cellsOf 9) (List.drop 0 [v0, v1])) = [p0, p1][0]? := hfld 0 _ rfl
    rw [show Try.prog.cellsOf 9 = 1 from by kernel_rfl] at t0
    obtain ⟨s0, hs0, hx0, _⟩ := DataW.trod_string Try.underlying9 (show DataW.trod enc Try.prog W 0 (fun _ => true) true n 9 [v0] = some p0 from by simpa using t0)
    have e0 : v0 = .string s0 := by simpa using hs0
    have t1 : DataW.trod enc Try.prog W 0 (fun _ => true) true n 93 (List.take (Try.prog.cellsOf 93) (List.drop 1 [v0, v1])) = [p0, p1][1]? := hfld 1 _ rfl
    rw [show Try.prog.cellsOf 93 = 1 from by kernel_rfl] at t1
    have t1' : DataW.trod enc Try.prog W 0 (fun _ => true) true n 93 [v1] = some p1 := by simpa using t1
    subst e0
    have hy1 : y.1 = .agg [p0.1, p1.1] := by rw [hy]; rfl
    have hr := reachBytes_lt
    have w0 := hw s0.data.toList.length (by rw [hy1, hx0]; simp [DataW.weights, DataW.weightsEach, Try.underlying95])
    have w1 : ∀ m, m ∈ DataW.weights Try.prog 93 p1.1 → m ≤ reachBytes := fun m hm => hw m (by rw [hy1]; simp [DataW.weights, DataW.weightsEach, Try.underlying95, hm])
    have hv1 : ∃ a len cap, v1 = .slice a len cap := by
      rcases open_slice Try.underlying93 t1' with ⟨hcs, _⟩ | ⟨x0, l, c, m, n, D, Pl, hcs, _⟩
      · simp at hcs; exact ⟨_, _, _, hcs⟩
      · simp at hcs; exact ⟨_, _, _, hcs⟩
    obtain ⟨a1, len1, cap1, rfl⟩ := hv1
    obtain ⟨z1, hz1⟩ := open_vec (IntS) Try.underlying93 (by kernel_rfl) (fun _ _ _ g1 g2 => int_field g1 g2) t1' w1
    exact ⟨s0, a1, len1, cap1, z1, rfl, (by simp at w0; omega), hz1, trivial⟩

theorem post_fields {H : Type} {enc : TypeId × Value → H} {W : World} {fuel : Nat} {cs : List Value} {y : DataW H × List MemPlace} (h : DataW.trod enc Try.prog W 0 (fun _ => true) true fuel 95 cs = some y) (hw : ∀ n, n ∈ DataW.weights Try.prog 95 y.1 → n ≤ reachBytes) :
    ∃ r : PostV, cs = PostS.f r ∧ PostS.ok W r := by
  obtain ⟨s0, a, n, c, l, rfl, h1, h2, _⟩ := post_fields0 h hw
  exact ⟨⟨s0, a, n, c, l⟩, rfl, h1, h2⟩
theorem open_spans {H : Type} {enc : TypeId × Value → H} {W : World} {fuel : Nat} {a : Option Addr} {len cap : Nat} {x : DataW H × List MemPlace} (hf : DataW.trod enc Try.prog W 0 (fun _ => true) true fuel 81 [.slice a len cap] = some x) (hw : ∀ n, n ∈ DataW.weights Try.prog 81 x.1 → n ≤ reachBytes) : ∃ l, VecAt SpanS W a len cap l :=
  open_vec SpanS Try.underlying81 (by kernel_rfl) (fun _ _ _ g1 g2 => span_fields g1 g2) hf hw
theorem open_posts {H : Type} {enc : TypeId × Value → H} {W : World} {fuel : Nat} {a : Option Addr} {len cap : Nat} {x : DataW H × List MemPlace} (hf : DataW.trod enc Try.prog W 0 (fun _ => true) true fuel 82 [.slice a len cap] = some x) (hw : ∀ n, n ∈ DataW.weights Try.prog 82 x.1 → n ≤ reachBytes) : ∃ l, VecAt PostS W a len cap l :=
  open_vec PostS Try.underlying82 (by kernel_rfl) (fun _ _ _ g1 g2 => post_fields g1 g2) hf hw

set_option maxRecDepth 100000 in
theorem ent_fields0 {H : Type} {enc : TypeId × Value → H} {W : World} {fuel : Nat} {cs : List Value} {y : DataW H × List MemPlace} (h : DataW.trod enc Try.prog W 0 (fun _ => true) true fuel 85 cs = some y) (hw : ∀ n, n ∈ DataW.weights Try.prog 85 y.1 → n ≤ reachBytes) :
    ∃ (s0 : ByteArray) (s1 : Int) (s2 : ByteArray) (s3 : Int) (s4 : Int) (s5 : Int) (s6 : Int) (s7 : Int) (s8 : Int), cs = [.string s0, .int .i64 s1, .string s2, .int .i64 s3, .int .i64 s4, .int .i64 s5, .int .i64 s6, .int .u32 s7, .int .i64 s8] ∧ s0.size ≤ 140737488355328 ∧ (Lit.int .i64 s1).wf = true ∧ s2.size ≤ 140737488355328 ∧ (Lit.int .i64 s3).wf = true ∧ (Lit.int .i64 s4).wf = true ∧ (Lit.int .i64 s5).wf = true ∧ (Lit.int .i64 s6).wf = true ∧ (Lit.int .u32 s7).wf = true ∧ (Lit.int .i64 s8).wf = true ∧ True := by
  obtain ⟨xs, n, _, hy, hcl, hxl, hfld⟩ := DataW.trod_struct Try.underlying85 h
  rw [show Try.prog.cellsOf 85 = 9 from by kernel_rfl] at hcl
  have hxl2 : xs.length = 9 := hxl
  match cs, xs, hcl, hxl2 with
  | [v0, v1, v2, v3, v4, v5, v6, v7, v8], [p0, p1, p2, p3, p4, p5, p6, p7, p8], _, _ =>
    have t0 : DataW.trod enc Try.prog W 0 (fun _ => true) true n 9 (List.take (Try.prog.cellsOf 9) (List.drop 0 [v0, v1, v2, v3, v4, v5, v6, v7, v8])) = [p0, p1, p2, p3, p4, p5, p6, p7, p8][0]? := hfld 0 _ rfl
    rw [show Try.prog.cellsOf 9 = 1 from by kernel_rfl] at t0
    obtain ⟨s0, hs0, hx0, _⟩ := DataW.trod_string Try.underlying9 (show DataW.trod enc Try.prog W 0 (fun _ => true) true n 9 [v0] = some p0 from by simpa using t0)
    have e0 : v0 = .string s0 := by simpa using hs0
    have t1 : DataW.trod enc Try.prog W 0 (fun _ => true) true n 3 (List.take (Try.prog.cellsOf 3) (List.drop 1 [v0, v1, v2, v3, v4, v5, v6, v7, v8])) = [p0, p1, p2, p3, p4, p5, p6, p7, p8][1]? := hfld 1 _ rfl
    rw [show Try.prog.cellsOf 3 = 1 from by kernel_rfl] at t1
    obtain ⟨s1, hs1, hx1, hw1⟩ := DataW.trod_int Try.underlying3 (show DataW.trod enc Try.prog W 0 (fun _ => true) true n 3 [v1] = some p1 from by simpa using t1)
    have e1 : v1 = .int .i64 s1 := by simpa using hs1
    have t2 : DataW.trod enc Try.prog W 0 (fun _ => true) true n 9 (List.take (Try.prog.cellsOf 9) (List.drop 2 [v0, v1, v2, v3, v4, v5, v6, v7, v8])) = [p0, p1, p2, p3, p4, p5, p6, p7, p8][2]? := hfld 2 _ rfl
    rw [show Try.prog.cellsOf 9 = 1 from by kernel_rfl] at t2
    obtain ⟨s2, hs2, hx2, _⟩ := DataW.trod_string Try.underlying9 (show DataW.trod enc Try.prog W 0 (fun _ => true) true n 9 [v2] = some p2 from by simpa using t2)
    have e2 : v2 = .string s2 := by simpa using hs2
    have t3 : DataW.trod enc Try.prog W 0 (fun _ => true) true n 3 (List.take (Try.prog.cellsOf 3) (List.drop 3 [v0, v1, v2, v3, v4, v5, v6, v7, v8])) = [p0, p1, p2, p3, p4, p5, p6, p7, p8][3]? := hfld 3 _ rfl
    rw [show Try.prog.cellsOf 3 = 1 from by kernel_rfl] at t3
    obtain ⟨s3, hs3, hx3, hw3⟩ := DataW.trod_int Try.underlying3 (show DataW.trod enc Try.prog W 0 (fun _ => true) true n 3 [v3] = some p3 from by simpa using t3)
    have e3 : v3 = .int .i64 s3 := by simpa using hs3
    have t4 : DataW.trod enc Try.prog W 0 (fun _ => true) true n 3 (List.take (Try.prog.cellsOf 3) (List.drop 4 [v0, v1, v2, v3, v4, v5, v6, v7, v8])) = [p0, p1, p2, p3, p4, p5, p6, p7, p8][4]? := hfld 4 _ rfl
    rw [show Try.prog.cellsOf 3 = 1 from by kernel_rfl] at t4
    obtain ⟨s4, hs4, hx4, hw4⟩ := DataW.trod_int Try.underlying3 (show DataW.trod enc Try.prog W 0 (fun _ => true) true n 3 [v4] = some p4 from by simpa using t4)
    have e4 : v4 = .int .i64 s4 := by simpa using hs4
    have t5 : DataW.trod enc Try.prog W 0 (fun _ => true) true n 3 (List.take (Try.prog.cellsOf 3) (List.drop 5 [v0, v1, v2, v3, v4, v5, v6, v7, v8])) = [p0, p1, p2, p3, p4, p5, p6, p7, p8][5]? := hfld 5 _ rfl
    rw [show Try.prog.cellsOf 3 = 1 from by kernel_rfl] at t5
    obtain ⟨s5, hs5, hx5, hw5⟩ := DataW.trod_int Try.underlying3 (show DataW.trod enc Try.prog W 0 (fun _ => true) true n 3 [v5] = some p5 from by simpa using t5)
    have e5 : v5 = .int .i64 s5 := by simpa using hs5
    have t6 : DataW.trod enc Try.prog W 0 (fun _ => true) true n 3 (List.take (Try.prog.cellsOf 3) (List.drop 6 [v0, v1, v2, v3, v4, v5, v6, v7, v8])) = [p0, p1, p2, p3, p4, p5, p6, p7, p8][6]? := hfld 6 _ rfl
    rw [show Try.prog.cellsOf 3 = 1 from by kernel_rfl] at t6
    obtain ⟨s6, hs6, hx6, hw6⟩ := DataW.trod_int Try.underlying3 (show DataW.trod enc Try.prog W 0 (fun _ => true) true n 3 [v6] = some p6 from by simpa using t6)
    have e6 : v6 = .int .i64 s6 := by simpa using hs6
    have t7 : DataW.trod enc Try.prog W 0 (fun _ => true) true n 83 (List.take (Try.prog.cellsOf 83) (List.drop 7 [v0, v1, v2, v3, v4, v5, v6, v7, v8])) = [p0, p1, p2, p3, p4, p5, p6, p7, p8][7]? := hfld 7 _ rfl
    rw [show Try.prog.cellsOf 83 = 1 from by kernel_rfl] at t7
    obtain ⟨s7, hs7, hx7, hw7⟩ := DataW.trod_int Try.underlying83 (show DataW.trod enc Try.prog W 0 (fun _ => true) true n 83 [v7] = some p7 from by simpa using t7)
    have e7 : v7 = .int .u32 s7 := by simpa using hs7
    have t8 : DataW.trod enc Try.prog W 0 (fun _ => true) true n 3 (List.take (Try.prog.cellsOf 3) (List.drop 8 [v0, v1, v2, v3, v4, v5, v6, v7, v8])) = [p0, p1, p2, p3, p4, p5, p6, p7, p8][8]? := hfld 8 _ rfl
    rw [show Try.prog.cellsOf 3 = 1 from by kernel_rfl] at t8
    obtain ⟨s8, hs8, hx8, hw8⟩ := DataW.trod_int Try.underlying3 (show DataW.trod enc Try.prog W 0 (fun _ => true) true n 3 [v8] = some p8 from by simpa using t8)
    have e8 : v8 = .int .i64 s8 := by simpa using hs8
    subst e0 e1 e2 e3 e4 e5 e6 e7 e8
    have hy1 : y.1 = .agg [p0.1, p1.1, p2.1, p3.1, p4.1, p5.1, p6.1, p7.1, p8.1] := by rw [hy]; rfl
    have hr := reachBytes_lt
    have w0 := hw s0.data.toList.length (by rw [hy1, hx0]; simp [DataW.weights, DataW.weightsEach, Try.underlying85])
    have w2 := hw s2.data.toList.length (by rw [hy1, hx2]; simp [DataW.weights, DataW.weightsEach, Try.underlying85])
    exact ⟨s0, s1, s2, s3, s4, s5, s6, s7, s8, rfl, (by simp at w0; omega), hw1, (by simp at w2; omega), hw3, hw4, hw5, hw6, hw7, hw8, trivial⟩

/-- an entry that came in -/
theorem open_entry {H : Type} {enc : TypeId × Value → H} {W : World} {fuel : Nat} {cs : Array Value} {x : DataW H × List MemPlace}
    (hf : DataW.trod enc Try.prog W 0 (fun _ => true) true fuel 85 cs.toList = some x) (hw : ∀ n, n ∈ DataW.weights Try.prog 85 x.1 → n ≤ reachBytes) :
    ∃ (s0 : ByteArray) (s1 : Int) (s2 : ByteArray) (s3 s4 s5 s6 s7 s8 : Int), cs = #[.string s0, .int .i64 s1, .string s2, .int .i64 s3, .int .i64 s4, .int .i64 s5, .int .i64 s6, .int .u32 s7, .int .i64 s8] ∧ s0.size ≤ 140737488355328 ∧ s2.size ≤ 140737488355328 := by
  obtain ⟨s0, s1, s2, s3, s4, s5, s6, s7, s8, hcs, h0, _, h2, _⟩ := ent_fields0 hf hw
  exact ⟨s0, s1, s2, s3, s4, s5, s6, s7, s8, by rw [← Array.toList_inj, hcs], h0, h2⟩

end Go.Proofs.Ytjbljplgkbnpmaa
