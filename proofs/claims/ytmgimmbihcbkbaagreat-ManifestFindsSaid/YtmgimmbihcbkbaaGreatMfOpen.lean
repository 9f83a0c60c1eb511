/- Manifests and owners, opened as a law's arguments. Written by genmfopen.py. -/
import Derived.Test.YtmgimmbihcbkbaaGreatMfA
import Derived.Deep.Slices
import Derived.Deep.Fields
import Derived.SizedLaws
import Derived.OpenShut
namespace Go.Proofs.YtmgimmbihcbkbaaGreat
open Go.ChangeShapes Go.WideShapes Go.Deep Go.RowKit LabPlain
set_option linter.unusedVariables false

set_option maxRecDepth 100000 in
theorem mkr_fields0 {H : Type} {enc : TypeId × Value → H} {W : World} {fuel : Nat} {cs : List Value} {y : DataW H × List MemPlace} (h : DataW.trod enc Tryz.prog W 0 (fun _ => true) true fuel 44 cs = some y) (hw : ∀ n, n ∈ DataW.weights Tryz.prog 44 y.1 → n ≤ reachBytes) :
    ∃ (s0 : Int) (s1 : Int), cs = [.int .i64 s0, .int .i64 s1] ∧ (Lit.int .i64 s0).wf = true ∧ (Lit.int .i64 s1).wf = true ∧ True := by
  obtain ⟨xs, n, _, hy, hcl, hxl, hfld⟩ := DataW.trod_struct Tryz.underlying44 h
  rw [show Tryz.prog.cellsOf 44 = 2 from by kernel_rfl] at hcl
  have hxl2 : xs.length = 2 := hxl
  match cs, xs, hcl, hxl2 with
  | [v0, v1], [p0, p1], _, _ =>
    have t0 : DataW.trod enc Tryz.prog W 0 (fun _ => true) true n 3 (List.take (Tryz.prog.cellsOf 3) (List.drop 0 [v0, v1])) = [p0, p1][0]? := hfld 0 _ rfl
    rw [show Tryz.prog.cellsOf 3 = 1 from by kernel_rfl] at t0
    obtain ⟨s0, hs0, hx0, hw0⟩ := DataW.trod_int Tryz.underlying3 (show DataW.trod enc Tryz.prog W 0 (fun _ => true) true n 3 [v0] = some p0 from by simpa using t0)
    have e0 : v0 = .int .i64 s0 := by simpa using hs0
    have t1 : DataW.trod enc Tryz.prog W 0 (fun _ => true) true n 3 (List.take (Tryz.prog.cellsOf 3) (List.drop 1 [v0, v1])) = [p0, p1][1]? := hfld 1 _ rfl
    rw [show Tryz.prog.cellsOf 3 = 1 from by kernel_rfl] at t1
    obtain ⟨s1, hs1, hx1, hw1⟩ := DataW.trod_int Tryz.underlying3 (show DataW.trod enc Tryz.prog W 0 (fun _ => true) true n 3 [v1] = some p1 from by simpa using t1)
    have e1 : v1 = .int .i64 s1 := by simpa using hs1
    subst e0 e1
    have hy1 : y.1 = .agg [p0.1, p1.1] := by rw [hy]; rfl
    have hr := reachBytes_lt
    exact ⟨s0, s1, rfl, hw0, hw1, trivial⟩

theorem mkr_fields {H : Type} {enc : TypeId × Value → H} {W : World} {fuel : Nat} {cs : List Value} {y : DataW H × List MemPlace} (h : DataW.trod enc Tryz.prog W 0 (fun _ => true) true fuel 44 cs = some y) (hw : ∀ n, n ∈ DataW.weights Tryz.prog 44 y.1 → n ≤ reachBytes) :
    ∃ r : (Int × Int), cs = MarkS.f r ∧ MarkS.ok W r := by
  obtain ⟨s0, s1, rfl, _⟩ := mkr_fields0 h hw
  exact ⟨(s0, s1), rfl, trivial⟩

set_option maxRecDepth 100000 in
theorem own_fields0 {H : Type} {enc : TypeId × Value → H} {W : World} {fuel : Nat} {cs : List Value} {y : DataW H × List MemPlace} (h : DataW.trod enc Tryz.prog W 0 (fun _ => true) true fuel 28 cs = some y) (hw : ∀ n, n ∈ DataW.weights Tryz.prog 28 y.1 → n ≤ reachBytes) :
    ∃ (s0 : Int) (s1 : Int) (s2 : Int), cs = [.int .i64 s0, .int .i64 s1, .int .i64 s2] ∧ (Lit.int .i64 s0).wf = true ∧ (Lit.int .i64 s1).wf = true ∧ (Lit.int .i64 s2).wf = true ∧ True := by
  obtain ⟨xs, n, _, hy, hcl, hxl, hfld⟩ := DataW.trod_struct Tryz.underlying28 h
  rw [show Tryz.prog.cellsOf 28 = 3 from by kernel_rfl] at hcl
  have hxl2 : xs.length = 3 := hxl
  match cs, xs, hcl, hxl2 with
  | [v0, v1, v2], [p0, p1, p2], _, _ =>
    have t0 : DataW.trod enc Tryz.prog W 0 (fun _ => true) true n 3 (List.take (Tryz.prog.cellsOf 3) (List.drop 0 [v0, v1, v2])) = [p0, p1, p2][0]? := hfld 0 _ rfl
    rw [show Tryz.prog.cellsOf 3 = 1 from by kernel_rfl] at t0
    obtain ⟨s0, hs0, hx0, hw0⟩ := DataW.trod_int Tryz.underlying3 (show DataW.trod enc Tryz.prog W 0 (fun _ => true) true n 3 [v0] = some p0 from by simpa using t0)
    have e0 : v0 = .int .i64 s0 := by simpa using hs0
    have t1 : DataW.trod enc Tryz.prog W 0 (fun _ => true) true n 3 (List.take (Tryz.prog.cellsOf 3) (List.drop 1 [v0, v1, v2])) = [p0, p1, p2][1]? := hfld 1 _ rfl
    rw [show Tryz.prog.cellsOf 3 = 1 from by kernel_rfl] at t1
    obtain ⟨s1, hs1, hx1, hw1⟩ := DataW.trod_int Tryz.underlying3 (show DataW.trod enc Tryz.prog W 0 (fun _ => true) true n 3 [v1] = some p1 from by simpa using t1)
    have e1 : v1 = .int .i64 s1 := by simpa using hs1
    have t2 : DataW.trod enc Tryz.prog W 0 (fun _ => true) true n 3 (List.take (Tryz.prog.cellsOf 3) (List.drop 2 [v0, v1, v2])) = [p0, p1, p2][2]? := hfld 2 _ rfl
    rw [show Tryz.prog.cellsOf 3 = 1 from by kernel_rfl] at t2
    obtain ⟨s2, hs2, hx2, hw2⟩ := DataW.trod_int Tryz.underlying3 (show DataW.trod enc Tryz.prog W 0 (fun _ => true) true n 3 [v2] = some p2 from by simpa using t2)
    have e2 : v2 = .int .i64 s2 := by simpa using hs2
    subst e0 e1 e2
    have hy1 : y.1 = .agg [p0.1, p1.1, p2.1] := by rw [hy]; rfl
    have hr := reachBytes_lt
    exact ⟨s0, s1, s2, rfl, hw0, hw1, hw2, trivial⟩

theorem own_fields {H : Type} {enc : TypeId × Value → H} {W : World} {fuel : Nat} {cs : List Value} {y : DataW H × List MemPlace} (h : DataW.trod enc Tryz.prog W 0 (fun _ => true) true fuel 28 cs = some y) (hw : ∀ n, n ∈ DataW.weights Tryz.prog 28 y.1 → n ≤ reachBytes) :
    ∃ r : (Int × Int × Int), cs = OwnS.f r ∧ OwnS.ok W r := by
  obtain ⟨s0, s1, s2, rfl, _⟩ := own_fields0 h hw
  exact ⟨(s0, s1, s2), rfl, trivial⟩

set_option maxRecDepth 100000 in
theorem enr_fields0 {H : Type} {enc : TypeId × Value → H} {W : World} {fuel : Nat} {cs : List Value} {y : DataW H × List MemPlace} (h : DataW.trod enc Tryz.prog W 0 (fun _ => true) true fuel 33 cs = some y) (hw : ∀ n, n ∈ DataW.weights Tryz.prog 33 y.1 → n ≤ reachBytes) :
    ∃ (s0 : ByteArray) (s1 : Int) (s2 : ByteArray) (s3 : Int) (s4 : Int) (s5 : Int) (s6 : Int) (s7 : Int) (s8 : Int), cs = [.string s0, .int .i64 s1, .string s2, .int .i64 s3, .int .i64 s4, .int .i64 s5, .int .i64 s6, .int .u32 s7, .int .i64 s8] ∧ s0.size ≤ 140737488355328 ∧ (Lit.int .i64 s1).wf = true ∧ s2.size ≤ 140737488355328 ∧ (Lit.int .i64 s3).wf = true ∧ (Lit.int .i64 s4).wf = true ∧ (Lit.int .i64 s5).wf = true ∧ (Lit.int .i64 s6).wf = true ∧ (Lit.int .u32 s7).wf = true ∧ (Lit.int .i64 s8).wf = true ∧ True := by
  obtain ⟨xs, n, _, hy, hcl, hxl, hfld⟩ := DataW.trod_struct Tryz.underlying33 h
  rw [show Tryz.prog.cellsOf 33 = 9 from by kernel_rfl] at hcl
  have hxl2 : xs.length = 9 := hxl
  match cs, xs, hcl, hxl2 with
  | [v0, v1, v2, v3, v4, v5, v6, v7, v8], [p0, p1, p2, p3, p4, p5, p6, p7, p8], _, _ =>
    have t0 : DataW.trod enc Tryz.prog W 0 (fun _ => true) true n 9 (List.take (Tryz.prog.cellsOf 9) (List.drop 0 [v0, v1, v2, v3, v4, v5, v6, v7, v8])) = [p0, p1, p2, p3, p4, p5, p6, p7, p8][0]? := hfld 0 _ rfl
    rw [show Tryz.prog.cellsOf 9 = 1 from by kernel_rfl] at t0
    obtain ⟨s0, hs0, hx0, _⟩ := DataW.trod_string Tryz.underlying9 (show DataW.trod enc Tryz.prog W 0 (fun _ => true) true n 9 [v0] = some p0 from by simpa using t0)
    have e0 : v0 = .string s0 := by simpa using hs0
    have t1 : DataW.trod enc Tryz.prog W 0 (fun _ => true) true n 3 (List.take (Tryz.prog.cellsOf 3) (List.drop 1 [v0, v1, v2, v3, v4, v5, v6, v7, v8])) = [p0, p1, p2, p3, p4, p5, p6, p7, p8][1]? := hfld 1 _ rfl
    rw [show Tryz.prog.cellsOf 3 = 1 from by kernel_rfl] at t1
    obtain ⟨s1, hs1, hx1, hw1⟩ := DataW.trod_int Tryz.underlying3 (show DataW.trod enc Tryz.prog W 0 (fun _ => true) true n 3 [v1] = some p1 from by simpa using t1)
    have e1 : v1 = .int .i64 s1 := by simpa using hs1
    have t2 : DataW.trod enc Tryz.prog W 0 (fun _ => true) true n 9 (List.take (Tryz.prog.cellsOf 9) (List.drop 2 [v0, v1, v2, v3, v4, v5, v6, v7, v8])) = [p0, p1, p2, p3, p4, p5, p6, p7, p8][2]? := hfld 2 _ rfl
    rw [show Tryz.prog.cellsOf 9 = 1 from by kernel_rfl] at t2
    obtain ⟨s2, hs2, hx2, _⟩ := DataW.trod_string Tryz.underlying9 (show DataW.trod enc Tryz.prog W 0 (fun _ => true) true n 9 [v2] = some p2 from by simpa using t2)
    have e2 : v2 = .string s2 := by simpa using hs2
    have t3 : DataW.trod enc Tryz.prog W 0 (fun _ => true) true n 3 (List.take (Tryz.prog.cellsOf 3) (List.drop 3 [v0, v1, v2, v3, v4, v5, v6, v7, v8])) = [p0, p1, p2, p3, p4, p5, p6, p7, p8][3]? := hfld 3 _ rfl
    rw [show Tryz.prog.cellsOf 3 = 1 from by kernel_rfl] at t3
    obtain ⟨s3, hs3, hx3, hw3⟩ := DataW.trod_int Tryz.underlying3 (show DataW.trod enc Tryz.prog W 0 (fun _ => true) true n 3 [v3] = some p3 from by simpa using t3)
    have e3 : v3 = .int .i64 s3 := by simpa using hs3
    have t4 : DataW.trod enc Tryz.prog W 0 (fun _ => true) true n 3 (List.take (Tryz.prog.cellsOf 3) (List.drop 4 [v0, v1, v2, v3, v4, v5, v6, v7, v8])) = [p0, p1, p2, p3, p4, p5, p6, p7, p8][4]? := hfld 4 _ rfl
    rw [show Tryz.prog.cellsOf 3 = 1 from by kernel_rfl] at t4
    obtain ⟨s4, hs4, hx4, hw4⟩ := DataW.trod_int Tryz.underlying3 (show DataW.trod enc Tryz.prog W 0 (fun _ => true) true n 3 [v4] = some p4 from by simpa using t4)
    have e4 : v4 = .int .i64 s4 := by simpa using hs4
    have t5 : DataW.trod enc Tryz.prog W 0 (fun _ => true) true n 3 (List.take (Tryz.prog.cellsOf 3) (List.drop 5 [v0, v1, v2, v3, v4, v5, v6, v7, v8])) = [p0, p1, p2, p3, p4, p5, p6, p7, p8][5]? := hfld 5 _ rfl
    rw [show Tryz.prog.cellsOf 3 = 1 from by kernel_rfl] at t5
    obtain ⟨s5, hs5, hx5, hw5⟩ := DataW.trod_int Tryz.underlying3 (show DataW.trod enc Tryz.prog W 0 (fun _ => true) true n 3 [v5] = some p5 from by simpa using t5)
    have e5 : v5 = .int .i64 s5 := by simpa using hs5
    have t6 : DataW.trod enc Tryz.prog W 0 (fun _ => true) true n 3 (List.take (Tryz.prog.cellsOf 3) (List.drop 6 [v0, v1, v2, v3, v4, v5, v6, v7, v8])) = [p0, p1, p2, p3, p4, p5, p6, p7, p8][6]? := hfld 6 _ rfl
    rw [show Tryz.prog.cellsOf 3 = 1 from by kernel_rfl] at t6
    obtain ⟨s6, hs6, hx6, hw6⟩ := DataW.trod_int Tryz.underlying3 (show DataW.trod enc Tryz.prog W 0 (fun _ => true) true n 3 [v6] = some p6 from by simpa using t6)
    have e6 : v6 = .int .i64 s6 := by simpa using hs6
    have t7 : DataW.trod enc Tryz.prog W 0 (fun _ => true) true n 31 (List.take (Tryz.prog.cellsOf 31) (List.drop 7 [v0, v1, v2, v3, v4, v5, v6, v7, v8])) = [p0, p1, p2, p3, p4, p5, p6, p7, p8][7]? := hfld 7 _ rfl
    rw [show Tryz.prog.cellsOf 31 = 1 from by kernel_rfl] at t7
    obtain ⟨s7, hs7, hx7, hw7⟩ := DataW.trod_int Tryz.underlying31 (show DataW.trod enc Tryz.prog W 0 (fun _ => true) true n 31 [v7] = some p7 from by simpa using t7)
    have e7 : v7 = .int .u32 s7 := by simpa using hs7
    have t8 : DataW.trod enc Tryz.prog W 0 (fun _ => true) true n 3 (List.take (Tryz.prog.cellsOf 3) (List.drop 8 [v0, v1, v2, v3, v4, v5, v6, v7, v8])) = [p0, p1, p2, p3, p4, p5, p6, p7, p8][8]? := hfld 8 _ rfl
    rw [show Tryz.prog.cellsOf 3 = 1 from by kernel_rfl] at t8
    obtain ⟨s8, hs8, hx8, hw8⟩ := DataW.trod_int Tryz.underlying3 (show DataW.trod enc Tryz.prog W 0 (fun _ => true) true n 3 [v8] = some p8 from by simpa using t8)
    have e8 : v8 = .int .i64 s8 := by simpa using hs8
    subst e0 e1 e2 e3 e4 e5 e6 e7 e8
    have hy1 : y.1 = .agg [p0.1, p1.1, p2.1, p3.1, p4.1, p5.1, p6.1, p7.1, p8.1] := by rw [hy]; rfl
    have hr := reachBytes_lt
    have w0 := hw s0.data.toList.length (by rw [hy1, hx0]; simp [DataW.weights, DataW.weightsEach, Tryz.underlying33])
    have w2 := hw s2.data.toList.length (by rw [hy1, hx2]; simp [DataW.weights, DataW.weightsEach, Tryz.underlying33])
    exact ⟨s0, s1, s2, s3, s4, s5, s6, s7, s8, rfl, (by simp at w0; omega), hw1, (by simp at w2; omega), hw3, hw4, hw5, hw6, hw7, hw8, trivial⟩

theorem enr_fields {H : Type} {enc : TypeId × Value → H} {W : World} {fuel : Nat} {cs : List Value} {y : DataW H × List MemPlace} (h : DataW.trod enc Tryz.prog W 0 (fun _ => true) true fuel 33 cs = some y) (hw : ∀ n, n ∈ DataW.weights Tryz.prog 33 y.1 → n ≤ reachBytes) :
    ∃ r : EntV, cs = EntS.f r ∧ EntS.ok W r := by
  obtain ⟨s0, s1, s2, s3, s4, s5, s6, s7, s8, rfl, h0, _, h2, _⟩ := enr_fields0 h hw
  exact ⟨⟨s0, s1, s2, s3, s4, s5, s6, s7, s8⟩, rfl, ⟨h0, h2⟩⟩

set_option maxRecDepth 100000 in
theorem man_fields0 {H : Type} {enc : TypeId × Value → H} {W : World} {fuel : Nat} {cs : List Value} {y : DataW H × List MemPlace} (h : DataW.trod enc Tryz.prog W 0 (fun _ => true) true fuel 26 cs = some y) (hw : ∀ n, n ∈ DataW.weights Tryz.prog 26 y.1 → n ≤ reachBytes) :
    ∃ (s0 : Int) (s1 : Int) (s2 : Int) (a3 : Option Addr) (n3 c3 : Nat) (l3 : List _) (a4 : Option Addr) (n4 c4 : Nat) (l4 : List _) (a5 : Option Addr) (n5 c5 : Nat) (l5 : List _), cs = [.int .i64 s0, .int .i64 s1, .int .i64 s2, .slice a3 n3 c3, .slice a4 n4 c4, .slice a5 n5 c5] ∧ (Lit.int .i64 s0).wf = true ∧ (Lit.int .i64 s1).wf = true ∧ (Lit.int .i64 s2).wf = true ∧ VecAt (EntS) W a3 n3 c3 l3 ∧ VecAt (MarkS) W a4 n4 c4 l4 ∧ VecAt (OwnS) W a5 n5 c5 l5 ∧ True := by
  obtain ⟨xs, n, _, hy, hcl, hxl, hfld⟩ := DataW.trod_struct Tryz.underlying26 h
  rw [show Tryz.prog.cellsOf 26 = 6 from by kernel_rfl] at hcl
  have hxl2 : xs.length = 6 := hxl
  match cs, xs, hcl, hxl2 with
  | [v0, v1, v2, v3, v4, v5], [p0, p1, p2, p3, p4, p5], _, _ =>
    have t0 : DataW.trod enc Tryz.prog W 0 (fun _ => true) true n 3 (List.take (Tryz.prog.cellsOf 3) (List.drop 0 [v0, v1, v2, v3, v4, v5])) = [p0, p1, p2, p3, p4, p5][0]? := hfld 0 _ rfl
    rw [show Tryz.prog.cellsOf 3 = 1 from by kernel_rfl] at t0
    obtain ⟨s0, hs0, hx0, hw0⟩ := DataW.trod_int Tryz.underlying3 (show DataW.trod enc Tryz.prog W 0 (fun _ => true) true n 3 [v0] = some p0 from by simpa using t0)
    have e0 : v0 = .int .i64 s0 := by simpa using hs0
    have t1 : DataW.trod enc Tryz.prog W 0 (fun _ => true) true n 3 (List.take (Tryz.prog.cellsOf 3) (List.drop 1 [v0, v1, v2, v3, v4, v5])) = [p0, p1, p2, p3, p4, p5][1]? := hfld 1 _ rfl
    rw [show Tryz.prog.cellsOf 3 = 1 from by kernel_rfl] at t1
    obtain ⟨s1, hs1, hx1, hw1⟩ := DataW.trod_int Tryz.underlying3 (show DataW.trod enc Tryz.prog W 0 (fun _ => true) true n 3 [v1] = some p1 from by simpa using t1)
    have e1 : v1 = .int .i64 s1 := by simpa using hs1
    have t2 : DataW.trod enc Tryz.prog W 0 (fun _ => true) true n 3 (List.take (Tryz.prog.cellsOf 3) (List.drop 2 [v0, v1, v2, v3, v4, v5])) = [p0, p1, p2, p3, p4, p5][2]? := hfld 2 _ rfl
    rw [show Tryz.prog.cellsOf 3 = 1 from by kernel_rfl] at t2
    obtain ⟨s2, hs2, hx2, hw2⟩ := DataW.trod_int Tryz.underlying3 (show DataW.trod enc Tryz.prog W 0 (fun _ => true) true n 3 [v2] = some p2 from by simpa using t2)
    have e2 : v2 = .int .i64 s2 := by simpa using hs2
    have t3 : DataW.trod enc Tryz.prog W 0 (fun _ => true) true n 22 (List.take (Tryz.prog.cellsOf 22) (List.drop 3 [v0, v1, v2, v3, v4, v5])) = [p0, p1, p2, p3, p4, p5][3]? := hfld 3 _ rfl
    rw [show Tryz.prog.cellsOf 22 = 1 from by kernel_rfl] at t3
    have t3' : DataW.trod enc Tryz.prog W 0 (fun _ => true) true n 22 [v3] = some p3 := by simpa using t3
    have t4 : DataW.trod enc Tryz.prog W 0 (fun _ => true) true n 23 (List.take (Tryz.prog.cellsOf 23) (List.drop 4 [v0, v1, v2, v3, v4, v5])) = [p0, p1, p2, p3, p4, p5][4]? := hfld 4 _ rfl
    rw [show Tryz.prog.cellsOf 23 = 1 from by kernel_rfl] at t4
    have t4' : DataW.trod enc Tryz.prog W 0 (fun _ => true) true n 23 [v4] = some p4 := by simpa using t4
    have t5 : DataW.trod enc Tryz.prog W 0 (fun _ => true) true n 24 (List.take (Tryz.prog.cellsOf 24) (List.drop 5 [v0, v1, v2, v3, v4, v5])) = [p0, p1, p2, p3, p4, p5][5]? := hfld 5 _ rfl
    rw [show Tryz.prog.cellsOf 24 = 1 from by kernel_rfl] at t5
    have t5' : DataW.trod enc Tryz.prog W 0 (fun _ => true) true n 24 [v5] = some p5 := by simpa using t5
    subst e0 e1 e2
    have hy1 : y.1 = .agg [p0.1, p1.1, p2.1, p3.1, p4.1, p5.1] := by rw [hy]; rfl
    have hr := reachBytes_lt
    have w3 : ∀ m, m ∈ DataW.weights Tryz.prog 22 p3.1 → m ≤ reachBytes := fun m hm => hw m (by rw [hy1]; simp [DataW.weights, DataW.weightsEach, Tryz.underlying26, hm])
    have hv3 : ∃ a len cap, v3 = .slice a len cap := by
      rcases open_slice Tryz.underlying22 t3' with ⟨hcs, _⟩ | ⟨x0, l, c, m, n, D, Pl, hcs, _⟩
      · simp at hcs; exact ⟨_, _, _, hcs⟩
      · simp at hcs; exact ⟨_, _, _, hcs⟩
    obtain ⟨a3, len3, cap3, rfl⟩ := hv3
    obtain ⟨z3, hz3⟩ := open_vec (EntS) Tryz.underlying22 (by kernel_rfl) (fun _ _ _ g1 g2 => enr_fields g1 g2) t3' w3
    have w4 : ∀ m, m ∈ DataW.weights Tryz.prog 23 p4.1 → m ≤ reachBytes := fun m hm => hw m (by rw [hy1]; simp [DataW.weights, DataW.weightsEach, Tryz.underlying26, hm])
    have hv4 : ∃ a len cap, v4 = .slice a len cap := by
      rcases open_slice Tryz.underlying23 t4' with ⟨hcs, _⟩ | ⟨x0, l, c, m, n, D, Pl, hcs, _⟩
      · simp at hcs; exact ⟨_, _, _, hcs⟩
      · simp at hcs; exact ⟨_, _, _, hcs⟩
    obtain ⟨a4, len4, cap4, rfl⟩ := hv4
    obtain ⟨z4, hz4⟩ := open_vec (MarkS) Tryz.underlying23 (by kernel_rfl) (fun _ _ _ g1 g2 => mkr_fields g1 g2) t4' w4
    have w5 : ∀ m, m ∈ DataW.weights Tryz.prog 24 p5.1 → m ≤ reachBytes := fun m hm => hw m (by rw [hy1]; simp [DataW.weights, DataW.weightsEach, Tryz.underlying26, hm])
    have hv5 : ∃ a len cap, v5 = .slice a len cap := by
      rcases open_slice Tryz.underlying24 t5' with ⟨hcs, _⟩ | ⟨x0, l, c, m, n, D, Pl, hcs, _⟩
      · simp at hcs; exact ⟨_, _, _, hcs⟩
      · simp at hcs; exact ⟨_, _, _, hcs⟩
    obtain ⟨a5, len5, cap5, rfl⟩ := hv5
    obtain ⟨z5, hz5⟩ := open_vec (OwnS) Tryz.underlying24 (by kernel_rfl) (fun _ _ _ g1 g2 => own_fields g1 g2) t5' w5
    exact ⟨s0, s1, s2, a3, len3, cap3, z3, a4, len4, cap4, z4, a5, len5, cap5, z5, rfl, hw0, hw1, hw2, hz3, hz4, hz5, trivial⟩

/-- a manifest that came in -/
theorem open_man {H : Type} {enc : TypeId × Value → H} {W : World} {fuel : Nat} {cs : Array Value} {x : DataW H × List MemPlace}
    (hf : DataW.trod enc Tryz.prog W 0 (fun _ => true) true fuel 26 cs.toList = some x) (hw : ∀ n, n ∈ DataW.weights Tryz.prog 26 x.1 → n ≤ reachBytes) :
    ∃ (s0 s1 s2 : Int) (a3 : Option Addr) (n3 c3 : Nat) (l3 : List EntV) (a4 : Option Addr) (n4 c4 : Nat) (l4 : List (Int × Int)) (a5 : Option Addr) (n5 c5 : Nat) (l5 : List (Int × Int × Int)), cs = #[.int .i64 s0, .int .i64 s1, .int .i64 s2, .slice a3 n3 c3, .slice a4 n4 c4, .slice a5 n5 c5] ∧ VecAt EntS W a3 n3 c3 l3 ∧ VecAt MarkS W a4 n4 c4 l4 ∧ VecAt OwnS W a5 n5 c5 l5 := by
  obtain ⟨s0, s1, s2, a3, n3, c3, l3, a4, n4, c4, l4, a5, n5, c5, l5, hcs, _, _, _, h3, h4, h5, _⟩ := man_fields0 hf hw
  exact ⟨s0, s1, s2, a3, n3, c3, l3, a4, n4, c4, l4, a5, n5, c5, l5, by rw [← Array.toList_inj, hcs], h3, h4, h5⟩
/-- an owner that came in -/
theorem open_owner {H : Type} {enc : TypeId × Value → H} {W : World} {fuel : Nat} {cs : Array Value} {x : DataW H × List MemPlace}
    (hf : DataW.trod enc Tryz.prog W 0 (fun _ => true) true fuel 28 cs.toList = some x) (hw : ∀ n, n ∈ DataW.weights Tryz.prog 28 x.1 → n ≤ reachBytes) :
    ∃ (s0 s1 s2 : Int), cs = #[.int .i64 s0, .int .i64 s1, .int .i64 s2] := by
  obtain ⟨s0, s1, s2, hcs, _⟩ := own_fields0 hf hw
  exact ⟨s0, s1, s2, by rw [← Array.toList_inj, hcs]⟩

end Go.Proofs.YtmgimmbihcbkbaaGreat
