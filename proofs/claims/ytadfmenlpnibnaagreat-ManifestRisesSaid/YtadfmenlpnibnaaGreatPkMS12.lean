/- Texts put together by packtpl2.py: MfOpen, ApOpen, ApRs. -/
import Derived.Test.YtadfmenlpnibnaaGreatPkMS1
import Derived.Test.YtadfmenlpnibnaaGreatPkMS4
import Derived.Test.YtadfmenlpnibnaaGreatPkMS10
import Derived.Test.YtadfmenlpnibnaaGreatPkMS11
import Derived.Deep.Slices
import Derived.Deep.Fields
import Derived.SizedLaws
import Derived.OpenShut
import Derived.Laws.StructEq
section PkMS12_0
/- Manifests and owners, opened as a law's arguments. Written by genmfopen.py. -/
namespace Go.Proofs.YtadfmenlpnibnaaGreat
open Go.ChangeShapes Go.WideShapes Go.Deep Go.RowKit LabPlain
set_option linter.unusedVariables false

theorem u32_wfb {n : Int} (h : (Lit.int .u32 n).wf = true) : 0 ≤ n ∧ n ≤ 4294967295 := by
  simpa [Lit.wf, IntKind.min, IntKind.max, IntKind.signed, IntKind.bits] using h

set_option maxRecDepth 100000 in
theorem mkr_fields0 {H : Type} {enc : TypeId × Value → H} {W : World} {fuel : Nat} {cs : List Value} {y : DataW H × List MemPlace} (h : DataW.trod enc Tryz.prog W 0 (fun _ => true) true fuel 44 cs = some y) (hw : ∀ n, n ∈ DataW.weights Tryz.prog 44 y.1 → n ≤ reachBytes) :
    ∃ (s0 : Int) (s1 : Int), cs = [.int .i64 s0, .int .i64 s1] ∧ (Lit.int .i64 s0).wf = true ∧ (Lit.int .i64 s1).wf = true ∧ True := by
  obtain ⟨xs, n, _, hy, hcl, hxl, hfld⟩ := DataW.trod_struct Tryz.underlying44 h
  rw [show Tryz.prog.cellsOf 44 = 2 from by kernel_rfl] at hcl
  have hxl2 : xs.length = 2 := hxl
  match cs, xs, hcl, hxl2 with
  | [v0, v1], [p0, p1], _, _ =>
    have t0 : DataW.trod enc Tryz.prog W 0 (fun _ => true) true n 3 (List.take (Tryz.prog.cellsOf 3) (List.drop 0 [v0, v1])) = [p0, p1][0]? := hfld 0 _ rfl
    rw [show Tryz.prog.cellsOf 3 = 1 from by kernel_rfl] at t0
    obtain ⟨s0, hs0, hx0, hw0⟩ := DataW.trod_int Tryz.underlying3 (show DataW.trod enc Tryz.prog W 0 (fun _ => true) true n 3 [v0] = some p0 from by simpa using t0)
    have e0 : v0 = .int .i64 s0 := by simpa using hs0
    have t1 : DataW.trod enc Tryz.prog W 0 (fun _ => true) true n 3 (List.take (Tryz.prog.cellsOf 3) (List.drop 1 [v0, v1])) = [p0, p1][1]? := hfld 1 _ rfl
    rw [show Tryz.prog.cellsOf 3 = 1 from by kernel_rfl] at t1
    obtain ⟨s1, hs1, hx1, hw1⟩ := DataW.trod_int Tryz.underlying3 (show DataW.trod enc Tryz.prog W 0 (fun _ => true) true n 3 [v1] = some p1 from by simpa using t1)
    have e1 : v1 = .int .i64 s1 := by simpa using hs1
    subst e0 e1
    have hy1 : y.1 = .agg [p0.1, p1.1] := by rw [hy]; rfl
    have hr := reachBytes_lt
    exact ⟨s0, s1, rfl, hw0, hw1, trivial⟩

theorem mkr_fields {H : Type} {enc : TypeId × Value → H} {W : World} {fuel : Nat} {cs : List Value} {y : DataW H × List MemPlace} (h : DataW.trod enc Tryz.prog W 0 (fun _ => true) true fuel 44 cs = some y) (hw : ∀ n, n ∈ DataW.weights Tryz.prog 44 y.1 → n ≤ reachBytes) :
    ∃ r : (Int × Int), cs = MarkS.f r ∧ MarkS.ok W r := by
  obtain ⟨s0, s1, rfl, _⟩ := mkr_fields0 h hw
  exact ⟨(s0, s1), rfl, trivial⟩

set_option maxRecDepth 100000 in
theorem own_fields0 {H : Type} {enc : TypeId × Value → H} {W : World} {fuel : Nat} {cs : List Value} {y : DataW H × List MemPlace} (h : DataW.trod enc Tryz.prog W 0 (fun _ => true) true fuel 29 cs = some y) (hw : ∀ n, n ∈ DataW.weights Tryz.prog 29 y.1 → n ≤ reachBytes) :
    ∃ (s0 : Int) (s1 : Int) (s2 : Int), cs = [.int .i64 s0, .int .i64 s1, .int .i64 s2] ∧ (Lit.int .i64 s0).wf = true ∧ (Lit.int .i64 s1).wf = true ∧ (Lit.int .i64 s2).wf = true ∧ True := by
  obtain ⟨xs, n, _, hy, hcl, hxl, hfld⟩ := DataW.trod_struct Tryz.underlying29 h
  rw [show Tryz.prog.cellsOf 29 = 3 from by kernel_rfl] at hcl
  have hxl2 : xs.length = 3 := hxl
  match cs, xs, hcl, hxl2 with
  | [v0, v1, v2], [p0, p1, p2], _, _ =>
    have t0 : DataW.trod enc Tryz.prog W 0 (fun _ => true) true n 3 (List.take (Tryz.prog.cellsOf 3) (List.drop 0 [v0, v1, v2])) = [p0, p1, p2][0]? := hfld 0 _ rfl
    rw [show Tryz.prog.cellsOf 3 = 1 from by kernel_rfl] at t0
    obtain ⟨s0, hs0, hx0, hw0⟩ := DataW.trod_int Tryz.underlying3 (show DataW.trod enc Tryz.prog W 0 (fun _ => true) true n 3 [v0] = some p0 from by simpa using t0)
    have e0 : v0 = .int .i64 s0 := by simpa using hs0
    have t1 : DataW.trod enc Tryz.prog W 0 (fun _ => true) true n 3 (List.take (Tryz.prog.cellsOf 3) (List.drop 1 [v0, v1, v2])) = [p0, p1, p2][1]? := hfld 1 _ rfl
    rw [show Tryz.prog.cellsOf 3 = 1 from by kernel_rfl] at t1
    obtain ⟨s1, hs1, hx1, hw1⟩ := DataW.trod_int Tryz.underlying3 (show DataW.trod enc Tryz.prog W 0 (fun _ => true) true n 3 [v1] = some p1 from by simpa using t1)
    have e1 : v1 = .int .i64 s1 := by simpa using hs1
    have t2 : DataW.trod enc Tryz.prog W 0 (fun _ => true) true n 3 (List.take (Tryz.prog.cellsOf 3) (List.drop 2 [v0, v1, v2])) = [p0, p1, p2][2]? := hfld 2 _ rfl
    rw [show Tryz.prog.cellsOf 3 = 1 from by kernel_rfl] at t2
    obtain ⟨s2, hs2, hx2, hw2⟩ := DataW.trod_int Tryz.underlying3 (show DataW.trod enc Tryz.prog W 0 (fun _ => true) true n 3 [v2] = some p2 from by simpa using t2)
    have e2 : v2 = .int .i64 s2 := by simpa using hs2
    subst e0 e1 e2
    have hy1 : y.1 = .agg [p0.1, p1.1, p2.1] := by rw [hy]; rfl
    have hr := reachBytes_lt
    exact ⟨s0, s1, s2, rfl, hw0, hw1, hw2, trivial⟩

theorem own_fields {H : Type} {enc : TypeId × Value → H} {W : World} {fuel : Nat} {cs : List Value} {y : DataW H × List MemPlace} (h : DataW.trod enc Tryz.prog W 0 (fun _ => true) true fuel 29 cs = some y) (hw : ∀ n, n ∈ DataW.weights Tryz.prog 29 y.1 → n ≤ reachBytes) :
    ∃ r : (Int × Int × Int), cs = OwnS.f r ∧ OwnS.ok W r := by
  obtain ⟨s0, s1, s2, rfl, _⟩ := own_fields0 h hw
  exact ⟨(s0, s1, s2), rfl, trivial⟩

set_option maxRecDepth 100000 in
theorem enr_fields0 {H : Type} {enc : TypeId × Value → H} {W : World} {fuel : Nat} {cs : List Value} {y : DataW H × List MemPlace} (h : DataW.trod enc Tryz.prog W 0 (fun _ => true) true fuel 42 cs = some y) (hw : ∀ n, n ∈ DataW.weights Tryz.prog 42 y.1 → n ≤ reachBytes) :
    ∃ (s0 : ByteArray) (s1 : Int) (s2 : ByteArray) (s3 : Int) (s4 : Int) (s5 : Int) (s6 : Int) (s7 : Int) (s8 : Int), cs = [.string s0, .int .i64 s1, .string s2, .int .i64 s3, .int .i64 s4, .int .i64 s5, .int .i64 s6, .int .u32 s7, .int .i64 s8] ∧ s0.size ≤ 140737488355328 ∧ (Lit.int .i64 s1).wf = true ∧ s2.size ≤ 140737488355328 ∧ (Lit.int .i64 s3).wf = true ∧ (Lit.int .i64 s4).wf = true ∧ (Lit.int .i64 s5).wf = true ∧ (Lit.int .i64 s6).wf = true ∧ (Lit.int .u32 s7).wf = true ∧ (Lit.int .i64 s8).wf = true ∧ True := by
  obtain ⟨xs, n, _, hy, hcl, hxl, hfld⟩ := DataW.trod_struct Tryz.underlying42 h
  rw [show Tryz.prog.cellsOf 42 = 9 from by kernel_rfl] at hcl
  have hxl2 : xs.length = 9 := hxl
  match cs, xs, hcl, hxl2 with
  | [v0, v1, v2, v3, v4, v5, v6, v7, v8], [p0, p1, p2, p3, p4, p5, p6, p7, p8], _, _ =>
    have t0 : DataW.trod enc Tryz.prog W 0 (fun _ => true) true n 9 (List.take (Tryz.prog.cellsOf 9) (List.drop 0 [v0, v1, v2, v3, v4, v5, v6, v7, v8])) = [p0, p1, p2, p3, p4, p5, p6, p7, p8][0]? := hfld 0 _ rfl
    rw [show Tryz.prog.cellsOf 9 = 1 from by kernel_rfl] at t0
    obtain ⟨s0, hs0, hx0, _⟩ := DataW.trod_string Tryz.underlying9 (show DataW.trod enc Tryz.prog W 0 (fun _ => true) true n 9 [v0] = some p0 from by simpa using t0)
    have e0 : v0 = .string s0 := by simpa using hs0
    have t1 : DataW.trod enc Tryz.prog W 0 (fun _ => true) true n 3 (List.take (Tryz.prog.cellsOf 3) (List.drop 1 [v0, v1, v2, v3, v4, v5, v6, v7, v8])) = [p0, p1, p2, p3, p4, p5, p6, p7, p8][1]? := hfld 1 _ rfl
    rw [show Tryz.prog.cellsOf 3 = 1 from by kernel_rfl] at t1
    obtain ⟨s1, hs1, hx1, hw1⟩ := DataW.trod_int Tryz.underlying3 (show DataW.trod enc Tryz.prog W 0 (fun _ => true) true n 3 [v1] = some p1 from by simpa using t1)
    have e1 : v1 = .int .i64 s1 := by simpa using hs1
    have t2 : DataW.trod enc Tryz.prog W 0 (fun _ => true) true n 9 (List.take (Tryz.prog.cellsOf 9) (List.drop 2 [v0, v1, v2, v3, v4, v5, v6, v7, v8])) = [p0, p1, p2, p3, p4, p5, p6, p7, p8][2]? := hfld 2 _ rfl
    rw [show Tryz.prog.cellsOf 9 = 1 from by kernel_rfl] at t2
    obtain ⟨s2, hs2, hx2, _⟩ := DataW.trod_string Tryz.underlying9 (show DataW.trod enc Tryz.prog W 0 (fun _ => true) true n 9 [v2] = some p2 from by simpa using t2)
    have e2 : v2 = .string s2 := by simpa using hs2
    have t3 : DataW.trod enc Tryz.prog W 0 (fun _ => true) true n 3 (List.take (Tryz.prog.cellsOf 3) (List.drop 3 [v0, v1, v2, v3, v4, v5, v6, v7, v8])) = [p0, p1, p2, p3, p4, p5, p6, p7, p8][3]? := hfld 3 _ rfl
    rw [show Tryz.prog.cellsOf 3 = 1 from by kernel_rfl] at t3
    obtain ⟨s3, hs3, hx3, hw3⟩ := DataW.trod_int Tryz.underlying3 (show DataW.trod enc Tryz.prog W 0 (fun _ => true) true n 3 [v3] = some p3 from by simpa using t3)
    have e3 : v3 = .int .i64 s3 := by simpa using hs3
    have t4 : DataW.trod enc Tryz.prog W 0 (fun _ => true) true n 3 (List.take (Tryz.prog.cellsOf 3) (List.drop 4 [v0, v1, v2, v3, v4, v5, v6, v7, v8])) = [p0, p1, p2, p3, p4, p5, p6, p7, p8][4]? := hfld 4 _ rfl
    rw [show Tryz.prog.cellsOf 3 = 1 from by kernel_rfl] at t4
    obtain ⟨s4, hs4, hx4, hw4⟩ := DataW.trod_int Tryz.underlying3 (show DataW.trod enc Tryz.prog W 0 (fun _ => true) true n 3 [v4] = some p4 from by simpa using t4)
    have e4 : v4 = .int .i64 s4 := by simpa using hs4
    have t5 : DataW.trod enc Tryz.prog W 0 (fun _ => true) true n 3 (List.take (Tryz.prog.cellsOf 3) (List.drop 5 [v0, v1, v2, v3, v4, v5, v6, v7, v8])) = [p0, p1, p2, p3, p4, p5, p6, p7, p8][5]? := hfld 5 _ rfl
    rw [show Tryz.prog.cellsOf 3 = 1 from by kernel_rfl] at t5
    obtain ⟨s5, hs5, hx5, hw5⟩ := DataW.trod_int Tryz.underlying3 (show DataW.trod enc Tryz.prog W 0 (fun _ => true) true n 3 [v5] = some p5 from by simpa using t5)
    have e5 : v5 = .int .i64 s5 := by simpa using hs5
    have t6 : DataW.trod enc Tryz.prog W 0 (fun _ => true) true n 3 (List.take (Tryz.prog.cellsOf 3) (List.drop 6 [v0, v1, v2, v3, v4, v5, v6, v7, v8])) = [p0, p1, p2, p3, p4, p5, p6, p7, p8][6]? := hfld 6 _ rfl
    rw [show Tryz.prog.cellsOf 3 = 1 from by kernel_rfl] at t6
    obtain ⟨s6, hs6, hx6, hw6⟩ := DataW.trod_int Tryz.underlying3 (show DataW.trod enc Tryz.prog W 0 (fun _ => true) true n 3 [v6] = some p6 from by simpa using t6)
    have e6 : v6 = .int .i64 s6 := by simpa using hs6
    have t7 : DataW.trod enc Tryz.prog W 0 (fun _ => true) true n 40 (List.take (Tryz.prog.cellsOf 40) (List.drop 7 [v0, v1, v2, v3, v4, v5, v6, v7, v8])) = [p0, p1, p2, p3, p4, p5, p6, p7, p8][7]? := hfld 7 _ rfl
    rw [show Tryz.prog.cellsOf 40 = 1 from by kernel_rfl] at t7
    obtain ⟨s7, hs7, hx7, hw7⟩ := DataW.trod_int Tryz.underlying40 (show DataW.trod enc Tryz.prog W 0 (fun _ => true) true n 40 [v7] = some p7 from by simpa using t7)
    have e7 : v7 = .int .u32 s7 := by simpa using hs7
    have t8 : DataW.trod enc Tryz.prog W 0 (fun _ => true) true n 3 (List.take (Tryz.prog.cellsOf 3) (List.drop 8 [v0, v1, v2, v3, v4, v5, v6, v7, v8])) = [p0, p1, p2, p3, p4, p5, p6, p7, p8][8]? := hfld 8 _ rfl
    rw [show Tryz.prog.cellsOf 3 = 1 from by kernel_rfl] at t8
    obtain ⟨s8, hs8, hx8, hw8⟩ := DataW.trod_int Tryz.underlying3 (show DataW.trod enc Tryz.prog W 0 (fun _ => true) true n 3 [v8] = some p8 from by simpa using t8)
    have e8 : v8 = .int .i64 s8 := by simpa using hs8
    subst e0 e1 e2 e3 e4 e5 e6 e7 e8
    have hy1 : y.1 = .agg [p0.1, p1.1, p2.1, p3.1, p4.1, p5.1, p6.1, p7.1, p8.1] := by rw [hy]; rfl
    have hr := reachBytes_lt
    have w0 := hw s0.data.toList.length (by rw [hy1, hx0]; simp [DataW.weights, DataW.weightsEach, Tryz.underlying42])
    have w2 := hw s2.data.toList.length (by rw [hy1, hx2]; simp [DataW.weights, DataW.weightsEach, Tryz.underlying42])
    exact ⟨s0, s1, s2, s3, s4, s5, s6, s7, s8, rfl, (by simp at w0; omega), hw1, (by simp at w2; omega), hw3, hw4, hw5, hw6, hw7, hw8, trivial⟩

theorem enr_fields {H : Type} {enc : TypeId × Value → H} {W : World} {fuel : Nat} {cs : List Value} {y : DataW H × List MemPlace} (h : DataW.trod enc Tryz.prog W 0 (fun _ => true) true fuel 42 cs = some y) (hw : ∀ n, n ∈ DataW.weights Tryz.prog 42 y.1 → n ≤ reachBytes) :
    ∃ r : EntV, cs = EntS.f r ∧ EntS.ok W r := by
  obtain ⟨s0, s1, s2, s3, s4, s5, s6, s7, s8, rfl, h0, _, h2, _, _, _, _, h7, _⟩ := enr_fields0 h hw
  exact ⟨⟨s0, s1, s2, s3, s4, s5, s6, s7, s8⟩, rfl, ⟨h0, h2, u32_wfb h7⟩⟩

set_option maxRecDepth 100000 in
theorem man_fields0 {H : Type} {enc : TypeId × Value → H} {W : World} {fuel : Nat} {cs : List Value} {y : DataW H × List MemPlace} (h : DataW.trod enc Tryz.prog W 0 (fun _ => true) true fuel 26 cs = some y) (hw : ∀ n, n ∈ DataW.weights Tryz.prog 26 y.1 → n ≤ reachBytes) :
    ∃ (s0 : Int) (s1 : Int) (s2 : Int) (a3 : Option Addr) (n3 c3 : Nat) (l3 : List _) (a4 : Option Addr) (n4 c4 : Nat) (l4 : List _) (a5 : Option Addr) (n5 c5 : Nat) (l5 : List _), cs = [.int .i64 s0, .int .i64 s1, .int .i64 s2, .slice a3 n3 c3, .slice a4 n4 c4, .slice a5 n5 c5] ∧ (Lit.int .i64 s0).wf = true ∧ (Lit.int .i64 s1).wf = true ∧ (Lit.int .i64 s2).wf = true ∧ VecAt (EntS) W a3 n3 c3 l3 ∧ VecAt (MarkS) W a4 n4 c4 l4 ∧ VecAt (OwnS) W a5 n5 c5 l5 ∧ True := by
  obtain ⟨xs, n, _, hy, hcl, hxl, hfld⟩ := DataW.trod_struct Tryz.underlying26 h
  rw [show Tryz.prog.cellsOf 26 = 6 from by kernel_rfl] at hcl
  have hxl2 : xs.length = 6 := hxl
  match cs, xs, hcl, hxl2 with
  | [v0, v1, v2, v3, v4, v5], [p0, p1, p2, p3, p4, p5], _, _ =>
    have t0 : DataW.trod enc Tryz.prog W 0 (fun _ => true) true n 3 (List.take (Tryz.prog.cellsOf 3) (List.drop 0 [v0, v1, v2, v3, v4, v5])) = [p0, p1, p2, p3, p4, p5][0]? := hfld 0 _ rfl
    rw [show Tryz.prog.cellsOf 3 = 1 from by kernel_rfl] at t0
    obtain ⟨s0, hs0, hx0, hw0⟩ := DataW.trod_int Tryz.underlying3 (show DataW.trod enc Tryz.prog W 0 (fun _ => true) true n 3 [v0] = some p0 from by simpa using t0)
    have e0 : v0 = .int .i64 s0 := by simpa using hs0
    have t1 : DataW.trod enc Tryz.prog W 0 (fun _ => true) true n 3 (List.take (Tryz.prog.cellsOf 3) (List.drop 1 [v0, v1, v2, v3, v4, v5])) = [p0, p1, p2, p3, p4, p5][1]? := hfld 1 _ rfl
    rw [show Tryz.prog.cellsOf 3 = 1 from by kernel_rfl] at t1
    obtain ⟨s1, hs1, hx1, hw1⟩ := DataW.trod_int Tryz.underlying3 (show DataW.trod enc Tryz.prog W 0 (fun _ => true) true n 3 [v1] = some p1 from by simpa using t1)
    have e1 : v1 = .int .i64 s1 := by simpa using hs1
    have t2 : DataW.trod enc Tryz.prog W 0 (fun _ => true) true n 3 (List.take (Tryz.prog.cellsOf 3) (List.drop 2 [v0, v1, v2, v3, v4, v5])) = [p0, p1, p2, p3, p4, p5][2]? := hfld 2 _ rfl
    rw [show Tryz.prog.cellsOf 3 = 1 from by kernel_rfl] at t2
    obtain ⟨s2, hs2, hx2, hw2⟩ := DataW.trod_int Tryz.underlying3 (show DataW.trod enc Tryz.prog W 0 (fun _ => true) true n 3 [v2] = some p2 from by simpa using t2)
    have e2 : v2 = .int .i64 s2 := by simpa using hs2
    have t3 : DataW.trod enc Tryz.prog W 0 (fun _ => true) true n 22 (List.take (Tryz.prog.cellsOf 22) (List.drop 3 [v0, v1, v2, v3, v4, v5])) = [p0, p1, p2, p3, p4, p5][3]? := hfld 3 _ rfl
    rw [show Tryz.prog.cellsOf 22 = 1 from by kernel_rfl] at t3
    have t3' : DataW.trod enc Tryz.prog W 0 (fun _ => true) true n 22 [v3] = some p3 := by simpa using t3
    have t4 : DataW.trod enc Tryz.prog W 0 (fun _ => true) true n 23 (List.take (Tryz.prog.cellsOf 23) (List.drop 4 [v0, v1, v2, v3, v4, v5])) = [p0, p1, p2, p3, p4, p5][4]? := hfld 4 _ rfl
    rw [show Tryz.prog.cellsOf 23 = 1 from by kernel_rfl] at t4
    have t4' : DataW.trod enc Tryz.prog W 0 (fun _ => true) true n 23 [v4] = some p4 := by simpa using t4
    have t5 : DataW.trod enc Tryz.prog W 0 (fun _ => true) true n 24 (List.take (Tryz.prog.cellsOf 24) (List.drop 5 [v0, v1, v2, v3, v4, v5])) = [p0, p1, p2, p3, p4, p5][5]? := hfld 5 _ rfl
    rw [show Tryz.prog.cellsOf 24 = 1 from by kernel_rfl] at t5
    have t5' : DataW.trod enc Tryz.prog W 0 (fun _ => true) true n 24 [v5] = some p5 := by simpa using t5
    subst e0 e1 e2
    have hy1 : y.1 = .agg [p0.1, p1.1, p2.1, p3.1, p4.1, p5.1] := by rw [hy]; rfl
    have hr := reachBytes_lt
    have w3 : ∀ m, m ∈ DataW.weights Tryz.prog 22 p3.1 → m ≤ reachBytes := fun m hm => hw m (by rw [hy1]; simp [DataW.weights, DataW.weightsEach, Tryz.underlying26, hm])
    have hv3 : ∃ a len cap, v3 = .slice a len cap := by
      rcases open_slice Tryz.underlying22 t3' with ⟨hcs, _⟩ | ⟨x0, l, c, m, n, D, Pl, hcs, _⟩
      · simp at hcs; exact ⟨_, _, _, hcs⟩
      · simp at hcs; exact ⟨_, _, _, hcs⟩
    obtain ⟨a3, len3, cap3, rfl⟩ := hv3
    obtain ⟨z3, hz3⟩ := open_vec (EntS) Tryz.underlying22 (by kernel_rfl) (fun _ _ _ g1 g2 => enr_fields g1 g2) t3' w3
    have w4 : ∀ m, m ∈ DataW.weights Tryz.prog 23 p4.1 → m ≤ reachBytes := fun m hm => hw m (by rw [hy1]; simp [DataW.weights, DataW.weightsEach, Tryz.underlying26, hm])
    have hv4 : ∃ a len cap, v4 = .slice a len cap := by
      rcases open_slice Tryz.underlying23 t4' with ⟨hcs, _⟩ | ⟨x0, l, c, m, n, D, Pl, hcs, _⟩
      · simp at hcs; exact ⟨_, _, _, hcs⟩
      · simp at hcs; exact ⟨_, _, _, hcs⟩
    obtain ⟨a4, len4, cap4, rfl⟩ := hv4
    obtain ⟨z4, hz4⟩ := open_vec (MarkS) Tryz.underlying23 (by kernel_rfl) (fun _ _ _ g1 g2 => mkr_fields g1 g2) t4' w4
    have w5 : ∀ m, m ∈ DataW.weights Tryz.prog 24 p5.1 → m ≤ reachBytes := fun m hm => hw m (by rw [hy1]; simp [DataW.weights, DataW.weightsEach, Tryz.underlying26, hm])
    have hv5 : ∃ a len cap, v5 = .slice a len cap := by
      rcases open_slice Tryz.underlying24 t5' with ⟨hcs, _⟩ | ⟨x0, l, c, m, n, D, Pl, hcs, _⟩
      · simp at hcs; exact ⟨_, _, _, hcs⟩
      · simp at hcs; exact ⟨_, _, _, hcs⟩
    obtain ⟨a5, len5, cap5, rfl⟩ := hv5
    obtain ⟨z5, hz5⟩ := open_vec (OwnS) Tryz.underlying24 (by kernel_rfl) (fun _ _ _ g1 g2 => own_fields g1 g2) t5' w5
    exact ⟨s0, s1, s2, a3, len3, cap3, z3, a4, len4, cap4, z4, a5, len5, cap5, z5, rfl, hw0, hw1, hw2, hz3, hz4, hz5, trivial⟩

/-- a manifest that came in -/
theorem open_man {H : Type} {enc : TypeId × Value → H} {W : World} {fuel : Nat} {cs : Array Value} {x : DataW H × List MemPlace}
    (hf : DataW.trod enc Tryz.prog W 0 (fun _ => true) true fuel 26 cs.toList = some x) (hw : ∀ n, n ∈ DataW.weights Tryz.prog 26 x.1 → n ≤ reachBytes) :
    ∃ (s0 s1 s2 : Int) (a3 : Option Addr) (n3 c3 : Nat) (l3 : List EntV) (a4 : Option Addr) (n4 c4 : Nat) (l4 : List (Int × Int)) (a5 : Option Addr) (n5 c5 : Nat) (l5 : List (Int × Int × Int)), cs = #[.int .i64 s0, .int .i64 s1, .int .i64 s2, .slice a3 n3 c3, .slice a4 n4 c4, .slice a5 n5 c5] ∧ VecAt EntS W a3 n3 c3 l3 ∧ VecAt MarkS W a4 n4 c4 l4 ∧ VecAt OwnS W a5 n5 c5 l5 := by
  obtain ⟨s0, s1, s2, a3, n3, c3, l3, a4, n4, c4, l4, a5, n5, c5, l5, hcs, _, _, _, h3, h4, h5, _⟩ := man_fields0 hf hw
  exact ⟨s0, s1, s2, a3, n3, c3, l3, a4, n4, c4, l4, a5, n5, c5, l5, by rw [← Array.toList_inj, hcs], h3, h4, h5⟩
/-- an owner that came in -/
theorem open_owner {H : Type} {enc : TypeId × Value → H} {W : World} {fuel : Nat} {cs : Array Value} {x : DataW H × List MemPlace}
    (hf : DataW.trod enc Tryz.prog W 0 (fun _ => true) true fuel 29 cs.toList = some x) (hw : ∀ n, n ∈ DataW.weights Tryz.prog 29 x.1 → n ≤ reachBytes) :
    ∃ (s0 s1 s2 : Int), cs = #[.int .i64 s0, .int .i64 s1, .int .i64 s2] := by
  obtain ⟨s0, s1, s2, hcs, _⟩ := own_fields0 hf hw
  exact ⟨s0, s1, s2, by rw [← Array.toList_inj, hcs]⟩

end Go.Proofs.YtadfmenlpnibnaaGreat
end PkMS12_0
section PkMS12_1
/- An edit, opened as a law's argument. Written by genapopen.py. -/
namespace Go.Proofs.YtadfmenlpnibnaaGreat
open Go.ChangeShapes Go.WideShapes Go.Deep Go.RowKit LabPlain
set_option linter.unusedVariables false

theorem key_fields {H : Type} {enc : TypeId × Value → H} {W : World} {fuel : Nat} {cs : List Value} {y : DataW H × List MemPlace} (h : DataW.trod enc Tryz.prog W 0 (fun _ => true) true fuel 9 cs = some y) (hw : ∀ n, n ∈ DataW.weights Tryz.prog 9 y.1 → n ≤ reachBytes) :
    ∃ r : ByteArray, cs = KeyS.f r ∧ KeyS.ok W r := by
  obtain ⟨s, hs, hx, _⟩ := DataW.trod_string Tryz.underlying9 h
  have w0 := hw s.data.toList.length (by rw [hx]; simp [DataW.weights])
  have hr := reachBytes_lt
  exact ⟨s, hs, by show s.size ≤ 140737488355328; simp at w0; omega⟩
set_option maxRecDepth 100000 in
/-- an edit that came in -/
theorem open_ed {H : Type} {enc : TypeId × Value → H} {W : World} {fuel : Nat} {cs : Array Value} {y : DataW H × List MemPlace}
    (h : DataW.trod enc Tryz.prog W 0 (fun _ => true) true fuel 31 cs.toList = some y) (hw : ∀ n, n ∈ DataW.weights Tryz.prog 31 y.1 → n ≤ reachBytes) :
    ∃ (a0 : Option Addr) (n0 c0 : Nat) (l0 : List EntV) (a1 : Option Addr) (n1 c1 : Nat) (l1 : List ByteArray) (a2 : Option Addr) (n2 c2 : Nat) (l2 : List (Int × Int)) (ct fe ag li cn : Int), cs = #[.slice a0 n0 c0, .slice a1 n1 c1, .slice a2 n2 c2, .int .i64 ct, .int .i64 fe, .int .i64 ag, .int .i64 li, .int .i64 cn] ∧ VecAt EntS W a0 n0 c0 l0 ∧ VecAt KeyS W a1 n1 c1 l1 ∧ VecAt MarkS W a2 n2 c2 l2 := by
  obtain ⟨xs, n, _, hy, hcl, hxl, hfld⟩ := DataW.trod_struct Tryz.underlying31 h
  rw [show Tryz.prog.cellsOf 31 = 8 from by kernel_rfl] at hcl
  have hxl2 : xs.length = 6 := hxl
  obtain ⟨ls, hls⟩ : ∃ ls, ls = cs.toList := ⟨_, rfl⟩
  have hcs : cs = ls.toArray := by rw [hls]
  rw [← hls] at hcl hfld
  subst hcs
  clear h hls
  match ls, xs, hcl, hxl2 with
  | [v0, v1, v2, v3, v4, v5, v6, v7], [p0, p1, p2, p3, p4, p5], _, _ =>
    have t0 : DataW.trod enc Tryz.prog W 0 (fun _ => true) true n 22 (List.take (Tryz.prog.cellsOf 22) (List.drop 0 [v0, v1, v2, v3, v4, v5, v6, v7])) = [p0, p1, p2, p3, p4, p5][0]? := hfld 0 _ rfl
    rw [show Tryz.prog.cellsOf 22 = 1 from by kernel_rfl] at t0
    have u0 : DataW.trod enc Tryz.prog W 0 (fun _ => true) true n 22 [v0] = some p0 := by simpa using t0
    have t1 : DataW.trod enc Tryz.prog W 0 (fun _ => true) true n 27 (List.take (Tryz.prog.cellsOf 27) (List.drop 1 [v0, v1, v2, v3, v4, v5, v6, v7])) = [p0, p1, p2, p3, p4, p5][1]? := hfld 1 _ rfl
    rw [show Tryz.prog.cellsOf 27 = 1 from by kernel_rfl] at t1
    have u1 : DataW.trod enc Tryz.prog W 0 (fun _ => true) true n 27 [v1] = some p1 := by simpa using t1
    have t2 : DataW.trod enc Tryz.prog W 0 (fun _ => true) true n 23 (List.take (Tryz.prog.cellsOf 23) (List.drop 2 [v0, v1, v2, v3, v4, v5, v6, v7])) = [p0, p1, p2, p3, p4, p5][2]? := hfld 2 _ rfl
    rw [show Tryz.prog.cellsOf 23 = 1 from by kernel_rfl] at t2
    have u2 : DataW.trod enc Tryz.prog W 0 (fun _ => true) true n 23 [v2] = some p2 := by simpa using t2
    have t3 : DataW.trod enc Tryz.prog W 0 (fun _ => true) true n 3 (List.take (Tryz.prog.cellsOf 3) (List.drop 3 [v0, v1, v2, v3, v4, v5, v6, v7])) = [p0, p1, p2, p3, p4, p5][3]? := hfld 3 _ rfl
    rw [show Tryz.prog.cellsOf 3 = 1 from by kernel_rfl] at t3
    have u3 : DataW.trod enc Tryz.prog W 0 (fun _ => true) true n 3 [v3] = some p3 := by simpa using t3
    have t4 : DataW.trod enc Tryz.prog W 0 (fun _ => true) true n 3 (List.take (Tryz.prog.cellsOf 3) (List.drop 4 [v0, v1, v2, v3, v4, v5, v6, v7])) = [p0, p1, p2, p3, p4, p5][4]? := hfld 4 _ rfl
    rw [show Tryz.prog.cellsOf 3 = 1 from by kernel_rfl] at t4
    have u4 : DataW.trod enc Tryz.prog W 0 (fun _ => true) true n 3 [v4] = some p4 := by simpa using t4
    have t5 : DataW.trod enc Tryz.prog W 0 (fun _ => true) true n 29 (List.take (Tryz.prog.cellsOf 29) (List.drop 5 [v0, v1, v2, v3, v4, v5, v6, v7])) = [p0, p1, p2, p3, p4, p5][5]? := hfld 5 _ rfl
    rw [show Tryz.prog.cellsOf 29 = 3 from by kernel_rfl] at t5
    have u5 : DataW.trod enc Tryz.prog W 0 (fun _ => true) true n 29 [v5, v6, v7] = some p5 := by simpa using t5
    have hy1 : y.1 = .agg [p0.1, p1.1, p2.1, p3.1, p4.1, p5.1] := by rw [hy]; rfl
    have w0 : ∀ m, m ∈ DataW.weights Tryz.prog 22 p0.1 → m ≤ reachBytes := fun m hm => hw m (by rw [hy1]; simp [DataW.weights, DataW.weightsEach, Tryz.underlying31, hm])
    have w1 : ∀ m, m ∈ DataW.weights Tryz.prog 27 p1.1 → m ≤ reachBytes := fun m hm => hw m (by rw [hy1]; simp [DataW.weights, DataW.weightsEach, Tryz.underlying31, hm])
    have w2 : ∀ m, m ∈ DataW.weights Tryz.prog 23 p2.1 → m ≤ reachBytes := fun m hm => hw m (by rw [hy1]; simp [DataW.weights, DataW.weightsEach, Tryz.underlying31, hm])
    have w5 : ∀ m, m ∈ DataW.weights Tryz.prog 29 p5.1 → m ≤ reachBytes := fun m hm => hw m (by rw [hy1]; simp [DataW.weights, DataW.weightsEach, Tryz.underlying31, hm])
    obtain ⟨⟨ag, li, cn⟩, he5, _⟩ := own_fields u5 w5
    obtain ⟨s3, hs3, _, _⟩ := DataW.trod_int Tryz.underlying3 u3
    have e3 : v3 = .int .i64 s3 := by simpa using hs3
    obtain ⟨s4, hs4, _, _⟩ := DataW.trod_int Tryz.underlying3 u4
    have e4 : v4 = .int .i64 s4 := by simpa using hs4
    have hv0 : ∃ a len cap, v0 = .slice a len cap := by
      rcases open_slice Tryz.underlying22 u0 with ⟨hcs, _⟩ | ⟨x0, l, c, m, n, D, Pl, hcs, _⟩
      · simp at hcs; exact ⟨_, _, _, hcs⟩
      · simp at hcs; exact ⟨_, _, _, hcs⟩
    obtain ⟨a0, n0, c0, hq0⟩ := hv0
    have hv1 : ∃ a len cap, v1 = .slice a len cap := by
      rcases open_slice Tryz.underlying27 u1 with ⟨hcs, _⟩ | ⟨x0, l, c, m, n, D, Pl, hcs, _⟩
      · simp at hcs; exact ⟨_, _, _, hcs⟩
      · simp at hcs; exact ⟨_, _, _, hcs⟩
    obtain ⟨a1, n1, c1, hq1⟩ := hv1
    have hv2 : ∃ a len cap, v2 = .slice a len cap := by
      rcases open_slice Tryz.underlying23 u2 with ⟨hcs, _⟩ | ⟨x0, l, c, m, n, D, Pl, hcs, _⟩
      · simp at hcs; exact ⟨_, _, _, hcs⟩
      · simp at hcs; exact ⟨_, _, _, hcs⟩
    obtain ⟨a2, n2, c2, hq2⟩ := hv2
    subst e3 e4 hq0 hq1 hq2
    obtain ⟨rfl, rfl, rfl⟩ : v5 = .int .i64 ag ∧ v6 = .int .i64 li ∧ v7 = .int .i64 cn := by
      have h9 : [v5, v6, v7] = [Value.int .i64 ag, .int .i64 li, .int .i64 cn] := he5
      simpa using h9
    obtain ⟨z0, hz0⟩ := open_vec EntS Tryz.underlying22 (by kernel_rfl) (fun _ _ _ g1 g2 => enr_fields g1 g2) u0 w0
    obtain ⟨z1, hz1⟩ := open_vec KeyS Tryz.underlying27 (by kernel_rfl) (fun _ _ _ g1 g2 => key_fields g1 g2) u1 w1
    obtain ⟨z2, hz2⟩ := open_vec MarkS Tryz.underlying23 (by kernel_rfl) (fun _ _ _ g1 g2 => mkr_fields g1 g2) u2 w2
    exact ⟨a0, n0, c0, z0, a1, n1, c1, z1, a2, n2, c2, z2, s3, s4, ag, li, cn, rfl, hz0, hz1, hz2⟩
end Go.Proofs.YtadfmenlpnibnaaGreat
end PkMS12_1
section PkMS12_2
/- The law ManifestRises, walked. Written by genapris.py. -/
namespace Go.Proofs.YtadfmenlpnibnaaGreat
open Go.RowKit Go.Shelf LabPlain
set_option linter.unusedVariables false

@[go_sem] theorem eq_ent (x0 : ByteArray) (x1 : Int) (x2 : ByteArray) (x3 x4 x5 x6 x7 x8 : Int) (w : World) : (Op.equalIn 10000 42 (.agg #[.string x0, .int .i64 x1, .string x2, .int .i64 x3, .int .i64 x4, .int .i64 x5, .int .i64 x6, .int .u32 x7, .int .i64 x8]) (.agg #[.string x0, .int .i64 x1, .string x2, .int .i64 x3, .int .i64 x4, .int .i64 x5, .int .i64 x6, .int .u32 x7, .int .i64 x8])).run Tryz.prog w = .ok true w := by
  have us := Tryz.underlying9
  have ag := Tryz.isAgg9
  have zs := Tryz.sizeOf9
  have hS : Tryz.prog.underlying 42 = some (.struct (Tryz.prog.fieldsOf 42)) := by kernel_rfl
  have hp : Tryz.prog.stoodInHeld 42 = false := by kernel_rfl
  rw [show (10000 : Nat) = 9999 + 1 from rfl, run_equalIn_agg w 9999 42 _ _ hS hp]
  simp only [Program.fieldsOf, Tryz.underlying42]
  go_simp
@[go_sem] theorem guard_ent (x y : Operand) (xs ys : Array Value) (w : World) : (eqGuard .neq 42 x y (.agg xs) (.agg ys)).run Tryz.prog w = .ok () w := run_eqGuard_agg w .neq 42 x y xs ys (by kernel_rfl)
@[go_sem] theorem neq_ent (x0 : ByteArray) (x1 : Int) (x2 : ByteArray) (x3 x4 x5 x6 x7 x8 : Int) (w : World) : (binOp .neq 42 (.agg #[.string x0, .int .i64 x1, .string x2, .int .i64 x3, .int .i64 x4, .int .i64 x5, .int .i64 x6, .int .u32 x7, .int .i64 x8]) (.agg #[.string x0, .int .i64 x1, .string x2, .int .i64 x3, .int .i64 x4, .int .i64 x5, .int .i64 x6, .int .u32 x7, .int .i64 x8])).run Tryz.prog w = .ok (.bool false) w := by
  rw [run_neq_struct, eq_ent]; rfl
/-- a law's boxes: a manifest, an edit -/
structure T2 (w W : World) (mv dv : Array Value) : Prop where
  below : Below w.heap.size w W
  g2 : W.heap[w.heap.size]? = some (.cells mv 26 (0, 0))
  g3 : W.heap[w.heap.size + 1]? = some (.cells dv 31 (0, 0))
theorem T2.lt {w W : World} {mv dv : Array Value} (h : T2 w W mv dv) : w.heap.size + 1 < W.heap.size := (Array.getElem?_eq_some_iff.1 h.g3).1
theorem T2.step {w W W' : World} {mv dv : Array Value} (h : T2 w W mv dv) (hb : Below W.heap.size W W') : T2 w W' mv dv :=
  ⟨h.below.trans (hb.mono h.below.size), (hb.block _ (Array.getElem?_eq_some_iff.1 h.g2).1).trans h.g2, (hb.block _ (Array.getElem?_eq_some_iff.1 h.g3).1).trans h.g3⟩
theorem blk_step {w w' : World} {b : Nat} {o : Obj} (h : w.heap[b]? = some o) (hb : Below w.heap.size w w') : w'.heap[b]? = some o := (hb.block b (Array.getElem?_eq_some_iff.1 h).1).trans h
/-- an edit that was made isn't made again -/
theorem again_8 {pf : ByteArray → Int} {m d r : _} {er : Int} {r2 : MaV} (h : ApYes pf m d r) (h2 : ApIs pf r d er r2) : er = 8 := by
  have hr := rises_right h
  have hv := rises_again h
  rcases h2 with ⟨_, hno, _⟩ | ⟨_, hy⟩
  · cases hno with
    | form g => exact absurd ⟨hr, h.ed⟩ g
    | ver => rfl
    | dup _ _ g => exact absurd hv g
    | lost _ _ g => exact absurd hv g
    | fence _ _ g => exact absurd hv g
    | exist _ _ g => exact absurd hv g
    | range _ _ g => exact absurd hv g
    | long _ _ g => exact absurd hv g
  · exact absurd hv hy.ver
theorem key_one {l : List EntV} (h : l.Pairwise ltE) {a b : EntV} (ha : a ∈ l) (hb : b ∈ l) (e : a.key = b.key) : a = b := by
  obtain ⟨i, hi, rfl⟩ := List.getElem_of_mem ha
  obtain ⟨j, hj, rfl⟩ := List.getElem_of_mem hb
  have hp := List.pairwise_iff_getElem.1 h
  rcases Nat.lt_trichotomy i j with g | g | g
  · have := hp i j hi hj g
    unfold ltE at this
    rw [e, ltB_irr] at this
    cases this
  · subst g; rfl
  · have := hp j i hj hi g
    unfold ltE at this
    rw [e, ltB_irr] at this
    cases this
/-- what was added is found, or is below the cut -/
theorem rises_find {pf : ByteArray → Int} {m : MaV} {d : EdV} {r : MaV} (h : ApYes pf m d r) {a : EntV} (ha : a ∈ d.add) : r.ents.find? (fun x => decide (x.key = a.key)) = if r.cut ≤ a.win then some a else none := by
  have hc := h.ok.cut
  by_cases hw : r.cut ≤ a.win
  · rw [if_pos hw]
    have hin : a ∈ r.ents := (h.ok.ents.mem a).2 ⟨.inl ha, by rw [← hc]; exact hw⟩
    cases hf : r.ents.find? (fun x => decide (x.key = a.key)) with
    | none =>
      have := List.find?_eq_none.1 hf a hin
      simp at this
    | some b =>
      have h1 := List.mem_of_find?_eq_some hf
      have h2 : b.key = a.key := by simpa using List.find?_some hf
      rw [key_one h.ok.ents.rise h1 hin h2]
  · rw [if_neg hw, List.find?_eq_none]
    intro z hz
    simp only [decide_eq_true_eq]
    intro e
    obtain ⟨h1, h2⟩ := (h.ok.ents.mem z).1 hz
    rcases h1 with h1 | ⟨h1, h3⟩
    · have : z = a := by
        have hp := List.pairwise_iff_getElem.1 h.ed.one
        obtain ⟨i, hi, rfl⟩ := List.getElem_of_mem h1
        obtain ⟨j, hj, rfl⟩ := List.getElem_of_mem ha
        rcases Nat.lt_trichotomy i j with g | g | g
        · exact absurd e (hp i j hi hj g)
        · subst g; rfl
        · exact absurd e.symm (hp j i hj hi g)
      rw [this, ← hc] at h2
      exact hw h2
    · exact h.exist ⟨a, ha, ⟨z, h1, e⟩, by rw [← e]; exact h3⟩
theorem rises_born {pf : ByteArray → Int} {m : MaV} {d : EdV} {r : MaV} (h : ApYes pf m d r) {a : EntV} (ha : a ∈ d.add) : r.fence ≤ a.born := by
  rw [h.ok.fence]
  have := h.fence
  have h1 : ¬ (a.born < m.fence ∨ a.born < d.fence) := fun g => this ⟨a, ha, g⟩
  omega
theorem rises_did {pf : ByteArray → Int} {m : MaV} {d : EdV} {r : MaV} {y0 y1 y2 : Int} (h : ApYes pf m d r) (hy : d.by' = (y0, y1, y2)) : r.owns.any (didp y0 y1 y2) = true := by
  rw [List.any_eq_true]
  refine ⟨(y0, y1, y2), (h.ok.owns.mem _).2 (.inr hy.symm), ?_⟩
  unfold didp
  simp
theorem yes_sub {pf : ByteArray → Int} {m : MaV} {d : EdV} {r : MaV} (h : ApYes pf m d r) {x : EntV} (hx : x ∈ r.ents) : x ∈ m.ents ∨ x ∈ d.add := by
  rcases ((h.ok.ents.mem x).1 hx).1 with h1 | h1
  · exact .inr h1
  · exact .inl h1.1
theorem is_sub {pf : ByteArray → Int} {m : MaV} {d : EdV} {r : MaV} {er : Int} (h : ApIs pf m d er r) {x : EntV} (hx : x ∈ r.ents) : x ∈ m.ents ∨ x ∈ d.add := by
  rcases h with ⟨_, _, rfl⟩ | ⟨_, hy⟩
  · cases hx
  · exact yes_sub hy hx

set_option maxRecDepth 100000 in
set_option maxHeartbeats 16000000 in
theorem rises_any {w : World} {gen cut fen cut' fen' y0 y1 y2 mx : Int} {ea ma oa aa da ka : Option Addr} {en ec mn mc on oc an ac dn dc kn kc : Nat} {es ad : List EntV} {ms km : List (Int × Int)} {os : List (Int × Int × Int)} {dr : List ByteArray} (hE : VecAt EntS w ea en ec es) (hM : VecAt MarkS w ma mn mc ms) (hO : VecAt OwnS w oa on oc os) (hA : VecAt EntS w aa an ac ad) (hD : VecAt KeyS w da dn dc dr) (hK : VecAt MarkS w ka kn kc km) (hmx : MaxAt mx w) :
    Calls Tryz.prog 5 #[.agg #[.int .i64 gen, .int .i64 cut, .int .i64 fen, .slice ea en ec, .slice ma mn mc, .slice oa on oc], .agg #[.slice aa an ac, .slice da dn dc, .slice ka kn kc, .int .i64 cut', .int .i64 fen', .int .i64 y0, .int .i64 y1, .int .i64 y2]] w fun e w' => e = .returned (.bool true) ∧ Below w.heap.size w w' := by
  obtain ⟨wa, hwa⟩ : ∃ wa, wa = w.alloc (.cells #[.int .i64 gen, .int .i64 cut, .int .i64 fen, .slice ea en ec, .slice ma mn mc, .slice oa on oc] 26) := ⟨_, rfl⟩
  obtain ⟨wb, hwb⟩ : ∃ wb, wb = wa.alloc (.cells #[.slice aa an ac, .slice da dn dc, .slice ka kn kc, .int .i64 cut', .int .i64 fen', .int .i64 y0, .int .i64 y1, .int .i64 y2] 31) := ⟨_, rfl⟩
  have sa : wa.heap.size = w.heap.size + 1 := by rw [hwa]; exact Array.size_push _
  have ba : Below w.heap.size w wa := by rw [hwa]; exact (Below.refl _ _).alloc (Nat.le_refl _) _
  have T0 := Lib.hid (show T2 w wb #[.int .i64 gen, .int .i64 cut, .int .i64 fen, .slice ea en ec, .slice ma mn mc, .slice oa on oc] #[.slice aa an ac, .slice da dn dc, .slice ka kn kc, .int .i64 cut', .int .i64 fen', .int .i64 y0, .int .i64 y1, .int .i64 y2] from ⟨by rw [hwb]; exact ba.alloc ba.size _, by rw [hwb, hao9 _ _ _ (by omega), hwa]; exact heap_alloc_new _ _, by rw [hwb, ← sa]; exact heap_alloc_new _ _⟩)
  have HWB := Lib.hid (show (w.alloc (.cells #[.int .i64 gen, .int .i64 cut, .int .i64 fen, .slice ea en ec, .slice ma mn mc, .slice oa on oc] 26)).alloc (.cells #[.slice aa an ac, .slice da dn dc, .slice ka kn kc, .int .i64 cut', .int .i64 fen', .int .i64 y0, .int .i64 y1, .int .i64 y2] 31) = wb from by rw [hwb, hwa])
  have HE := Lib.hid hE
  have HM := Lib.hid hM
  have HO := Lib.hid hO
  have HA := Lib.hid hA
  have HD := Lib.hid hD
  have HK := Lib.hid hK
  have HMX := Lib.hid hmx
  have hec1 := hE.cap
  have hec2 := hE.capm
  have hmc1 := hM.cap
  have hmc2 := hM.capm
  have hoc1 := hO.cap
  have hoc2 := hO.capm
  have hac1 := hA.cap
  have hac2 := hA.capm
  have hdc1 := hD.cap
  have hdc2 := hD.capm
  have hkc1 := hK.cap
  have hkc2 := hK.capm
  clear hwa hwb sa ba hE hM hO hA hD hK hmx
  go_enter Tryz.func5, Tryz.ntmps5
  go_wp2_with fail
  rw [HWB.out]
  refine (lives_true wb).mono ?_
  rintro e w1 ⟨rfl, hb1⟩
  have T1 := Lib.hid (T0.out.step hb1)
  clear hb1
  have HFW := Lib.hid (few_says (w := w1) (s := gen) (d := cut) (hz := fen) (ma := ma) (mn := mn) (mc := mc) (oa := oa) (on := on) (oc := oc) (HE.out.kept T1.out.below))
  have a0 : w1.cell? ⟨w.heap.size, 0, none⟩ = some (.int .i64 gen) := cell_blk T1.out.g2 rfl
  have a1 : w1.cell? ⟨w.heap.size, 1, none⟩ = some (.int .i64 cut) := cell_blk T1.out.g2 rfl
  have a2 : w1.cell? ⟨w.heap.size, 2, none⟩ = some (.int .i64 fen) := cell_blk T1.out.g2 rfl
  have a3 : w1.cell? ⟨w.heap.size, 3, none⟩ = some (.slice ea en ec) := cell_blk T1.out.g2 rfl
  have a4 : w1.cell? ⟨w.heap.size, 4, none⟩ = some (.slice ma mn mc) := cell_blk T1.out.g2 rfl
  have a5 : w1.cell? ⟨w.heap.size, 5, none⟩ = some (.slice oa on oc) := cell_blk T1.out.g2 rfl
  go_wp2_with fail
  refine HFW.out.mono ?_
  rintro e w2 ⟨⟨b1, rfl, hf1⟩, hb2⟩
  have T2w := Lib.hid (T1.out.step hb2)
  have HF1 := Lib.hid hf1
  clear hb2 hf1 a0 a1 a2 a3 a4 a5
  cases b1 with
  | false =>
    go_wp2_with fail
    refine (lives_true w2).mono ?_
    rintro e wl ⟨rfl, hbl⟩
    have TL := Lib.hid (T2w.out.step hbl)
    clear hbl
    go_wp2_with fail
    go_ret
    exact ⟨rfl, TL.out.below⟩
  | true =>
  have HFE := Lib.hid (HF1.out rfl)
  have HPE := Lib.hid (FewIs.all HE.out HFE.out.2.2.2)
  have HFD := Lib.hid (fewed_says (w := w2) (da := da) (dn := dn) (dc := dc) (ka := ka) (kn := kn) (kc := kc) (c := cut') (f := fen') (y0 := y0) (y1 := y1) (y2 := y2) (HA.out.kept T2w.out.below))
  have e0 : w2.cell? ⟨w.heap.size + 1, 0, none⟩ = some (.slice aa an ac) := cell_blk T2w.out.g3 rfl
  have e1 : w2.cell? ⟨w.heap.size + 1, 1, none⟩ = some (.slice da dn dc) := cell_blk T2w.out.g3 rfl
  have e2 : w2.cell? ⟨w.heap.size + 1, 2, none⟩ = some (.slice ka kn kc) := cell_blk T2w.out.g3 rfl
  have e3 : w2.cell? ⟨w.heap.size + 1, 3, none⟩ = some (.int .i64 cut') := cell_blk T2w.out.g3 rfl
  have e4 : w2.cell? ⟨w.heap.size + 1, 4, none⟩ = some (.int .i64 fen') := cell_blk T2w.out.g3 rfl
  have e5 : w2.cell? ⟨w.heap.size + 1, 5, none⟩ = some (.int .i64 y0) := cell_blk T2w.out.g3 rfl
  have e6 : w2.cell? ⟨w.heap.size + 1, 6, none⟩ = some (.int .i64 y1) := cell_blk T2w.out.g3 rfl
  have e7 : w2.cell? ⟨w.heap.size + 1, 7, none⟩ = some (.int .i64 y2) := cell_blk T2w.out.g3 rfl
  go_wp2_with fail
  refine HFD.out.mono ?_
  rintro e w3 ⟨⟨b2, rfl, hf2⟩, hb3⟩
  have T3w := Lib.hid (T2w.out.step hb3)
  have HF2 := Lib.hid hf2
  clear hb3 hf2 e0 e1 e2 e3 e4 e5 e6 e7
  cases b2 with
  | false =>
    go_wp2_with fail
    refine (lives_true w3).mono ?_
    rintro e wl ⟨rfl, hbl⟩
    have TL := Lib.hid (T3w.out.step hbl)
    clear hbl
    go_wp2_with fail
    go_ret
    exact ⟨rfl, TL.out.below⟩
  | true =>
  have HFG := Lib.hid (HF2.out rfl)
  have HPA := Lib.hid (FewIs.all HA.out HFG.out.2.2.2)
  have HPP := Lib.hid (show ∀ W0, Below w.heap.size w W0 → ∀ (W : World) (x : EntV), x ∈ es ∨ x ∈ ad → Below W0.heap.size W0 W → Calls Tryz.prog 68 #[.string x.part] W fun e w' => ParIs (pfS x.part) e ∧ Below W.heap.size W w' from fun W0 h0 W x hx hB => par_any (le := es ++ ad) (HMX.out.below h0) (fun z hz => by
    rcases List.mem_append.1 hz with g | g
    · have := (HPE.out z g).2; omega
    · have := (HPA.out z g).2; omega) W x (List.mem_append.2 hx) hB)
  have HOKE := Lib.hid (show ∀ (W : World) (x : EntV), x ∈ es ∨ x ∈ ad → EntS.ok W x from fun W x hx => by
    rcases hx with hx | hx
    · exact HE.out.all x hx
    · exact HA.out.all x hx)
  have HAP := Lib.hid (apply_any (w := w3) pfS (m := (⟨gen, cut, fen, es, ms, os⟩ : MaV)) (d := (⟨ad, dr, km, cut', fen', (y0, y1, y2)⟩ : EdV)) rfl (HE.out.kept T3w.out.below) (HM.out.kept T3w.out.below) (HO.out.kept T3w.out.below) (HA.out.kept T3w.out.below) (HD.out.kept T3w.out.below) (HK.out.kept T3w.out.below) (by have := HFG.out.2.1; omega) (by have := HFG.out.1; omega) (HPP.out w3 T3w.out.below))
  have a0 : w3.cell? ⟨w.heap.size, 0, none⟩ = some (.int .i64 gen) := cell_blk T3w.out.g2 rfl
  have a1 : w3.cell? ⟨w.heap.size, 1, none⟩ = some (.int .i64 cut) := cell_blk T3w.out.g2 rfl
  have a2 : w3.cell? ⟨w.heap.size, 2, none⟩ = some (.int .i64 fen) := cell_blk T3w.out.g2 rfl
  have a3 : w3.cell? ⟨w.heap.size, 3, none⟩ = some (.slice ea en ec) := cell_blk T3w.out.g2 rfl
  have a4 : w3.cell? ⟨w.heap.size, 4, none⟩ = some (.slice ma mn mc) := cell_blk T3w.out.g2 rfl
  have a5 : w3.cell? ⟨w.heap.size, 5, none⟩ = some (.slice oa on oc) := cell_blk T3w.out.g2 rfl
  have e0 : w3.cell? ⟨w.heap.size + 1, 0, none⟩ = some (.slice aa an ac) := cell_blk T3w.out.g3 rfl
  have e1 : w3.cell? ⟨w.heap.size + 1, 1, none⟩ = some (.slice da dn dc) := cell_blk T3w.out.g3 rfl
  have e2 : w3.cell? ⟨w.heap.size + 1, 2, none⟩ = some (.slice ka kn kc) := cell_blk T3w.out.g3 rfl
  have e3 : w3.cell? ⟨w.heap.size + 1, 3, none⟩ = some (.int .i64 cut') := cell_blk T3w.out.g3 rfl
  have e4 : w3.cell? ⟨w.heap.size + 1, 4, none⟩ = some (.int .i64 fen') := cell_blk T3w.out.g3 rfl
  have e5 : w3.cell? ⟨w.heap.size + 1, 5, none⟩ = some (.int .i64 y0) := cell_blk T3w.out.g3 rfl
  have e6 : w3.cell? ⟨w.heap.size + 1, 6, none⟩ = some (.int .i64 y1) := cell_blk T3w.out.g3 rfl
  have e7 : w3.cell? ⟨w.heap.size + 1, 7, none⟩ = some (.int .i64 y2) := cell_blk T3w.out.g3 rfl
  go_wp2_with fail
  refine HAP.out.mono ?_
  rintro e w4 ⟨er, r, xa, xb, xe, xc, xd, xf, hi, rfl, ho1, ho2, ho3, hb4⟩
  have T4 := Lib.hid (T3w.out.step hb4)
  obtain ⟨rg, rc, rf, zs, lo, lp⟩ := r
  simp only at hi ho1 ho2 ho3 ⊢
  obtain ⟨rn, hrn⟩ : ∃ n, n = zs.length := ⟨_, rfl⟩
  obtain ⟨rm, hrm⟩ : ∃ n, n = lo.length := ⟨_, rfl⟩
  obtain ⟨ro, hro⟩ : ∃ n, n = lp.length := ⟨_, rfl⟩
  rw [← hrn] at ho1
  rw [← hrm] at ho2
  rw [← hro] at ho3
  rw [← hrn, ← hrm, ← hro]
  have hvx : VecAt EntS w4 xa rn xc zs := VecAt.ofOwn (S := EntS) ho1 hrn.symm (fun x hx => HOKE.out _ x (is_sub hi hx))
  have hvm : VecAt MarkS w4 xb rm xd lo := VecAt.ofOwn (S := MarkS) ho2 hrm.symm (fun _ _ => trivial)
  have hvo : VecAt OwnS w4 xe ro xf lp := VecAt.ofOwn (S := OwnS) ho3 hro.symm (fun _ _ => trivial)
  obtain ⟨w5, hw5⟩ : ∃ w5, w5 = w4.alloc (.cells #[.int .i64 rg, .int .i64 rc, .int .i64 rf, .slice xa rn xc, .slice xb rm xd, .slice xe ro xf] 26) := ⟨_, rfl⟩
  obtain ⟨nb, hnb⟩ : ∃ nb, nb = w4.heap.size := ⟨_, rfl⟩
  have hb5 : Below w4.heap.size w4 w5 := by rw [hw5]; exact (Below.refl _ _).alloc (Nat.le_refl _) _
  have N5 := Lib.hid (show w5.heap[nb]? = some (.cells #[.int .i64 rg, .int .i64 rc, .int .i64 rf, .slice xa rn xc, .slice xb rm xd, .slice xe ro xf] 26 (0, 0)) from by rw [hw5, hnb]; exact heap_alloc_new _ _)
  have T5 := Lib.hid (T4.out.step hb5)
  have HX := Lib.hid (hvx.kept hb5)
  have HXM := Lib.hid (hvm.kept hb5)
  have HXO := Lib.hid (hvo.kept hb5)
  have HI := Lib.hid hi
  have hxc1 := hvx.cap
  have hxc2 := hvx.capm
  have hxd1 := hvm.cap
  have hxd2 := hvm.capm
  have hxf1 := hvo.cap
  have hxf2 := hvo.capm
  have HW5 := Lib.hid hw5
  have HNB := Lib.hid hnb
  have HRN := Lib.hid hrn
  clear hb4 hb5 hw5 hnb ho1 ho2 ho3 hvx hvm hvo hi hrn hrm hro a0 a1 a2 a3 a4 a5 e0 e1 e2 e3 e4 e5 e6 e7
  go_upto_region 4 with fail
  rw [← HW5.out, ← HNB.out]
  by_cases her : er = 0
  rotate_left
  · have hz := HI.out
    rcases hz with ⟨_, _, h9⟩ | ⟨h9, _⟩
    rotate_left
    · exact absurd h9 her
    obtain ⟨rfl, rfl, rfl, rfl, rfl, rfl⟩ : rg = 0 ∧ rc = 0 ∧ rf = 0 ∧ zs = [] ∧ lo = [] ∧ lp = [] := by unfold ma0 at h9; simpa using h9
    have hrz : rn = 0 := by rw [HRN.out]; rfl
    subst hrz
    have hez : (er == 0) = false := beq_eq_false_iff_ne.2 her
    clear h9 HI
    have n0 : w5.cell? ⟨nb, 0, none⟩ = some (.int .i64 0) := cell_blk N5.out rfl
    have n3 : w5.cell? ⟨nb, 3, none⟩ = some (.slice xa 0 xc) := cell_blk N5.out rfl
    go_wp2_with fail
    go_ret
    exact ⟨rfl, T5.out.below⟩
  subst her
  have HY := Lib.hid (show ApYes pfS (⟨gen, cut, fen, es, ms, os⟩ : MaV) (⟨ad, dr, km, cut', fen', (y0, y1, y2)⟩ : EdV) (⟨rg, rc, rf, zs, lo, lp⟩ : MaV) from by
    rcases HI.out with ⟨h9, _⟩ | ⟨_, h9⟩
    · exact absurd rfl h9
    · exact h9)
  clear HI
  have HSB := Lib.hid (show ∀ x ∈ zs, x ∈ es ∨ x ∈ ad from fun x hx => yes_sub HY.out hx)
  have HRR := Lib.hid (mright_any (w := w5) pfS (s := rg) (d := rc) (hz := rf) HX.out HXM.out HXO.out (fun W x hx hB => HPP.out w5 T5.out.below W x (HSB.out x hx) hB))
  have HRI := Lib.hid (show IsMan pfS rg rc rf rn zs rm lo ro lp from by
    have h9 := rises_right HY.out
    unfold MaV.right at h9
    simp only at h9
    rw [HX.out.len, HXM.out.len, HXO.out.len] at h9
    exact h9)
  obtain rfl : rg = gen + 1 := HY.out.ok.gen
  have hrc : rc = max cut cut' := HY.out.ok.cut
  have hrf : rf = max fen fen' := HY.out.ok.fence
  have hgw := withinB_iff.1 (right_parts.1 HY.out.man).gen
  simp only at hgw
  have hgw2 : IntKind.i64.wrap (gen + 1) = gen + 1 := IntWalk.i64_in _ (by omega)
  have k2 : decide (rc < cut) = false := decide_eq_false (by omega)
  have k3 : decide (rc < cut') = false := decide_eq_false (by omega)
  have k4 : decide (rf < fen) = false := decide_eq_false (by omega)
  have k5 : decide (rf < fen') = false := decide_eq_false (by omega)
  have HRC := Lib.hid hrc
  have HRF := Lib.hid hrf
  clear hrc hrf hgw
  have n0 : w5.cell? ⟨nb, 0, none⟩ = some (.int .i64 (gen + 1)) := cell_blk N5.out rfl
  have n1 : w5.cell? ⟨nb, 1, none⟩ = some (.int .i64 rc) := cell_blk N5.out rfl
  have n2 : w5.cell? ⟨nb, 2, none⟩ = some (.int .i64 rf) := cell_blk N5.out rfl
  have n3 : w5.cell? ⟨nb, 3, none⟩ = some (.slice xa rn xc) := cell_blk N5.out rfl
  have n4 : w5.cell? ⟨nb, 4, none⟩ = some (.slice xb rm xd) := cell_blk N5.out rfl
  have n5 : w5.cell? ⟨nb, 5, none⟩ = some (.slice xe ro xf) := cell_blk N5.out rfl
  go_wp2_with fail
  refine HRR.out.mono ?_
  rintro e w6 ⟨⟨b3, rfl, hb3⟩, hb6⟩
  obtain rfl : b3 = true := hb3.2 HRI.out
  have T6 := Lib.hid (T5.out.step hb6)
  have N6 := Lib.hid (blk_step N5.out hb6)
  have HX6 := Lib.hid (HX.out.kept hb6)
  have HXM6 := Lib.hid (HXM.out.kept hb6)
  have HXO6 := Lib.hid (HXO.out.kept hb6)
  clear hb3 hb6 n0 n1 n2 n3 n4 n5 HX HXM HXO HRR
  have HDI := Lib.hid (did_any (w := w6) (s := gen + 1) (d := rc) (hz := rf) (ea := xa) (en := rn) (ec := xc) (ma := xb) (mn := rm) (mc := xd) HXO6.out y0 y1 y2)
  have a0 : w6.cell? ⟨w.heap.size, 0, none⟩ = some (.int .i64 gen) := cell_blk T6.out.g2 rfl
  have a1 : w6.cell? ⟨w.heap.size, 1, none⟩ = some (.int .i64 cut) := cell_blk T6.out.g2 rfl
  have a2 : w6.cell? ⟨w.heap.size, 2, none⟩ = some (.int .i64 fen) := cell_blk T6.out.g2 rfl
  have e3 : w6.cell? ⟨w.heap.size + 1, 3, none⟩ = some (.int .i64 cut') := cell_blk T6.out.g3 rfl
  have e4 : w6.cell? ⟨w.heap.size + 1, 4, none⟩ = some (.int .i64 fen') := cell_blk T6.out.g3 rfl
  have e5 : w6.cell? ⟨w.heap.size + 1, 5, none⟩ = some (.int .i64 y0) := cell_blk T6.out.g3 rfl
  have e6 : w6.cell? ⟨w.heap.size + 1, 6, none⟩ = some (.int .i64 y1) := cell_blk T6.out.g3 rfl
  have e7 : w6.cell? ⟨w.heap.size + 1, 7, none⟩ = some (.int .i64 y2) := cell_blk T6.out.g3 rfl
  have n0 : w6.cell? ⟨nb, 0, none⟩ = some (.int .i64 (gen + 1)) := cell_blk N6.out rfl
  have n1 : w6.cell? ⟨nb, 1, none⟩ = some (.int .i64 rc) := cell_blk N6.out rfl
  have n2 : w6.cell? ⟨nb, 2, none⟩ = some (.int .i64 rf) := cell_blk N6.out rfl
  have n3 : w6.cell? ⟨nb, 3, none⟩ = some (.slice xa rn xc) := cell_blk N6.out rfl
  have n4 : w6.cell? ⟨nb, 4, none⟩ = some (.slice xb rm xd) := cell_blk N6.out rfl
  have n5 : w6.cell? ⟨nb, 5, none⟩ = some (.slice xe ro xf) := cell_blk N6.out rfl
  go_wp2_with fail
  refine HDI.out.mono ?_
  rintro e w7 ⟨hd, hb7⟩
  obtain rfl : e = .returned (.bool true) := by unfold DidIs at hd; rw [rises_did HY.out rfl] at hd; exact hd
  have T7 := Lib.hid (T6.out.step hb7)
  have N7 := Lib.hid (blk_step N6.out hb7)
  have HX7 := Lib.hid (HX6.out.kept hb7)
  have HXM7 := Lib.hid (HXM6.out.kept hb7)
  have HXO7 := Lib.hid (HXO6.out.kept hb7)
  clear hd hb7 n0 n1 n2 n3 n4 n5 HX6 HXM6 HXO6 HDI a0 a1 a2 e3 e4 e5 e6 e7 k2 k3 k4 k5 hgw2
  have a4 : w7.cell? ⟨w.heap.size, 4, none⟩ = some (.slice ma mn mc) := cell_blk T7.out.g2 rfl
  go_wp2_with fail
  go_loopw [94] (fun s94 wr => ∃ k : Nat, k ≤ mn ∧ s94 = .int .i64 (k : Int) ∧ Hid (Below w7.heap.size w7 wr)) (fun s94 _ => mn - (intOf s94).toNat)
  case atStart => exact ⟨0, by omega, rfl, Lib.hid (Below.refl _ _)⟩
  case round =>
    clear a4
    obtain ⟨k, hk, rfl, HBR⟩ := hrel
    rename World => wr
    have TR := Lib.hid (T7.out.step HBR.out)
    have NR := Lib.hid (blk_step N7.out HBR.out)
    by_cases hkn : k < mn
    · have hki : (k : Int) < (mn : Int) := by omega
      obtain ⟨sb, so, rfl, hsl, _, hsc9⟩ := (HM.out.kept TR.out.below).get hkn
      obtain ⟨s, hse⟩ : ∃ s, s = ms.getD k MarkS.z := ⟨_, rfl⟩
      rw [← hse] at hsc9
      have HSM := Lib.hid (show s ∈ ms from by rw [hse]; exact vec_mem (S := MarkS) (by rw [HM.out.len]; exact hkn))
      clear hse
      obtain ⟨x0, x1⟩ := s
      have d0 : wr.cell? ⟨sb, so + k * 2, none⟩ = some (.int .i64 x0) := hsc9 0 _ rfl
      have d1 : wr.cell? ⟨sb, so + k * 2 + 1, none⟩ = some (.int .i64 x1) := hsc9 1 _ rfl
      obtain ⟨wx, hwx⟩ : ∃ wx, wx = wr.alloc (.cells #[.int .i64 x0, .int .i64 x1] 44) := ⟨_, rfl⟩
      obtain ⟨bk, hbk⟩ : ∃ bk, bk = wr.heap.size := ⟨_, rfl⟩
      have hbx : Below wr.heap.size wr wx := by rw [hwx]; exact (Below.refl _ _).alloc (Nat.le_refl _) _
      have HK5 := Lib.hid (show wx.heap[bk]? = some (.cells #[.int .i64 x0, .int .i64 x1] 44 (0, 0)) from by rw [hwx, hbk]; exact heap_alloc_new wr _)
      have HM5 := Lib.hid (blk_step NR.out hbx)
      have HBX := Lib.hid (HBR.out.trans (hbx.mono HBR.out.size))
      have HXW := Lib.hid ((HXM7.out.kept HBR.out).kept hbx)
      have HWX := Lib.hid hwx
      have HBK := Lib.hid hbk
      obtain ⟨mv, hmv⟩ : ∃ mv, mv = markV lo x0 := ⟨_, rfl⟩
      have HMW := Lib.hid (show ∀ W, Below wx.heap.size wx W → Calls Tryz.prog 16 #[.agg #[.int .i64 (gen + 1), .int .i64 rc, .int .i64 rf, .slice xa rn xc, .slice xb rm xd, .slice xe ro xf], .int .i64 x0] W fun e w' => e = .returned (.int .i64 mv) ∧ Below W.heap.size W w' from fun W hB => by rw [hmv]; exact mark_any (HXW.out.kept hB) x0)
      have hle : ¬ mv < x1 := by rw [hmv]; have h9 : x1 ≤ markV lo x0 := rises_marks HY.out HSM.out; omega
      have hz9 : decide (mv < x1) = false := decide_eq_false hle
      clear hsc9 hwx hbk hbx hmv hle
      go_upto_region 11 with fail
      rw [← HWX.out, ← HBK.out]
      refine wp_region_chain2 (by kernel_rfl) (by kernel_rfl) (by kernel_rfl) [3] true (by kernel_rfl) (fun k _ y => match k with
          | 0 => Below wx.heap.size wx y
          | _ => Below wx.heap.size wx y) (fun y => Below wx.heap.size wx y) (fun j_9 => match j_9 with | 0 => some (.agg #[.int .i64 (gen + 1), .int .i64 rc, .int .i64 rf, .slice xa rn xc, .slice xb rm xd, .slice xe ro xf]) | 1 => some (.pointer (some ⟨bk, 0, none⟩)) | 2 => some (.int .i64 x0) | 3 => some (.int .i64 mv) | 4 => some (.pointer (some ⟨bk, 1, none⟩)) | 5 => some (.int .i64 x1) | 6 => some (.bool false) | _ => none) (by rfl) (fun _ => (Below.refl _ _).drew) (fun k u y hk9 hk hs => by
          match k, hk, hs with
          | 0, _, hs => exact hs
          | 1, _, hs => exact hs) ?_ ?_ ?_
      · intro i9 o ho hc9 V w9 K hR9 hdep hK
        have HR9 := Lib.hid hR9
        have x0c := cell_blk (blk_step HK5.out HR9.out) (i := 0) (u := .int .i64 x0) rfl
        have x1c := cell_blk (blk_step HK5.out HR9.out) (i := 1) (u := .int .i64 x1) rfl
        have m0 := cell_blk (blk_step HM5.out HR9.out) (i := 0) (u := .int .i64 (gen + 1)) rfl
        have m1 := cell_blk (blk_step HM5.out HR9.out) (i := 1) (u := .int .i64 rc) rfl
        have m2 := cell_blk (blk_step HM5.out HR9.out) (i := 2) (u := .int .i64 rf) rfl
        have m3 := cell_blk (blk_step HM5.out HR9.out) (i := 3) (u := .slice xa rn xc) rfl
        have m4 := cell_blk (blk_step HM5.out HR9.out) (i := 4) (u := .slice xb rm xd) rfl
        have m5 := cell_blk (blk_step HM5.out HR9.out) (i := 5) (u := .slice xe ro xf) rfl
        clear hR9
        have hin9 : i9 < 7 := (Array.getElem?_eq_some_iff.1 ho).1
        have hcs : i9 = 0 ∨ i9 = 1 ∨ i9 = 2 ∨ i9 = 3 ∨ i9 = 4 ∨ i9 = 5 ∨ i9 = 6 := by omega
        clear hin9
        rcases hcs with rfl | rfl | rfl | rfl | rfl | rfl | rfl
        all_goals first
          | (cases hc9; done)
          | (obtain rfl := Option.some.inj ho.symm
             simp [KnB, Region.binds] at hdep
             clear ho hc9
             simp only [fill, slotOf, List.size_toArray, List.length_cons, List.length_nil, Nat.reduceAdd, List.getElem?_toArray, List.getElem?_cons_zero, List.getElem?_cons_succ, Option.bind_some, Act.put, List.setIfInBounds_toArray, List.set_cons_zero, List.set_cons_succ] at hK ⊢
             try simp only [hdep] at hK ⊢
             go_simp
             exact hK _ rfl _ rfl)
      · intro i9 j9 o he9 ho V w9 K hS9 hdep hK
        have hin9 : i9 < 1 := (List.getElem?_eq_some_iff.1 he9).1
        obtain rfl : i9 = 0 := by omega
        all_goals
          obtain rfl := Option.some.inj he9.symm
          obtain rfl := Option.some.inj ho.symm
          simp [KnB, Region.binds] at hdep
          clear ho he9
          simp only [fill, slotOf, List.size_toArray, List.length_cons, List.length_nil, Nat.reduceAdd, List.getElem?_toArray, List.getElem?_cons_zero, List.getElem?_cons_succ, Option.bind_some, Act.put, List.setIfInBounds_toArray, List.set_cons_zero, List.set_cons_succ] at hK ⊢
          try simp only [hdep] at hK ⊢
        · have HJ := Lib.hid hS9
          clear hS9
          have HMC := Lib.hid (HMW.out w9 HJ.out)
          go_simp
          refine HMC.out.mono ?_
          rintro e w8 ⟨rfl, hb8⟩
          exact hK _ w8 (HJ.out.trans (hb8.mono HJ.out.size)) (fun y h => Option.some.inj h) _ rfl
      · intro V wN hS9 hv9
        have hbN : Below wx.heap.size wx wN := hS9
        have h6 : V 6 = .bool false := hv9 6 _ (by decide) rfl
        have HBN := Lib.hid (HBX.out.trans (hbN.mono HBX.out.size))
        clear hS9 hv9 hbN
        simp only [fill, slotOf, List.size_toArray, List.length_cons, List.length_nil, Nat.reduceAdd, List.getElem?_toArray, List.getElem?_cons_zero, List.getElem?_cons_succ, Option.bind_some, Act.put, List.setIfInBounds_toArray, List.set_cons_zero, List.set_cons_succ]
        rw [h6]
        clear h6 hz9
        go_wp2_with fail
        go_roundw
        case rel => exact ⟨k + 1, by omega, by go_num, HBN⟩
        case measure => simp [intOf]; omega
    · obtain rfl : mn = k := by omega
      have HX8 := Lib.hid (HX7.out.kept HBR.out)
      have HXM8 := Lib.hid (HXM7.out.kept HBR.out)
      have HXO8 := Lib.hid (HXO7.out.kept HBR.out)
      clear HX7 HXM7 HXO7 hk hkn
      have e0 : wr.cell? ⟨w.heap.size + 1, 0, none⟩ = some (.slice aa an ac) := cell_blk TR.out.g3 rfl
      go_wp2_with fail
      go_loopw [109] (fun s109 wv => ∃ k : Nat, k ≤ an ∧ s109 = .int .i64 (k : Int) ∧ Hid (Below wr.heap.size wr wv)) (fun s109 _ => an - (intOf s109).toNat)
      case atStart => exact ⟨0, by omega, rfl, Lib.hid (Below.refl _ _)⟩
      case round =>
        clear e0
        obtain ⟨k, hk, rfl, HBV⟩ := hrel
        rename World => wv
        have TV := Lib.hid (TR.out.step HBV.out)
        have NV := Lib.hid (blk_step NR.out HBV.out)
        by_cases hkn : k < an
        · have hki : (k : Int) < (an : Int) := by omega
          obtain ⟨sb, so, rfl, hsl, hok, hsc9⟩ := (HA.out.kept TV.out.below).get hkn
          obtain ⟨s, hse⟩ : ∃ s, s = ad.getD k EntS.z := ⟨_, rfl⟩
          rw [← hse] at hsc9 hok
          have HSM := Lib.hid (show s ∈ ad from by rw [hse]; exact vec_mem (S := EntS) (by rw [HA.out.len]; exact hkn))
          clear hse
          have hbo : rf ≤ s.born := rises_born HY.out HSM.out
          have HFN := Lib.hid (show zs.find? (fun x => decide (x.key = s.key)) = if rc ≤ s.win then some s else none from rises_find HY.out HSM.out)
          obtain ⟨x0, x1, x2, x3, x4, x5, x6, x7, x8⟩ := s
          simp only at hbo HFN
          have d0 : wv.cell? ⟨sb, so + k * 9, none⟩ = some (.string x0) := hsc9 0 _ rfl
          have d1 : wv.cell? ⟨sb, so + k * 9 + 1, none⟩ = some (.int .i64 x1) := hsc9 1 _ rfl
          have d2 : wv.cell? ⟨sb, so + k * 9 + 2, none⟩ = some (.string x2) := hsc9 2 _ rfl
          have d3 : wv.cell? ⟨sb, so + k * 9 + 3, none⟩ = some (.int .i64 x3) := hsc9 3 _ rfl
          have d4 : wv.cell? ⟨sb, so + k * 9 + 4, none⟩ = some (.int .i64 x4) := hsc9 4 _ rfl
          have d5 : wv.cell? ⟨sb, so + k * 9 + 5, none⟩ = some (.int .i64 x5) := hsc9 5 _ rfl
          have d6 : wv.cell? ⟨sb, so + k * 9 + 6, none⟩ = some (.int .i64 x6) := hsc9 6 _ rfl
          have d7 : wv.cell? ⟨sb, so + k * 9 + 7, none⟩ = some (.int .u32 x7) := hsc9 7 _ rfl
          have d8 : wv.cell? ⟨sb, so + k * 9 + 8, none⟩ = some (.int .i64 x8) := hsc9 8 _ rfl
          obtain ⟨wx, hwx⟩ : ∃ wx, wx = wv.alloc (.cells #[.string x0, .int .i64 x1, .string x2, .int .i64 x3, .int .i64 x4, .int .i64 x5, .int .i64 x6, .int .u32 x7, .int .i64 x8] 42) := ⟨_, rfl⟩
          obtain ⟨bk, hbk⟩ : ∃ bk, bk = wv.heap.size := ⟨_, rfl⟩
          have hbx : Below wv.heap.size wv wx := by rw [hwx]; exact (Below.refl _ _).alloc (Nat.le_refl _) _
          have HK5 := Lib.hid (show wx.heap[bk]? = some (.cells #[.string x0, .int .i64 x1, .string x2, .int .i64 x3, .int .i64 x4, .int .i64 x5, .int .i64 x6, .int .u32 x7, .int .i64 x8] 42 (0, 0)) from by rw [hwx, hbk]; exact heap_alloc_new wv _)
          have HM5 := Lib.hid (blk_step NV.out hbx)
          have HBX := Lib.hid (HBV.out.trans (hbx.mono HBV.out.size))
          have HWX := Lib.hid hwx
          have HBK := Lib.hid hbk
          have HFI := Lib.hid (find_any (w := wx) (s := gen + 1) (d := rc) (hz := rf) (ma := xb) (mn := rm) (mc := xd) (oa := xe) (on := ro) (oc := xf) ((HX8.out.kept HBV.out).kept hbx) x0)
          have hz9 : decide (x8 < rf) = false := decide_eq_false (by omega)
          clear hsc9 hwx hbk hbx hbo hok
          go_upto_region 17 with fail
          rw [← HWX.out, ← HBK.out]
          have n0 : wx.cell? ⟨nb, 0, none⟩ = some (.int .i64 (gen + 1)) := cell_blk HM5.out rfl
          have n1 : wx.cell? ⟨nb, 1, none⟩ = some (.int .i64 rc) := cell_blk HM5.out rfl
          have n2 : wx.cell? ⟨nb, 2, none⟩ = some (.int .i64 rf) := cell_blk HM5.out rfl
          have n3 : wx.cell? ⟨nb, 3, none⟩ = some (.slice xa rn xc) := cell_blk HM5.out rfl
          have n4 : wx.cell? ⟨nb, 4, none⟩ = some (.slice xb rm xd) := cell_blk HM5.out rfl
          have n5 : wx.cell? ⟨nb, 5, none⟩ = some (.slice xe ro xf) := cell_blk HM5.out rfl
          have q0 : wx.cell? ⟨bk, 0, none⟩ = some (.string x0) := cell_blk HK5.out rfl
          go_wp2_with fail
          refine HFI.out.mono ?_
          rintro e wy ⟨hl, hby⟩
          unfold LkE at hl
          rw [HFN.out] at hl
          have HBY := Lib.hid (HBX.out.trans (hby.mono HBX.out.size))
          have HKY := Lib.hid (blk_step HK5.out hby)
          have HMY := Lib.hid (blk_step HM5.out hby)
          clear hby d0 d1 d2 d3 d4 d5 d6 d7 d8 n0 n1 n2 n3 n4 n5 q0 HFI
          by_cases hcw : rc ≤ x1
          · rw [if_pos hcw] at hl
            obtain rfl : e = .returned (.tuple #[.agg #[.string x0, .int .i64 x1, .string x2, .int .i64 x3, .int .i64 x4, .int .i64 x5, .int .i64 x6, .int .u32 x7, .int .i64 x8], .bool true]) := hl
            have hcb : decide (x1 ≥ rc) = true := decide_eq_true hcw
            obtain ⟨wz, hwz⟩ : ∃ wz, wz = wy.alloc (.cells #[.string x0, .int .i64 x1, .string x2, .int .i64 x3, .int .i64 x4, .int .i64 x5, .int .i64 x6, .int .u32 x7, .int .i64 x8] 42) := ⟨_, rfl⟩
            obtain ⟨bz, hbz⟩ : ∃ bz, bz = wy.heap.size := ⟨_, rfl⟩
            have hbw : Below wy.heap.size wy wz := by rw [hwz]; exact (Below.refl _ _).alloc (Nat.le_refl _) _
            have HZ5 := Lib.hid (show wz.heap[bz]? = some (.cells #[.string x0, .int .i64 x1, .string x2, .int .i64 x3, .int .i64 x4, .int .i64 x5, .int .i64 x6, .int .u32 x7, .int .i64 x8] 42 (0, 0)) from by rw [hwz, hbz]; exact heap_alloc_new wy _)
            have HBZ := Lib.hid (HBY.out.trans (hbw.mono HBY.out.size))
            have HKZ := Lib.hid (blk_step HKY.out hbw)
            have HMZ := Lib.hid (blk_step HMY.out hbw)
            have HWZ := Lib.hid hwz
            have HBZE := Lib.hid hbz
            clear hwz hbz hbw
            go_upto_region 18 with fail
            rw [← HWZ.out, ← HBZE.out]
            have n1 : wz.cell? ⟨nb, 1, none⟩ = some (.int .i64 rc) := cell_blk HMZ.out rfl
            have n2 : wz.cell? ⟨nb, 2, none⟩ = some (.int .i64 rf) := cell_blk HMZ.out rfl
            have q0 : wz.cell? ⟨bk, 0, none⟩ = some (.string x0) := cell_blk HKZ.out rfl
            have q1 : wz.cell? ⟨bk, 1, none⟩ = some (.int .i64 x1) := cell_blk HKZ.out rfl
            have q2 : wz.cell? ⟨bk, 2, none⟩ = some (.string x2) := cell_blk HKZ.out rfl
            have q3 : wz.cell? ⟨bk, 3, none⟩ = some (.int .i64 x3) := cell_blk HKZ.out rfl
            have q4 : wz.cell? ⟨bk, 4, none⟩ = some (.int .i64 x4) := cell_blk HKZ.out rfl
            have q5 : wz.cell? ⟨bk, 5, none⟩ = some (.int .i64 x5) := cell_blk HKZ.out rfl
            have q6 : wz.cell? ⟨bk, 6, none⟩ = some (.int .i64 x6) := cell_blk HKZ.out rfl
            have q7 : wz.cell? ⟨bk, 7, none⟩ = some (.int .u32 x7) := cell_blk HKZ.out rfl
            have q8 : wz.cell? ⟨bk, 8, none⟩ = some (.int .i64 x8) := cell_blk HKZ.out rfl
            have u0 : wz.cell? ⟨bz, 0, none⟩ = some (.string x0) := cell_blk HZ5.out rfl
            have u1 : wz.cell? ⟨bz, 1, none⟩ = some (.int .i64 x1) := cell_blk HZ5.out rfl
            have u2 : wz.cell? ⟨bz, 2, none⟩ = some (.string x2) := cell_blk HZ5.out rfl
            have u3 : wz.cell? ⟨bz, 3, none⟩ = some (.int .i64 x3) := cell_blk HZ5.out rfl
            have u4 : wz.cell? ⟨bz, 4, none⟩ = some (.int .i64 x4) := cell_blk HZ5.out rfl
            have u5 : wz.cell? ⟨bz, 5, none⟩ = some (.int .i64 x5) := cell_blk HZ5.out rfl
            have u6 : wz.cell? ⟨bz, 6, none⟩ = some (.int .i64 x6) := cell_blk HZ5.out rfl
            have u7 : wz.cell? ⟨bz, 7, none⟩ = some (.int .u32 x7) := cell_blk HZ5.out rfl
            have u8 : wz.cell? ⟨bz, 8, none⟩ = some (.int .i64 x8) := cell_blk HZ5.out rfl
            go_wp2_with fail
            go_roundw
            case rel => exact ⟨k + 1, by omega, by go_num, HBZ⟩
            case measure => simp [intOf]; omega
          · rw [if_neg hcw] at hl
            obtain rfl : e = .returned (.tuple #[.agg #[.string ByteArray.empty, .int .i64 0, .string ByteArray.empty, .int .i64 0, .int .i64 0, .int .i64 0, .int .i64 0, .int .u32 0, .int .i64 0], .bool false]) := hl
            have hcb : decide (x1 ≥ rc) = false := decide_eq_false hcw
            obtain ⟨wz, hwz⟩ : ∃ wz, wz = wy.alloc (.cells #[.string ByteArray.empty, .int .i64 0, .string ByteArray.empty, .int .i64 0, .int .i64 0, .int .i64 0, .int .i64 0, .int .u32 0, .int .i64 0] 42) := ⟨_, rfl⟩
            obtain ⟨bz, hbz⟩ : ∃ bz, bz = wy.heap.size := ⟨_, rfl⟩
            have hbw : Below wy.heap.size wy wz := by rw [hwz]; exact (Below.refl _ _).alloc (Nat.le_refl _) _
            have HZ5 := Lib.hid (show wz.heap[bz]? = some (.cells #[.string ByteArray.empty, .int .i64 0, .string ByteArray.empty, .int .i64 0, .int .i64 0, .int .i64 0, .int .i64 0, .int .u32 0, .int .i64 0] 42 (0, 0)) from by rw [hwz, hbz]; exact heap_alloc_new wy _)
            have HBZ := Lib.hid (HBY.out.trans (hbw.mono HBY.out.size))
            have HKZ := Lib.hid (blk_step HKY.out hbw)
            have HMZ := Lib.hid (blk_step HMY.out hbw)
            have HWZ := Lib.hid hwz
            have HBZE := Lib.hid hbz
            clear hwz hbz hbw
            go_upto_region 18 with fail
            rw [← HWZ.out, ← HBZE.out]
            have n1 : wz.cell? ⟨nb, 1, none⟩ = some (.int .i64 rc) := cell_blk HMZ.out rfl
            have n2 : wz.cell? ⟨nb, 2, none⟩ = some (.int .i64 rf) := cell_blk HMZ.out rfl
            have q0 : wz.cell? ⟨bk, 0, none⟩ = some (.string x0) := cell_blk HKZ.out rfl
            have q1 : wz.cell? ⟨bk, 1, none⟩ = some (.int .i64 x1) := cell_blk HKZ.out rfl
            have q2 : wz.cell? ⟨bk, 2, none⟩ = some (.string x2) := cell_blk HKZ.out rfl
            have q3 : wz.cell? ⟨bk, 3, none⟩ = some (.int .i64 x3) := cell_blk HKZ.out rfl
            have q4 : wz.cell? ⟨bk, 4, none⟩ = some (.int .i64 x4) := cell_blk HKZ.out rfl
            have q5 : wz.cell? ⟨bk, 5, none⟩ = some (.int .i64 x5) := cell_blk HKZ.out rfl
            have q6 : wz.cell? ⟨bk, 6, none⟩ = some (.int .i64 x6) := cell_blk HKZ.out rfl
            have q7 : wz.cell? ⟨bk, 7, none⟩ = some (.int .u32 x7) := cell_blk HKZ.out rfl
            have q8 : wz.cell? ⟨bk, 8, none⟩ = some (.int .i64 x8) := cell_blk HKZ.out rfl
            have u0 : wz.cell? ⟨bz, 0, none⟩ = some (.string ByteArray.empty) := cell_blk HZ5.out rfl
            have u1 : wz.cell? ⟨bz, 1, none⟩ = some (.int .i64 0) := cell_blk HZ5.out rfl
            have u2 : wz.cell? ⟨bz, 2, none⟩ = some (.string ByteArray.empty) := cell_blk HZ5.out rfl
            have u3 : wz.cell? ⟨bz, 3, none⟩ = some (.int .i64 0) := cell_blk HZ5.out rfl
            have u4 : wz.cell? ⟨bz, 4, none⟩ = some (.int .i64 0) := cell_blk HZ5.out rfl
            have u5 : wz.cell? ⟨bz, 5, none⟩ = some (.int .i64 0) := cell_blk HZ5.out rfl
            have u6 : wz.cell? ⟨bz, 6, none⟩ = some (.int .i64 0) := cell_blk HZ5.out rfl
            have u7 : wz.cell? ⟨bz, 7, none⟩ = some (.int .u32 0) := cell_blk HZ5.out rfl
            have u8 : wz.cell? ⟨bz, 8, none⟩ = some (.int .i64 0) := cell_blk HZ5.out rfl
            go_wp2_with fail
            go_roundw
            case rel => exact ⟨k + 1, by omega, by go_num, HBZ⟩
            case measure => simp [intOf]; omega
        · obtain rfl : an = k := by omega
          have HAP2 := Lib.hid (apply_any (w := wv) pfS (m := (⟨gen + 1, rc, rf, zs, lo, lp⟩ : MaV)) (d := (⟨ad, dr, km, cut', fen', (y0, y1, y2)⟩ : EdV)) rfl (HX8.out.kept HBV.out) (HXM8.out.kept HBV.out) (HXO8.out.kept HBV.out) (HA.out.kept TV.out.below) (HD.out.kept TV.out.below) (HK.out.kept TV.out.below) (by have := HFG.out.2.1; omega) (by have := HFG.out.1; omega) (fun W x hx hB => HPP.out wv TV.out.below W x (by
            rcases hx with hx | hx
            · exact HSB.out x hx
            · exact .inr hx) hB))
          clear hk hkn
          have n0 : wv.cell? ⟨nb, 0, none⟩ = some (.int .i64 (gen + 1)) := cell_blk NV.out rfl
          have n1 : wv.cell? ⟨nb, 1, none⟩ = some (.int .i64 rc) := cell_blk NV.out rfl
          have n2 : wv.cell? ⟨nb, 2, none⟩ = some (.int .i64 rf) := cell_blk NV.out rfl
          have n3 : wv.cell? ⟨nb, 3, none⟩ = some (.slice xa rn xc) := cell_blk NV.out rfl
          have n4 : wv.cell? ⟨nb, 4, none⟩ = some (.slice xb rm xd) := cell_blk NV.out rfl
          have n5 : wv.cell? ⟨nb, 5, none⟩ = some (.slice xe ro xf) := cell_blk NV.out rfl
          have e0 : wv.cell? ⟨w.heap.size + 1, 0, none⟩ = some (.slice aa an ac) := cell_blk TV.out.g3 rfl
          have e1 : wv.cell? ⟨w.heap.size + 1, 1, none⟩ = some (.slice da dn dc) := cell_blk TV.out.g3 rfl
          have e2 : wv.cell? ⟨w.heap.size + 1, 2, none⟩ = some (.slice ka kn kc) := cell_blk TV.out.g3 rfl
          have e3 : wv.cell? ⟨w.heap.size + 1, 3, none⟩ = some (.int .i64 cut') := cell_blk TV.out.g3 rfl
          have e4 : wv.cell? ⟨w.heap.size + 1, 4, none⟩ = some (.int .i64 fen') := cell_blk TV.out.g3 rfl
          have e5 : wv.cell? ⟨w.heap.size + 1, 5, none⟩ = some (.int .i64 y0) := cell_blk TV.out.g3 rfl
          have e6 : wv.cell? ⟨w.heap.size + 1, 6, none⟩ = some (.int .i64 y1) := cell_blk TV.out.g3 rfl
          have e7 : wv.cell? ⟨w.heap.size + 1, 7, none⟩ = some (.int .i64 y2) := cell_blk TV.out.g3 rfl
          go_wp2_with fail
          refine HAP2.out.mono ?_
          rintro e wz ⟨er2, r2, ya, yb, yc, yd, ye, yf, hi2, rfl, _, _, _, hbz⟩
          obtain rfl : er2 = 8 := again_8 HY.out hi2
          have TZ := Lib.hid (TV.out.step hbz)
          clear hi2 hbz n0 n1 n2 n3 n4 n5 e0 e1 e2 e3 e4 e5 e6 e7
          obtain ⟨wu, hwu⟩ : ∃ wu, wu = wz.alloc (.cells #[.int .i64 r2.gen, .int .i64 r2.cut, .int .i64 r2.fence, .slice ya r2.ents.length yd, .slice yb r2.marks.length ye, .slice yc r2.owns.length yf] 26) := ⟨_, rfl⟩
          have TU := Lib.hid (TZ.out.step (show Below wz.heap.size wz wu from by rw [hwu]; exact (Below.refl _ _).alloc (Nat.le_refl _) _))
          have HWU := Lib.hid hwu
          clear hwu
          go_wp2_with fail
          go_ret
          exact ⟨rfl, by first | exact TU.out.below | (rw [← HWU.out]; exact TU.out.below)⟩
/-- as the frame takes it -/
theorem rises_go (gen cut fen : Int) (ea : Option Addr) (en ec : Nat) (es : List EntV) (ma : Option Addr) (mn mc : Nat) (ms : List (Int × Int)) (oa : Option Addr) (on oc : Nat) (os : List (Int × Int × Int)) (aa : Option Addr) (an ac : Nat) (ad : List EntV) (da : Option Addr) (dn dc : Nat) (dr : List ByteArray) (ka : Option Addr) (kn kc : Nat) (km : List (Int × Int)) (cut' fen' y0 y1 y2 : Int) (w : World) (hE : VecAt EntS w ea en ec es) (hM : VecAt MarkS w ma mn mc ms) (hO : VecAt OwnS w oa on oc os) (hA : VecAt EntS w aa an ac ad) (hD : VecAt KeyS w da dn dc dr) (hK : VecAt MarkS w ka kn kc km) (hmx : ∃ m, w.cell? ⟨0, 0, none⟩ = some (.int .i64 m)) :
    Calls Tryz.prog 5 #[.agg #[.int .i64 gen, .int .i64 cut, .int .i64 fen, .slice ea en ec, .slice ma mn mc, .slice oa on oc], .agg #[.slice aa an ac, .slice da dn dc, .slice ka kn kc, .int .i64 cut', .int .i64 fen', .int .i64 y0, .int .i64 y1, .int .i64 y2]] w fun e w' => e = .returned (.bool true) ∧ Below w.heap.size w w' := by
  obtain ⟨mx, hmx⟩ := hmx
  exact rises_any hE hM hO hA hD hK hmx
end Go.Proofs.YtadfmenlpnibnaaGreat
end PkMS12_2
