/- An edit that came in, opened. Written by gencoopen.py. -/
import Derived.Test.YtmpcbfjcmnjlnaaGreatDoorRows
import Derived.Test.YtmpcbfjcmnjlnaaGreatDoorCoPacesWalk
import Derived.Deep.Slices
import Derived.Deep.Fields
import Derived.SizedLaws
import Derived.Below
import Derived.OpenShut
import Derived.ChangeSlices
namespace Go.Proofs.YtmpcbfjcmnjlnaaGreatDoor
open Go.ChangeShapes Go.WideShapes Go.Deep Go.RowKit
set_option linter.unusedVariables false

theorem no_need {W : World} (h : laidMetH Tryz.prog Rows.commitPacesRow.laid W) : True := trivial

set_option maxRecDepth 100000 in
theorem entry_cells {H : Type} {enc : TypeId × Value → H} {W : World} (fuel : Nat) (cs : List Value) (y : DataW H × List MemPlace) (h : DataW.trod enc Tryz.prog W 0 (fun _ => true) true fuel 48 cs = some y) :
    EntP cs ∧ cs.length = 9 ∧ ∀ u ∈ cs, u.oneCell' = true := by
  obtain ⟨xs, n, _, hy, hcl, hxl, hfld⟩ := DataW.trod_struct Tryz.underlying48 h
  rw [show Tryz.prog.cellsOf 48 = 9 from by kernel_rfl] at hcl
  have hxl2 : xs.length = 9 := hxl
  match cs, xs, hcl, hxl2 with
  | [v0, v1, v2, v3, v4, v5, v6, v7, v8], [p0, p1, p2, p3, p4, p5, p6, p7, p8], _, _ =>
    have t0 : DataW.trod enc Tryz.prog W 0 (fun _ => true) true n 9 (List.take (Tryz.prog.cellsOf 9) (List.drop 0 [v0, v1, v2, v3, v4, v5, v6, v7, v8])) = [p0, p1, p2, p3, p4, p5, p6, p7, p8][0]? := hfld 0 _ rfl
    rw [show Tryz.prog.cellsOf 9 = 1 from by kernel_rfl] at t0
    have u0 : DataW.trod enc Tryz.prog W 0 (fun _ => true) true n 9 [v0] = some p0 := by simpa using t0
    have t1 : DataW.trod enc Tryz.prog W 0 (fun _ => true) true n 3 (List.take (Tryz.prog.cellsOf 3) (List.drop 1 [v0, v1, v2, v3, v4, v5, v6, v7, v8])) = [p0, p1, p2, p3, p4, p5, p6, p7, p8][1]? := hfld 1 _ rfl
    rw [show Tryz.prog.cellsOf 3 = 1 from by kernel_rfl] at t1
    have u1 : DataW.trod enc Tryz.prog W 0 (fun _ => true) true n 3 [v1] = some p1 := by simpa using t1
    have t2 : DataW.trod enc Tryz.prog W 0 (fun _ => true) true n 9 (List.take (Tryz.prog.cellsOf 9) (List.drop 2 [v0, v1, v2, v3, v4, v5, v6, v7, v8])) = [p0, p1, p2, p3, p4, p5, p6, p7, p8][2]? := hfld 2 _ rfl
    rw [show Tryz.prog.cellsOf 9 = 1 from by kernel_rfl] at t2
    have u2 : DataW.trod enc Tryz.prog W 0 (fun _ => true) true n 9 [v2] = some p2 := by simpa using t2
    have t3 : DataW.trod enc Tryz.prog W 0 (fun _ => true) true n 3 (List.take (Tryz.prog.cellsOf 3) (List.drop 3 [v0, v1, v2, v3, v4, v5, v6, v7, v8])) = [p0, p1, p2, p3, p4, p5, p6, p7, p8][3]? := hfld 3 _ rfl
    rw [show Tryz.prog.cellsOf 3 = 1 from by kernel_rfl] at t3
    have u3 : DataW.trod enc Tryz.prog W 0 (fun _ => true) true n 3 [v3] = some p3 := by simpa using t3
    have t4 : DataW.trod enc Tryz.prog W 0 (fun _ => true) true n 3 (List.take (Tryz.prog.cellsOf 3) (List.drop 4 [v0, v1, v2, v3, v4, v5, v6, v7, v8])) = [p0, p1, p2, p3, p4, p5, p6, p7, p8][4]? := hfld 4 _ rfl
    rw [show Tryz.prog.cellsOf 3 = 1 from by kernel_rfl] at t4
    have u4 : DataW.trod enc Tryz.prog W 0 (fun _ => true) true n 3 [v4] = some p4 := by simpa using t4
    have t5 : DataW.trod enc Tryz.prog W 0 (fun _ => true) true n 3 (List.take (Tryz.prog.cellsOf 3) (List.drop 5 [v0, v1, v2, v3, v4, v5, v6, v7, v8])) = [p0, p1, p2, p3, p4, p5, p6, p7, p8][5]? := hfld 5 _ rfl
    rw [show Tryz.prog.cellsOf 3 = 1 from by kernel_rfl] at t5
    have u5 : DataW.trod enc Tryz.prog W 0 (fun _ => true) true n 3 [v5] = some p5 := by simpa using t5
    have t6 : DataW.trod enc Tryz.prog W 0 (fun _ => true) true n 3 (List.take (Tryz.prog.cellsOf 3) (List.drop 6 [v0, v1, v2, v3, v4, v5, v6, v7, v8])) = [p0, p1, p2, p3, p4, p5, p6, p7, p8][6]? := hfld 6 _ rfl
    rw [show Tryz.prog.cellsOf 3 = 1 from by kernel_rfl] at t6
    have u6 : DataW.trod enc Tryz.prog W 0 (fun _ => true) true n 3 [v6] = some p6 := by simpa using t6
    have t7 : DataW.trod enc Tryz.prog W 0 (fun _ => true) true n 46 (List.take (Tryz.prog.cellsOf 46) (List.drop 7 [v0, v1, v2, v3, v4, v5, v6, v7, v8])) = [p0, p1, p2, p3, p4, p5, p6, p7, p8][7]? := hfld 7 _ rfl
    rw [show Tryz.prog.cellsOf 46 = 1 from by kernel_rfl] at t7
    have u7 : DataW.trod enc Tryz.prog W 0 (fun _ => true) true n 46 [v7] = some p7 := by simpa using t7
    have t8 : DataW.trod enc Tryz.prog W 0 (fun _ => true) true n 3 (List.take (Tryz.prog.cellsOf 3) (List.drop 8 [v0, v1, v2, v3, v4, v5, v6, v7, v8])) = [p0, p1, p2, p3, p4, p5, p6, p7, p8][8]? := hfld 8 _ rfl
    rw [show Tryz.prog.cellsOf 3 = 1 from by kernel_rfl] at t8
    have u8 : DataW.trod enc Tryz.prog W 0 (fun _ => true) true n 3 [v8] = some p8 := by simpa using t8
    obtain ⟨s0, hs0, _, _⟩ := DataW.trod_string Tryz.underlying9 u0
    have e0 : v0 = .string s0 := by simpa using hs0
    obtain ⟨s1, hs1, _, _⟩ := DataW.trod_int Tryz.underlying3 u1
    have e1 : v1 = .int .i64 s1 := by simpa using hs1
    obtain ⟨s2, hs2, _, _⟩ := DataW.trod_string Tryz.underlying9 u2
    have e2 : v2 = .string s2 := by simpa using hs2
    obtain ⟨s3, hs3, _, _⟩ := DataW.trod_int Tryz.underlying3 u3
    have e3 : v3 = .int .i64 s3 := by simpa using hs3
    obtain ⟨s4, hs4, _, _⟩ := DataW.trod_int Tryz.underlying3 u4
    have e4 : v4 = .int .i64 s4 := by simpa using hs4
    obtain ⟨s5, hs5, _, _⟩ := DataW.trod_int Tryz.underlying3 u5
    have e5 : v5 = .int .i64 s5 := by simpa using hs5
    obtain ⟨s6, hs6, _, _⟩ := DataW.trod_int Tryz.underlying3 u6
    have e6 : v6 = .int .i64 s6 := by simpa using hs6
    obtain ⟨s7, hs7, _, _⟩ := DataW.trod_int Tryz.underlying46 u7
    have e7 : v7 = .int .u32 s7 := by simpa using hs7
    obtain ⟨s8, hs8, _, _⟩ := DataW.trod_int Tryz.underlying3 u8
    have e8 : v8 = .int .i64 s8 := by simpa using hs8
    subst e0 e1 e2 e3 e4 e5 e6 e7 e8
    exact ⟨⟨s0, s2, s1, s3, s4, s5, s6, s7, s8, rfl⟩, rfl, by intro u hu; simp only [List.mem_cons, List.not_mem_nil, or_false] at hu; rcases hu with rfl | rfl | rfl | rfl | rfl | rfl | rfl | rfl | rfl <;> rfl⟩

set_option maxRecDepth 100000 in
theorem mark_cells {H : Type} {enc : TypeId × Value → H} {W : World} (fuel : Nat) (cs : List Value) (y : DataW H × List MemPlace) (h : DataW.trod enc Tryz.prog W 0 (fun _ => true) true fuel 54 cs = some y) :
    True ∧ cs.length = 2 ∧ ∀ u ∈ cs, u.oneCell' = true := by
  obtain ⟨xs, n, _, hy, hcl, hxl, hfld⟩ := DataW.trod_struct Tryz.underlying54 h
  rw [show Tryz.prog.cellsOf 54 = 2 from by kernel_rfl] at hcl
  have hxl2 : xs.length = 2 := hxl
  match cs, xs, hcl, hxl2 with
  | [v0, v1], [p0, p1], _, _ =>
    have t0 : DataW.trod enc Tryz.prog W 0 (fun _ => true) true n 3 (List.take (Tryz.prog.cellsOf 3) (List.drop 0 [v0, v1])) = [p0, p1][0]? := hfld 0 _ rfl
    rw [show Tryz.prog.cellsOf 3 = 1 from by kernel_rfl] at t0
    have u0 : DataW.trod enc Tryz.prog W 0 (fun _ => true) true n 3 [v0] = some p0 := by simpa using t0
    have t1 : DataW.trod enc Tryz.prog W 0 (fun _ => true) true n 3 (List.take (Tryz.prog.cellsOf 3) (List.drop 1 [v0, v1])) = [p0, p1][1]? := hfld 1 _ rfl
    rw [show Tryz.prog.cellsOf 3 = 1 from by kernel_rfl] at t1
    have u1 : DataW.trod enc Tryz.prog W 0 (fun _ => true) true n 3 [v1] = some p1 := by simpa using t1
    obtain ⟨s0, hs0, _, _⟩ := DataW.trod_int Tryz.underlying3 u0
    have e0 : v0 = .int .i64 s0 := by simpa using hs0
    obtain ⟨s1, hs1, _, _⟩ := DataW.trod_int Tryz.underlying3 u1
    have e1 : v1 = .int .i64 s1 := by simpa using hs1
    subst e0 e1
    exact ⟨trivial, rfl, by intro u hu; simp only [List.mem_cons, List.not_mem_nil, or_false] at hu; rcases hu with rfl | rfl <;> rfl⟩

set_option maxRecDepth 100000 in
theorem owner_cells {H : Type} {enc : TypeId × Value → H} {W : World} (fuel : Nat) (cs : List Value) (y : DataW H × List MemPlace) (h : DataW.trod enc Tryz.prog W 0 (fun _ => true) true fuel 26 cs = some y) :
    ∃ a b c : Int, cs = [.int .i64 a, .int .i64 b, .int .i64 c] := by
  obtain ⟨xs, n, _, hy, hcl, hxl, hfld⟩ := DataW.trod_struct Tryz.underlying26 h
  rw [show Tryz.prog.cellsOf 26 = 3 from by kernel_rfl] at hcl
  have hxl2 : xs.length = 3 := hxl
  match cs, xs, hcl, hxl2 with
  | [v0, v1, v2], [p0, p1, p2], _, _ =>
    have t0 : DataW.trod enc Tryz.prog W 0 (fun _ => true) true n 3 (List.take (Tryz.prog.cellsOf 3) (List.drop 0 [v0, v1, v2])) = [p0, p1, p2][0]? := hfld 0 _ rfl
    rw [show Tryz.prog.cellsOf 3 = 1 from by kernel_rfl] at t0
    have u0 : DataW.trod enc Tryz.prog W 0 (fun _ => true) true n 3 [v0] = some p0 := by simpa using t0
    have t1 : DataW.trod enc Tryz.prog W 0 (fun _ => true) true n 3 (List.take (Tryz.prog.cellsOf 3) (List.drop 1 [v0, v1, v2])) = [p0, p1, p2][1]? := hfld 1 _ rfl
    rw [show Tryz.prog.cellsOf 3 = 1 from by kernel_rfl] at t1
    have u1 : DataW.trod enc Tryz.prog W 0 (fun _ => true) true n 3 [v1] = some p1 := by simpa using t1
    have t2 : DataW.trod enc Tryz.prog W 0 (fun _ => true) true n 3 (List.take (Tryz.prog.cellsOf 3) (List.drop 2 [v0, v1, v2])) = [p0, p1, p2][2]? := hfld 2 _ rfl
    rw [show Tryz.prog.cellsOf 3 = 1 from by kernel_rfl] at t2
    have u2 : DataW.trod enc Tryz.prog W 0 (fun _ => true) true n 3 [v2] = some p2 := by simpa using t2
    obtain ⟨s0, hs0, _, _⟩ := DataW.trod_int Tryz.underlying3 u0
    have e0 : v0 = .int .i64 s0 := by simpa using hs0
    obtain ⟨s1, hs1, _, _⟩ := DataW.trod_int Tryz.underlying3 u1
    have e1 : v1 = .int .i64 s1 := by simpa using hs1
    obtain ⟨s2, hs2, _, _⟩ := DataW.trod_int Tryz.underlying3 u2
    have e2 : v2 = .int .i64 s2 := by simpa using hs2
    subst e0 e1 e2
    exact ⟨s0, s1, s2, rfl⟩

theorem text_cells {H : Type} {enc : TypeId × Value → H} {W : World} (fuel : Nat) (cs : List Value) (y : DataW H × List MemPlace) (h : DataW.trod enc Tryz.prog W 0 (fun _ => true) true fuel 9 cs = some y) :
    True ∧ cs.length = 1 ∧ ∀ u ∈ cs, u.oneCell' = true := by
  obtain ⟨s, hs, _, _⟩ := DataW.trod_string Tryz.underlying9 h
  subst hs
  exact ⟨trivial, rfl, by intro u hu; simp only [List.mem_cons, List.not_mem_nil, or_false] at hu; subst hu; rfl⟩

set_option maxRecDepth 100000 in
/-- an edit that came in -/
theorem open_edit {H : Type} {enc : TypeId × Value → H} {W : World} {fuel : Nat} {cs : Array Value} {x : DataW H × List MemPlace}
    (h : DataW.trod enc Tryz.prog W 0 (fun _ => true) true fuel 28 cs.toList = some x) :
    ∃ (a0 : Option Addr) (n0 c0 : Nat) (a1 : Option Addr) (n1 c1 : Nat) (a2 : Option Addr) (n2 c2 : Nat) (l0 l1 l2 : List (List Value)) (ct fe ag li cn : Int), cs = #[.slice a0 n0 c0, .slice a1 n1 c1, .slice a2 n2 c2, .int .i64 ct, .int .i64 fe, .int .i64 ag, .int .i64 li, .int .i64 cn] ∧ CellsAt W a0 n0 c0 9 l0 ∧ (∀ x ∈ l0, EntP x) ∧ CellsAt W a1 n1 c1 1 l1 ∧ CellsAt W a2 n2 c2 2 l2 := by
  obtain ⟨xs, n, _, hy, hcl, hxl, hfld⟩ := DataW.trod_struct Tryz.underlying28 h
  rw [show Tryz.prog.cellsOf 28 = 8 from by kernel_rfl] at hcl
  have hxl2 : xs.length = 6 := hxl
  obtain ⟨ls, hls⟩ : ∃ ls, ls = cs.toList := ⟨_, rfl⟩
  have hcs : cs = ls.toArray := by rw [hls]
  rw [← hls] at hcl hfld
  subst hcs
  clear h hls
  match ls, xs, hcl, hxl2 with
  | [v0, v1, v2, v3, v4, v5, v6, v7], [p0, p1, p2, p3, p4, p5], _, _ =>
    have t0 : DataW.trod enc Tryz.prog W 0 (fun _ => true) true n 22 (List.take (Tryz.prog.cellsOf 22) (List.drop 0 [v0, v1, v2, v3, v4, v5, v6, v7])) = [p0, p1, p2, p3, p4, p5][0]? := hfld 0 _ rfl
    rw [show Tryz.prog.cellsOf 22 = 1 from by kernel_rfl] at t0
    have u0 : DataW.trod enc Tryz.prog W 0 (fun _ => true) true n 22 [v0] = some p0 := by simpa using t0
    have t1 : DataW.trod enc Tryz.prog W 0 (fun _ => true) true n 23 (List.take (Tryz.prog.cellsOf 23) (List.drop 1 [v0, v1, v2, v3, v4, v5, v6, v7])) = [p0, p1, p2, p3, p4, p5][1]? := hfld 1 _ rfl
    rw [show Tryz.prog.cellsOf 23 = 1 from by kernel_rfl] at t1
    have u1 : DataW.trod enc Tryz.prog W 0 (fun _ => true) true n 23 [v1] = some p1 := by simpa using t1
    have t2 : DataW.trod enc Tryz.prog W 0 (fun _ => true) true n 24 (List.take (Tryz.prog.cellsOf 24) (List.drop 2 [v0, v1, v2, v3, v4, v5, v6, v7])) = [p0, p1, p2, p3, p4, p5][2]? := hfld 2 _ rfl
    rw [show Tryz.prog.cellsOf 24 = 1 from by kernel_rfl] at t2
    have u2 : DataW.trod enc Tryz.prog W 0 (fun _ => true) true n 24 [v2] = some p2 := by simpa using t2
    have t3 : DataW.trod enc Tryz.prog W 0 (fun _ => true) true n 3 (List.take (Tryz.prog.cellsOf 3) (List.drop 3 [v0, v1, v2, v3, v4, v5, v6, v7])) = [p0, p1, p2, p3, p4, p5][3]? := hfld 3 _ rfl
    rw [show Tryz.prog.cellsOf 3 = 1 from by kernel_rfl] at t3
    have u3 : DataW.trod enc Tryz.prog W 0 (fun _ => true) true n 3 [v3] = some p3 := by simpa using t3
    have t4 : DataW.trod enc Tryz.prog W 0 (fun _ => true) true n 3 (List.take (Tryz.prog.cellsOf 3) (List.drop 4 [v0, v1, v2, v3, v4, v5, v6, v7])) = [p0, p1, p2, p3, p4, p5][4]? := hfld 4 _ rfl
    rw [show Tryz.prog.cellsOf 3 = 1 from by kernel_rfl] at t4
    have u4 : DataW.trod enc Tryz.prog W 0 (fun _ => true) true n 3 [v4] = some p4 := by simpa using t4
    have t5 : DataW.trod enc Tryz.prog W 0 (fun _ => true) true n 26 (List.take (Tryz.prog.cellsOf 26) (List.drop 5 [v0, v1, v2, v3, v4, v5, v6, v7])) = [p0, p1, p2, p3, p4, p5][5]? := hfld 5 _ rfl
    rw [show Tryz.prog.cellsOf 26 = 3 from by kernel_rfl] at t5
    have u5 : DataW.trod enc Tryz.prog W 0 (fun _ => true) true n 26 [v5, v6, v7] = some p5 := by simpa using t5
    obtain ⟨ag, li, cn, he5⟩ := owner_cells _ _ _ u5
    obtain ⟨s3, hs3, _, _⟩ := DataW.trod_int Tryz.underlying3 u3
    have e3 : v3 = .int .i64 s3 := by simpa using hs3
    obtain ⟨s4, hs4, _, _⟩ := DataW.trod_int Tryz.underlying3 u4
    have e4 : v4 = .int .i64 s4 := by simpa using hs4
    have hv0 : ∃ a len cap, v0 = .slice a len cap := by
      rcases open_slice Tryz.underlying22 u0 with ⟨hcs, _⟩ | ⟨x0, l, c, m, n, D, Pl, hcs, _⟩
      · simp at hcs; exact ⟨_, _, _, hcs⟩
      · simp at hcs; exact ⟨_, _, _, hcs⟩
    obtain ⟨a0, n0, c0, hq0⟩ := hv0
    have hv1 : ∃ a len cap, v1 = .slice a len cap := by
      rcases open_slice Tryz.underlying23 u1 with ⟨hcs, _⟩ | ⟨x0, l, c, m, n, D, Pl, hcs, _⟩
      · simp at hcs; exact ⟨_, _, _, hcs⟩
      · simp at hcs; exact ⟨_, _, _, hcs⟩
    obtain ⟨a1, n1, c1, hq1⟩ := hv1
    have hv2 : ∃ a len cap, v2 = .slice a len cap := by
      rcases open_slice Tryz.underlying24 u2 with ⟨hcs, _⟩ | ⟨x0, l, c, m, n, D, Pl, hcs, _⟩
      · simp at hcs; exact ⟨_, _, _, hcs⟩
      · simp at hcs; exact ⟨_, _, _, hcs⟩
    obtain ⟨a2, n2, c2, hq2⟩ := hv2
    subst e3 e4 hq0 hq1 hq2
    obtain ⟨rfl, rfl, rfl⟩ : v5 = .int .i64 ag ∧ v6 = .int .i64 li ∧ v7 = .int .i64 cn := by simpa using he5
    obtain ⟨l0, h0, hp⟩ := open_cells Tryz.underlying22 (K := 9) (by kernel_rfl) (by omega) EntP (fun n cs y h => entry_cells n cs y h) u0
    obtain ⟨l1, h1, _⟩ := open_cells Tryz.underlying23 (K := 1) (by kernel_rfl) (by omega) (fun _ => True) (fun n cs y h => text_cells n cs y h) u1
    obtain ⟨l2, h2, _⟩ := open_cells Tryz.underlying24 (K := 2) (by kernel_rfl) (by omega) (fun _ => True) (fun n cs y h => mark_cells n cs y h) u2
    exact ⟨a0, n0, c0, a1, n1, c1, a2, n2, c2, l0, l1, l2, s3, s4, ag, li, cn, rfl, h0, hp, h1, h2⟩
end Go.Proofs.YtmpcbfjcmnjlnaaGreatDoor
