/- A setting that came in, opened. Written by genupopen.py. -/
import Derived.Test.YtpgpgpbckjginaaUpPacesWalk
import Derived.Deep.Slices
import Derived.Deep.Fields
import Derived.SizedLaws
import Derived.Below
import Derived.OpenShut
import Derived.ChangeSlices
namespace Go.Proofs.Ytpgpgpbckjginaa
open Go.ChangeShapes Go.WideShapes Go.Deep Go.RowKit
set_option linter.unusedVariables false

set_option maxRecDepth 100000 in
/-- a setting that came in -/
theorem open_setting {H : Type} {enc : TypeId × Value → H} {W : World} {fuel : Nat} {cs : Array Value} {x : DataW H × List MemPlace}
    (h : DataW.trod enc Try.prog W 0 (fun _ => true) true fuel 24 cs.toList = some x) (hw : ∀ n, n ∈ DataW.weights Try.prog 24 x.1 → n ≤ reachBytes) :
    ∃ (ky : ByteArray) (a : Option Addr) (len cap : Nat) (xs : List Nat) (pc tr wt : Int), cs = #[.string ky, .slice a len cap, .int .i64 pc, .int .i64 tr, .int .i64 wt] ∧ ky.size ≤ 140737488355328 ∧ BytesAt W a len cap xs := by
  obtain ⟨xs, n, _, hy, hcl, hxl, hfld⟩ := DataW.trod_struct Try.underlying24 h
  rw [show Try.prog.cellsOf 24 = 5 from by kernel_rfl] at hcl
  have hxl2 : xs.length = 5 := hxl
  obtain ⟨ls, hls⟩ : ∃ ls, ls = cs.toList := ⟨_, rfl⟩
  have hcs : cs = ls.toArray := by rw [hls]
  rw [← hls] at hcl hfld
  subst hcs
  clear h hls
  match ls, xs, hcl, hxl2 with
  | [v0, v1, v2, v3, v4], [p0, p1, p2, p3, p4], _, _ =>
    have t0 : DataW.trod enc Try.prog W 0 (fun _ => true) true n 9 (List.take (Try.prog.cellsOf 9) (List.drop 0 [v0, v1, v2, v3, v4])) = [p0, p1, p2, p3, p4][0]? := hfld 0 _ rfl
    rw [show Try.prog.cellsOf 9 = 1 from by kernel_rfl] at t0
    have u0 : DataW.trod enc Try.prog W 0 (fun _ => true) true n 9 [v0] = some p0 := by simpa using t0
    have t1 : DataW.trod enc Try.prog W 0 (fun _ => true) true n 22 (List.take (Try.prog.cellsOf 22) (List.drop 1 [v0, v1, v2, v3, v4])) = [p0, p1, p2, p3, p4][1]? := hfld 1 _ rfl
    rw [show Try.prog.cellsOf 22 = 1 from by kernel_rfl] at t1
    have u1 : DataW.trod enc Try.prog W 0 (fun _ => true) true n 22 [v1] = some p1 := by simpa using t1
    have t2 : DataW.trod enc Try.prog W 0 (fun _ => true) true n 3 (List.take (Try.prog.cellsOf 3) (List.drop 2 [v0, v1, v2, v3, v4])) = [p0, p1, p2, p3, p4][2]? := hfld 2 _ rfl
    rw [show Try.prog.cellsOf 3 = 1 from by kernel_rfl] at t2
    have u2 : DataW.trod enc Try.prog W 0 (fun _ => true) true n 3 [v2] = some p2 := by simpa using t2
    have t3 : DataW.trod enc Try.prog W 0 (fun _ => true) true n 3 (List.take (Try.prog.cellsOf 3) (List.drop 3 [v0, v1, v2, v3, v4])) = [p0, p1, p2, p3, p4][3]? := hfld 3 _ rfl
    rw [show Try.prog.cellsOf 3 = 1 from by kernel_rfl] at t3
    have u3 : DataW.trod enc Try.prog W 0 (fun _ => true) true n 3 [v3] = some p3 := by simpa using t3
    have t4 : DataW.trod enc Try.prog W 0 (fun _ => true) true n 3 (List.take (Try.prog.cellsOf 3) (List.drop 4 [v0, v1, v2, v3, v4])) = [p0, p1, p2, p3, p4][4]? := hfld 4 _ rfl
    rw [show Try.prog.cellsOf 3 = 1 from by kernel_rfl] at t4
    have u4 : DataW.trod enc Try.prog W 0 (fun _ => true) true n 3 [v4] = some p4 := by simpa using t4
    obtain ⟨s0, hs0, hx0, _⟩ := DataW.trod_string Try.underlying9 u0
    obtain ⟨s2, hs2, hx2, _⟩ := DataW.trod_int Try.underlying3 u2
    obtain ⟨s3, hs3, hx3, _⟩ := DataW.trod_int Try.underlying3 u3
    obtain ⟨s4, hs4, hx4, _⟩ := DataW.trod_int Try.underlying3 u4
    have e0 : v0 = .string s0 := by simpa using hs0
    have e2 : v2 = .int .i64 s2 := by simpa using hs2
    have e3 : v3 = .int .i64 s3 := by simpa using hs3
    have e4 : v4 = .int .i64 s4 := by simpa using hs4
    subst e0 e2 e3 e4
    have hy1 : x.1 = .agg [p0.1, p1.1, p2.1, p3.1, p4.1] := by rw [hy]; rfl
    have w0 := hw s0.data.toList.length (by rw [hy1, hx0]; simp [DataW.weights, DataW.weightsEach, Try.underlying24])
    have hr := reachBytes_lt
    have w1 : ∀ m, m ∈ DataW.weights Try.prog 22 p1.1 → m ≤ reachBytes := fun m hm => hw m (by rw [hy1]; simp [DataW.weights, DataW.weightsEach, Try.underlying24, hm])
    obtain ⟨a, len, cap, zs, he, hrow⟩ : ∃ (a : Option Addr) (len cap : Nat) (zs : List Int), v1 = .slice a len cap ∧ IsRow .u8 1 W a len cap zs := by
      rcases open_ints Try.underlying22 Try.underlying5 (by kernel_rfl) u1 with ⟨hcs, _⟩ | ⟨y, l, c, zs, hcs, _, hl, hm, hz, hd, hcell, hwz⟩
      · simp at hcs
        exact ⟨none, 0, 0, [], hcs, .inl ⟨rfl, rfl, rfl, rfl⟩⟩
      · simp at hcs
        have hz2 : zs.length = c := by simpa using hz
        have hs := w1 (((lits IntKind.u8 (zs.take l) : List (DataW H)).length + (lits IntKind.u8 (zs.drop l) : List (DataW H)).length) * Try.prog.bytesOf 5) (by
          rw [hd]
          simp only [DataW.weights, Try.underlying22]
          exact List.mem_cons_self)
        rw [show Try.prog.bytesOf 5 = 1 from by kernel_rfl] at hs
        simp only [lits, List.length_map, List.length_take, List.length_drop, reachBytes] at hs
        exact ⟨some y, l, c, zs, hcs, .inr ⟨_, rfl, hl, hm, hz2, hcell, hwz, by omega⟩⟩
    subst he
    obtain ⟨bs, hbs⟩ := hrow.bytes
    exact ⟨s0, a, len, cap, bs, s2, s3, s4, rfl, by show s0.size ≤ _; simp at w0; omega, hbs⟩
end Go.Proofs.Ytpgpgpbckjginaa
