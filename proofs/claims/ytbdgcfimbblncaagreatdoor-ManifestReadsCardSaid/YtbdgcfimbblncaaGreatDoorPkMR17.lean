/- Texts put together by packtpl2.py: MfLim, MfOpen, CrcLaid, TiedSh. -/
import Derived.Test.YtbdgcfimbblncaaGreatDoorPkMR2
import Derived.Test.YtbdgcfimbblncaaGreatDoorPkMR8
import Derived.Test.YtbdgcfimbblncaaGreatDoorPkMR10
import Derived.Deep.Slices
import Derived.Deep.Fields
import Derived.SizedLaws
import Derived.OpenShut
import Derived.Test.YtbdgcfimbblncaaGreatDoorRows
import Derived.Lib.LaidTab
import Derived.MakeChecks
import Derived.Handed
import Derived.HandedShaped
section PkMR17_0
/- Manifests: a right manifest keeps the limits (parted from XMfBP, XMfBW). -/
namespace Go.Proofs.YtbdgcfimbblncaaGreatDoor
open Go.RowKit NumsPlain LabPlain CrcPlain
set_option linter.unusedVariables false

/-- an entry that is read as it was written, by these limits -/
def EntLim (mw mr mz : Int) (x : EntV) : Prop := x.key.size ≤ 40 ∧ x.part.size ≤ 1024 ∧ (0 ≤ x.win ∧ x.win ≤ mw ∧ x.win ≤ 1099511627775) ∧ (0 ≤ x.fst ∧ x.fst ≤ mw ∧ x.fst ≤ 1099511627775) ∧ (0 ≤ x.lst ∧ x.lst ≤ mw ∧ x.lst ≤ 1099511627775) ∧ (0 ≤ x.rows ∧ x.rows ≤ mr ∧ x.rows ≤ 1099511627775) ∧ (0 ≤ x.size ∧ x.size ≤ mz ∧ x.size ≤ 1099511627775) ∧ (0 ≤ x.sum ∧ x.sum ≤ 4294967295) ∧ (0 ≤ x.born ∧ x.born ≤ mw ∧ x.born ≤ 1099511627775)
theorem ris_count {α : Type} {p : α → Bool} {cm : α → α → Int} {d : α} {l : List α} {n : Nat} {m : Int} (key : α → Int) (h : RisOk p cm d l n) (hp : ∀ x, p x = true → 1 ≤ key x ∧ key x ≤ m) (hc : ∀ a b, cm a b < 0 → key a < key b) (h0 : 0 ≤ m) : (n : Int) ≤ m := by
  have h1 : ∀ j, j < n → (j : Int) + 1 ≤ key (l.getD j d) := by
    intro j
    induction j with
    | zero => intro hj; have := (hp _ (h 0 hj).1).1; omega
    | succ j ih =>
      intro hj
      have h2 := ih (by omega)
      have h3 := hc _ _ ((h (j + 1) hj).2 (by omega))
      rw [Nat.add_sub_cancel] at h3
      omega
  rcases Nat.eq_zero_or_pos n with e | e
  · omega
  · have h2 := h1 (n - 1) (by omega)
    have h3 := (hp _ (h (n - 1) (by omega)).1).2
    omega
theorem set_size {s : ByteArray} (h : (setIn s).isSome = true) : s.size ≤ 1000 := by
  cases hs : setIn s with
  | none => rw [hs] at h; cases h
  | some l =>
    obtain ⟨h1, h2⟩ := setIn_sound hs
    have h4 := textTo_size h1 l.length (Nat.le_refl _)
    have h5 : l.length ≤ 4 := ((Bool.and_eq_true _ _).mp h1 |>.1 |> of_decide_eq_true)
    rw [← h2]
    unfold textOf
    rw [ByteArray.size_append, show ({ data := #[125] } : ByteArray).size = 1 from rfl]; omega
theorem key_size {s : ByteArray} (h : keyB s = true) : s.size ≤ 40 := by
  unfold keyB at h
  simp only [Bool.and_eq_true, decide_eq_true_eq] at h
  exact h.2.1
/-- a right manifest keeps the limits -/
theorem man_lim {s d hz : Int} {en : Nat} {le : List EntV} {mn : Nat} {lm : List (Int × Int)} {on : Nat} {lo : List (Int × Int × Int)} {mw mr mz k1 k2 : Int} (h : IsMan pfS s d hz en le mn lm on lo) (hle : le.length = en) (hlm : lm.length = mn) (hlo : lo.length = on) (hsum : ∀ x ∈ le, 0 ≤ x.sum ∧ x.sum ≤ 4294967295) (hmw : 1099511627775 ≤ mw) (hmr : 2048 ≤ mr) (hmz : 262144 ≤ mz) (hk1 : 64 ≤ k1) (hk2 : 8 ≤ k2) :
    (∀ x ∈ le, EntLim mw mr mz x) ∧ (∀ x ∈ lm, (0 ≤ x.1 ∧ x.1 ≤ k1 ∧ x.1 ≤ 1099511627775) ∧ (0 ≤ x.2 ∧ x.2 ≤ mw ∧ x.2 ≤ 1099511627775)) ∧ (∀ x ∈ lo, (0 ≤ x.1 ∧ x.1 ≤ k2 ∧ x.1 ≤ 1099511627775) ∧ (0 ≤ x.2.1 ∧ x.2.1 ≤ mw ∧ x.2.1 ≤ 1099511627775) ∧ (0 ≤ x.2.2 ∧ x.2.2 ≤ mw ∧ x.2.2 ≤ 1099511627775)) ∧ le.length ≤ 256 ∧ lm.length ≤ 64 ∧ lo.length ≤ 8 := by
  obtain ⟨h1, h2, h3, h4, h5⟩ := h
  refine ⟨fun x hx => ?_, fun x hx => ?_, fun x hx => ?_, by omega, ?_, ?_⟩
  · obtain ⟨j, hj, e⟩ := List.getElem_of_mem hx
    have e2 : le.getD j EntS.z = x := by simp [hj, e]
    have h6 := (h3 j (by omega)).1
    rw [e2] at h6
    simp only [stayB, pfS_is, entB, withinB, Bool.and_eq_true, decide_eq_true_eq] at h6
    have h7 := key_size h6.1.1
    have h8 := set_size h6.1.2.2.1
    have h9 := hsum x hx
    refine ⟨h7, by omega, ⟨?_, ?_, ?_⟩, ⟨?_, ?_, ?_⟩, ⟨?_, ?_, ?_⟩, ⟨?_, ?_, ?_⟩, ⟨?_, ?_, ?_⟩, h9, ⟨?_, ?_, ?_⟩⟩ <;> omega
  · obtain ⟨j, hj, e⟩ := List.getElem_of_mem hx
    have e2 : lm.getD j MarkS.z = x := by simp [hj, e]
    have h6 := (h4 j (by omega)).1
    rw [e2] at h6
    simp only [isMarkB, withinB, Bool.and_eq_true, decide_eq_true_eq] at h6
    refine ⟨⟨?_, ?_, ?_⟩, ⟨?_, ?_, ?_⟩⟩ <;> omega
  · obtain ⟨j, hj, e⟩ := List.getElem_of_mem hx
    have e2 : lo.getD j OwnS.z = x := by simp [hj, e]
    have h6 := (h5 j (by omega)).1
    rw [e2] at h6
    simp only [isOwnB, withinB, Bool.and_eq_true, decide_eq_true_eq] at h6
    refine ⟨⟨?_, ?_, ?_⟩, ⟨?_, ?_, ?_⟩, ⟨?_, ?_, ?_⟩⟩ <;> omega
  · have := ris_count (m := 64) (fun x : Int × Int => x.1) h4 (fun x hx => by simp only [isMarkB, withinB, Bool.and_eq_true, decide_eq_true_eq] at hx; exact hx.1) (fun a b hab => (cmp3_lt9 _ _).1 hab) (by decide)
    omega
  · have := ris_count (m := 8) (fun x : Int × Int × Int => x.1) h5 (fun x hx => by simp only [isOwnB, withinB, Bool.and_eq_true, decide_eq_true_eq] at hx; exact hx.1) (fun a b hab => (cmp3_lt9 _ _).1 hab) (by decide)
    omega
end Go.Proofs.YtbdgcfimbblncaaGreatDoor
end PkMR17_0
section PkMR17_1
/- Manifests and owners, opened as a law's arguments. Written by genmfopen.py. -/
namespace Go.Proofs.YtbdgcfimbblncaaGreatDoor
open Go.ChangeShapes Go.WideShapes Go.Deep Go.RowKit LabPlain
set_option linter.unusedVariables false

theorem u32_wfb {n : Int} (h : (Lit.int .u32 n).wf = true) : 0 ≤ n ∧ n ≤ 4294967295 := by
  simpa [Lit.wf, IntKind.min, IntKind.max, IntKind.signed, IntKind.bits] using h

set_option maxRecDepth 100000 in
theorem mkr_fields0 {H : Type} {enc : TypeId × Value → H} {W : World} {fuel : Nat} {cs : List Value} {y : DataW H × List MemPlace} (h : DataW.trod enc Tryz.prog W 0 (fun _ => true) true fuel 43 cs = some y) (hw : ∀ n, n ∈ DataW.weights Tryz.prog 43 y.1 → n ≤ reachBytes) :
    ∃ (s0 : Int) (s1 : Int), cs = [.int .i64 s0, .int .i64 s1] ∧ (Lit.int .i64 s0).wf = true ∧ (Lit.int .i64 s1).wf = true ∧ True := by
  obtain ⟨xs, n, _, hy, hcl, hxl, hfld⟩ := DataW.trod_struct Tryz.underlying43 h
  rw [show Tryz.prog.cellsOf 43 = 2 from by kernel_rfl] at hcl
  have hxl2 : xs.length = 2 := hxl
  match cs, xs, hcl, hxl2 with
  | [v0, v1], [p0, p1], _, _ =>
    have t0 : DataW.trod enc Tryz.prog W 0 (fun _ => true) true n 3 (List.take (Tryz.prog.cellsOf 3) (List.drop 0 [v0, v1])) = [p0, p1][0]? := hfld 0 _ rfl
    rw [show Tryz.prog.cellsOf 3 = 1 from by kernel_rfl] at t0
    obtain ⟨s0, hs0, hx0, hw0⟩ := DataW.trod_int Tryz.underlying3 (show DataW.trod enc Tryz.prog W 0 (fun _ => true) true n 3 [v0] = some p0 from by simpa using t0)
    have e0 : v0 = .int .i64 s0 := by simpa using hs0
    have t1 : DataW.trod enc Tryz.prog W 0 (fun _ => true) true n 3 (List.take (Tryz.prog.cellsOf 3) (List.drop 1 [v0, v1])) = [p0, p1][1]? := hfld 1 _ rfl
    rw [show Tryz.prog.cellsOf 3 = 1 from by kernel_rfl] at t1
    obtain ⟨s1, hs1, hx1, hw1⟩ := DataW.trod_int Tryz.underlying3 (show DataW.trod enc Tryz.prog W 0 (fun _ => true) true n 3 [v1] = some p1 from by simpa using t1)
    have e1 : v1 = .int .i64 s1 := by simpa using hs1
    subst e0 e1
    have hy1 : y.1 = .agg [p0.1, p1.1] := by rw [hy]; rfl
    have hr := reachBytes_lt
    exact ⟨s0, s1, rfl, hw0, hw1, trivial⟩

theorem mkr_fields {H : Type} {enc : TypeId × Value → H} {W : World} {fuel : Nat} {cs : List Value} {y : DataW H × List MemPlace} (h : DataW.trod enc Tryz.prog W 0 (fun _ => true) true fuel 43 cs = some y) (hw : ∀ n, n ∈ DataW.weights Tryz.prog 43 y.1 → n ≤ reachBytes) :
    ∃ r : (Int × Int), cs = MarkS.f r ∧ MarkS.ok W r := by
  obtain ⟨s0, s1, rfl, _⟩ := mkr_fields0 h hw
  exact ⟨(s0, s1), rfl, trivial⟩

set_option maxRecDepth 100000 in
theorem own_fields0 {H : Type} {enc : TypeId × Value → H} {W : World} {fuel : Nat} {cs : List Value} {y : DataW H × List MemPlace} (h : DataW.trod enc Tryz.prog W 0 (fun _ => true) true fuel 45 cs = some y) (hw : ∀ n, n ∈ DataW.weights Tryz.prog 45 y.1 → n ≤ reachBytes) :
    ∃ (s0 : Int) (s1 : Int) (s2 : Int), cs = [.int .i64 s0, .int .i64 s1, .int .i64 s2] ∧ (Lit.int .i64 s0).wf = true ∧ (Lit.int .i64 s1).wf = true ∧ (Lit.int .i64 s2).wf = true ∧ True := by
  obtain ⟨xs, n, _, hy, hcl, hxl, hfld⟩ := DataW.trod_struct Tryz.underlying45 h
  rw [show Tryz.prog.cellsOf 45 = 3 from by kernel_rfl] at hcl
  have hxl2 : xs.length = 3 := hxl
  match cs, xs, hcl, hxl2 with
  | [v0, v1, v2], [p0, p1, p2], _, _ =>
    have t0 : DataW.trod enc Tryz.prog W 0 (fun _ => true) true n 3 (List.take (Tryz.prog.cellsOf 3) (List.drop 0 [v0, v1, v2])) = [p0, p1, p2][0]? := hfld 0 _ rfl
    rw [show Tryz.prog.cellsOf 3 = 1 from by kernel_rfl] at t0
    obtain ⟨s0, hs0, hx0, hw0⟩ := DataW.trod_int Tryz.underlying3 (show DataW.trod enc Tryz.prog W 0 (fun _ => true) true n 3 [v0] = some p0 from by simpa using t0)
    have e0 : v0 = .int .i64 s0 := by simpa using hs0
    have t1 : DataW.trod enc Tryz.prog W 0 (fun _ => true) true n 3 (List.take (Tryz.prog.cellsOf 3) (List.drop 1 [v0, v1, v2])) = [p0, p1, p2][1]? := hfld 1 _ rfl
    rw [show Tryz.prog.cellsOf 3 = 1 from by kernel_rfl] at t1
    obtain ⟨s1, hs1, hx1, hw1⟩ := DataW.trod_int Tryz.underlying3 (show DataW.trod enc Tryz.prog W 0 (fun _ => true) true n 3 [v1] = some p1 from by simpa using t1)
    have e1 : v1 = .int .i64 s1 := by simpa using hs1
    have t2 : DataW.trod enc Tryz.prog W 0 (fun _ => true) true n 3 (List.take (Tryz.prog.cellsOf 3) (List.drop 2 [v0, v1, v2])) = [p0, p1, p2][2]? := hfld 2 _ rfl
    rw [show Tryz.prog.cellsOf 3 = 1 from by kernel_rfl] at t2
    obtain ⟨s2, hs2, hx2, hw2⟩ := DataW.trod_int Tryz.underlying3 (show DataW.trod enc Tryz.prog W 0 (fun _ => true) true n 3 [v2] = some p2 from by simpa using t2)
    have e2 : v2 = .int .i64 s2 := by simpa using hs2
    subst e0 e1 e2
    have hy1 : y.1 = .agg [p0.1, p1.1, p2.1] := by rw [hy]; rfl
    have hr := reachBytes_lt
    exact ⟨s0, s1, s2, rfl, hw0, hw1, hw2, trivial⟩

theorem own_fields {H : Type} {enc : TypeId × Value → H} {W : World} {fuel : Nat} {cs : List Value} {y : DataW H × List MemPlace} (h : DataW.trod enc Tryz.prog W 0 (fun _ => true) true fuel 45 cs = some y) (hw : ∀ n, n ∈ DataW.weights Tryz.prog 45 y.1 → n ≤ reachBytes) :
    ∃ r : (Int × Int × Int), cs = OwnS.f r ∧ OwnS.ok W r := by
  obtain ⟨s0, s1, s2, rfl, _⟩ := own_fields0 h hw
  exact ⟨(s0, s1, s2), rfl, trivial⟩

set_option maxRecDepth 100000 in
theorem enr_fields0 {H : Type} {enc : TypeId × Value → H} {W : World} {fuel : Nat} {cs : List Value} {y : DataW H × List MemPlace} (h : DataW.trod enc Tryz.prog W 0 (fun _ => true) true fuel 53 cs = some y) (hw : ∀ n, n ∈ DataW.weights Tryz.prog 53 y.1 → n ≤ reachBytes) :
    ∃ (s0 : ByteArray) (s1 : Int) (s2 : ByteArray) (s3 : Int) (s4 : Int) (s5 : Int) (s6 : Int) (s7 : Int) (s8 : Int), cs = [.string s0, .int .i64 s1, .string s2, .int .i64 s3, .int .i64 s4, .int .i64 s5, .int .i64 s6, .int .u32 s7, .int .i64 s8] ∧ s0.size ≤ 140737488355328 ∧ (Lit.int .i64 s1).wf = true ∧ s2.size ≤ 140737488355328 ∧ (Lit.int .i64 s3).wf = true ∧ (Lit.int .i64 s4).wf = true ∧ (Lit.int .i64 s5).wf = true ∧ (Lit.int .i64 s6).wf = true ∧ (Lit.int .u32 s7).wf = true ∧ (Lit.int .i64 s8).wf = true ∧ True := by
  obtain ⟨xs, n, _, hy, hcl, hxl, hfld⟩ := DataW.trod_struct Tryz.underlying53 h
  rw [show Tryz.prog.cellsOf 53 = 9 from by kernel_rfl] at hcl
  have hxl2 : xs.length = 9 := hxl
  match cs, xs, hcl, hxl2 with
  | [v0, v1, v2, v3, v4, v5, v6, v7, v8], [p0, p1, p2, p3, p4, p5, p6, p7, p8], _, _ =>
    have t0 : DataW.trod enc Tryz.prog W 0 (fun _ => true) true n 9 (List.take (Tryz.prog.cellsOf 9) (List.drop 0 [v0, v1, v2, v3, v4, v5, v6, v7, v8])) = [p0, p1, p2, p3, p4, p5, p6, p7, p8][0]? := hfld 0 _ rfl
    rw [show Tryz.prog.cellsOf 9 = 1 from by kernel_rfl] at t0
    obtain ⟨s0, hs0, hx0, _⟩ := DataW.trod_string Tryz.underlying9 (show DataW.trod enc Tryz.prog W 0 (fun _ => true) true n 9 [v0] = some p0 from by simpa using t0)
    have e0 : v0 = .string s0 := by simpa using hs0
    have t1 : DataW.trod enc Tryz.prog W 0 (fun _ => true) true n 3 (List.take (Tryz.prog.cellsOf 3) (List.drop 1 [v0, v1, v2, v3, v4, v5, v6, v7, v8])) = [p0, p1, p2, p3, p4, p5, p6, p7, p8][1]? := hfld 1 _ rfl
    rw [show Tryz.prog.cellsOf 3 = 1 from by kernel_rfl] at t1
    obtain ⟨s1, hs1, hx1, hw1⟩ := DataW.trod_int Tryz.underlying3 (show DataW.trod enc Tryz.prog W 0 (fun _ => true) true n 3 [v1] = some p1 from by simpa using t1)
    have e1 : v1 = .int .i64 s1 := by simpa using hs1
    have t2 : DataW.trod enc Tryz.prog W 0 (fun _ => true) true n 9 (List.take (Tryz.prog.cellsOf 9) (List.drop 2 [v0, v1, v2, v3, v4, v5, v6, v7, v8])) = [p0, p1, p2, p3, p4, p5, p6, p7, p8][2]? := hfld 2 _ rfl
    rw [show Tryz.prog.cellsOf 9 = 1 from by kernel_rfl] at t2
    obtain ⟨s2, hs2, hx2, _⟩ := DataW.trod_string Tryz.underlying9 (show DataW.trod enc Tryz.prog W 0 (fun _ => true) true n 9 [v2] = some p2 from by simpa using t2)
    have e2 : v2 = .string s2 := by simpa using hs2
    have t3 : DataW.trod enc Tryz.prog W 0 (fun _ => true) true n 3 (List.take (Tryz.prog.cellsOf 3) (List.drop 3 [v0, v1, v2, v3, v4, v5, v6, v7, v8])) = [p0, p1, p2, p3, p4, p5, p6, p7, p8][3]? := hfld 3 _ rfl
    rw [show Tryz.prog.cellsOf 3 = 1 from by kernel_rfl] at t3
    obtain ⟨s3, hs3, hx3, hw3⟩ := DataW.trod_int Tryz.underlying3 (show DataW.trod enc Tryz.prog W 0 (fun _ => true) true n 3 [v3] = some p3 from by simpa using t3)
    have e3 : v3 = .int .i64 s3 := by simpa using hs3
    have t4 : DataW.trod enc Tryz.prog W 0 (fun _ => true) true n 3 (List.take (Tryz.prog.cellsOf 3) (List.drop 4 [v0, v1, v2, v3, v4, v5, v6, v7, v8])) = [p0, p1, p2, p3, p4, p5, p6, p7, p8][4]? := hfld 4 _ rfl
    rw [show Tryz.prog.cellsOf 3 = 1 from by kernel_rfl] at t4
    obtain ⟨s4, hs4, hx4, hw4⟩ := DataW.trod_int Tryz.underlying3 (show DataW.trod enc Tryz.prog W 0 (fun _ => true) true n 3 [v4] = some p4 from by simpa using t4)
    have e4 : v4 = .int .i64 s4 := by simpa using hs4
    have t5 : DataW.trod enc Tryz.prog W 0 (fun _ => true) true n 3 (List.take (Tryz.prog.cellsOf 3) (List.drop 5 [v0, v1, v2, v3, v4, v5, v6, v7, v8])) = [p0, p1, p2, p3, p4, p5, p6, p7, p8][5]? := hfld 5 _ rfl
    rw [show Tryz.prog.cellsOf 3 = 1 from by kernel_rfl] at t5
    obtain ⟨s5, hs5, hx5, hw5⟩ := DataW.trod_int Tryz.underlying3 (show DataW.trod enc Tryz.prog W 0 (fun _ => true) true n 3 [v5] = some p5 from by simpa using t5)
    have e5 : v5 = .int .i64 s5 := by simpa using hs5
    have t6 : DataW.trod enc Tryz.prog W 0 (fun _ => true) true n 3 (List.take (Tryz.prog.cellsOf 3) (List.drop 6 [v0, v1, v2, v3, v4, v5, v6, v7, v8])) = [p0, p1, p2, p3, p4, p5, p6, p7, p8][6]? := hfld 6 _ rfl
    rw [show Tryz.prog.cellsOf 3 = 1 from by kernel_rfl] at t6
    obtain ⟨s6, hs6, hx6, hw6⟩ := DataW.trod_int Tryz.underlying3 (show DataW.trod enc Tryz.prog W 0 (fun _ => true) true n 3 [v6] = some p6 from by simpa using t6)
    have e6 : v6 = .int .i64 s6 := by simpa using hs6
    have t7 : DataW.trod enc Tryz.prog W 0 (fun _ => true) true n 51 (List.take (Tryz.prog.cellsOf 51) (List.drop 7 [v0, v1, v2, v3, v4, v5, v6, v7, v8])) = [p0, p1, p2, p3, p4, p5, p6, p7, p8][7]? := hfld 7 _ rfl
    rw [show Tryz.prog.cellsOf 51 = 1 from by kernel_rfl] at t7
    obtain ⟨s7, hs7, hx7, hw7⟩ := DataW.trod_int Tryz.underlying51 (show DataW.trod enc Tryz.prog W 0 (fun _ => true) true n 51 [v7] = some p7 from by simpa using t7)
    have e7 : v7 = .int .u32 s7 := by simpa using hs7
    have t8 : DataW.trod enc Tryz.prog W 0 (fun _ => true) true n 3 (List.take (Tryz.prog.cellsOf 3) (List.drop 8 [v0, v1, v2, v3, v4, v5, v6, v7, v8])) = [p0, p1, p2, p3, p4, p5, p6, p7, p8][8]? := hfld 8 _ rfl
    rw [show Tryz.prog.cellsOf 3 = 1 from by kernel_rfl] at t8
    obtain ⟨s8, hs8, hx8, hw8⟩ := DataW.trod_int Tryz.underlying3 (show DataW.trod enc Tryz.prog W 0 (fun _ => true) true n 3 [v8] = some p8 from by simpa using t8)
    have e8 : v8 = .int .i64 s8 := by simpa using hs8
    subst e0 e1 e2 e3 e4 e5 e6 e7 e8
    have hy1 : y.1 = .agg [p0.1, p1.1, p2.1, p3.1, p4.1, p5.1, p6.1, p7.1, p8.1] := by rw [hy]; rfl
    have hr := reachBytes_lt
    have w0 := hw s0.data.toList.length (by rw [hy1, hx0]; simp [DataW.weights, DataW.weightsEach, Tryz.underlying53])
    have w2 := hw s2.data.toList.length (by rw [hy1, hx2]; simp [DataW.weights, DataW.weightsEach, Tryz.underlying53])
    exact ⟨s0, s1, s2, s3, s4, s5, s6, s7, s8, rfl, (by simp at w0; omega), hw1, (by simp at w2; omega), hw3, hw4, hw5, hw6, hw7, hw8, trivial⟩

theorem enr_fields {H : Type} {enc : TypeId × Value → H} {W : World} {fuel : Nat} {cs : List Value} {y : DataW H × List MemPlace} (h : DataW.trod enc Tryz.prog W 0 (fun _ => true) true fuel 53 cs = some y) (hw : ∀ n, n ∈ DataW.weights Tryz.prog 53 y.1 → n ≤ reachBytes) :
    ∃ r : EntV, cs = EntS.f r ∧ EntS.ok W r := by
  obtain ⟨s0, s1, s2, s3, s4, s5, s6, s7, s8, rfl, h0, _, h2, _, _, _, _, h7, _⟩ := enr_fields0 h hw
  exact ⟨⟨s0, s1, s2, s3, s4, s5, s6, s7, s8⟩, rfl, ⟨h0, h2, u32_wfb h7⟩⟩

set_option maxRecDepth 100000 in
theorem man_fields0 {H : Type} {enc : TypeId × Value → H} {W : World} {fuel : Nat} {cs : List Value} {y : DataW H × List MemPlace} (h : DataW.trod enc Tryz.prog W 0 (fun _ => true) true fuel 26 cs = some y) (hw : ∀ n, n ∈ DataW.weights Tryz.prog 26 y.1 → n ≤ reachBytes) :
    ∃ (s0 : Int) (s1 : Int) (s2 : Int) (a3 : Option Addr) (n3 c3 : Nat) (l3 : List _) (a4 : Option Addr) (n4 c4 : Nat) (l4 : List _) (a5 : Option Addr) (n5 c5 : Nat) (l5 : List _), cs = [.int .i64 s0, .int .i64 s1, .int .i64 s2, .slice a3 n3 c3, .slice a4 n4 c4, .slice a5 n5 c5] ∧ (Lit.int .i64 s0).wf = true ∧ (Lit.int .i64 s1).wf = true ∧ (Lit.int .i64 s2).wf = true ∧ VecAt (EntS) W a3 n3 c3 l3 ∧ VecAt (MarkS) W a4 n4 c4 l4 ∧ VecAt (OwnS) W a5 n5 c5 l5 ∧ True := by
  obtain ⟨xs, n, _, hy, hcl, hxl, hfld⟩ := DataW.trod_struct Tryz.underlying26 h
  rw [show Tryz.prog.cellsOf 26 = 6 from by kernel_rfl] at hcl
  have hxl2 : xs.length = 6 := hxl
  match cs, xs, hcl, hxl2 with
  | [v0, v1, v2, v3, v4, v5], [p0, p1, p2, p3, p4, p5], _, _ =>
    have t0 : DataW.trod enc Tryz.prog W 0 (fun _ => true) true n 3 (List.take (Tryz.prog.cellsOf 3) (List.drop 0 [v0, v1, v2, v3, v4, v5])) = [p0, p1, p2, p3, p4, p5][0]? := hfld 0 _ rfl
    rw [show Tryz.prog.cellsOf 3 = 1 from by kernel_rfl] at t0
    obtain ⟨s0, hs0, hx0, hw0⟩ := DataW.trod_int Tryz.underlying3 (show DataW.trod enc Tryz.prog W 0 (fun _ => true) true n 3 [v0] = some p0 from by simpa using t0)
    have e0 : v0 = .int .i64 s0 := by simpa using hs0
    have t1 : DataW.trod enc Tryz.prog W 0 (fun _ => true) true n 3 (List.take (Tryz.prog.cellsOf 3) (List.drop 1 [v0, v1, v2, v3, v4, v5])) = [p0, p1, p2, p3, p4, p5][1]? := hfld 1 _ rfl
    rw [show Tryz.prog.cellsOf 3 = 1 from by kernel_rfl] at t1
    obtain ⟨s1, hs1, hx1, hw1⟩ := DataW.trod_int Tryz.underlying3 (show DataW.trod enc Tryz.prog W 0 (fun _ => true) true n 3 [v1] = some p1 from by simpa using t1)
    have e1 : v1 = .int .i64 s1 := by simpa using hs1
    have t2 : DataW.trod enc Tryz.prog W 0 (fun _ => true) true n 3 (List.take (Tryz.prog.cellsOf 3) (List.drop 2 [v0, v1, v2, v3, v4, v5])) = [p0, p1, p2, p3, p4, p5][2]? := hfld 2 _ rfl
    rw [show Tryz.prog.cellsOf 3 = 1 from by kernel_rfl] at t2
    obtain ⟨s2, hs2, hx2, hw2⟩ := DataW.trod_int Tryz.underlying3 (show DataW.trod enc Tryz.prog W 0 (fun _ => true) true n 3 [v2] = some p2 from by simpa using t2)
    have e2 : v2 = .int .i64 s2 := by simpa using hs2
    have t3 : DataW.trod enc Tryz.prog W 0 (fun _ => true) true n 22 (List.take (Tryz.prog.cellsOf 22) (List.drop 3 [v0, v1, v2, v3, v4, v5])) = [p0, p1, p2, p3, p4, p5][3]? := hfld 3 _ rfl
    rw [show Tryz.prog.cellsOf 22 = 1 from by kernel_rfl] at t3
    have t3' : DataW.trod enc Tryz.prog W 0 (fun _ => true) true n 22 [v3] = some p3 := by simpa using t3
    have t4 : DataW.trod enc Tryz.prog W 0 (fun _ => true) true n 23 (List.take (Tryz.prog.cellsOf 23) (List.drop 4 [v0, v1, v2, v3, v4, v5])) = [p0, p1, p2, p3, p4, p5][4]? := hfld 4 _ rfl
    rw [show Tryz.prog.cellsOf 23 = 1 from by kernel_rfl] at t4
    have t4' : DataW.trod enc Tryz.prog W 0 (fun _ => true) true n 23 [v4] = some p4 := by simpa using t4
    have t5 : DataW.trod enc Tryz.prog W 0 (fun _ => true) true n 24 (List.take (Tryz.prog.cellsOf 24) (List.drop 5 [v0, v1, v2, v3, v4, v5])) = [p0, p1, p2, p3, p4, p5][5]? := hfld 5 _ rfl
    rw [show Tryz.prog.cellsOf 24 = 1 from by kernel_rfl] at t5
    have t5' : DataW.trod enc Tryz.prog W 0 (fun _ => true) true n 24 [v5] = some p5 := by simpa using t5
    subst e0 e1 e2
    have hy1 : y.1 = .agg [p0.1, p1.1, p2.1, p3.1, p4.1, p5.1] := by rw [hy]; rfl
    have hr := reachBytes_lt
    have w3 : ∀ m, m ∈ DataW.weights Tryz.prog 22 p3.1 → m ≤ reachBytes := fun m hm => hw m (by rw [hy1]; simp [DataW.weights, DataW.weightsEach, Tryz.underlying26, hm])
    have hv3 : ∃ a len cap, v3 = .slice a len cap := by
      rcases open_slice Tryz.underlying22 t3' with ⟨hcs, _⟩ | ⟨x0, l, c, m, n, D, Pl, hcs, _⟩
      · simp at hcs; exact ⟨_, _, _, hcs⟩
      · simp at hcs; exact ⟨_, _, _, hcs⟩
    obtain ⟨a3, len3, cap3, rfl⟩ := hv3
    obtain ⟨z3, hz3⟩ := open_vec (EntS) Tryz.underlying22 (by kernel_rfl) (fun _ _ _ g1 g2 => enr_fields g1 g2) t3' w3
    have w4 : ∀ m, m ∈ DataW.weights Tryz.prog 23 p4.1 → m ≤ reachBytes := fun m hm => hw m (by rw [hy1]; simp [DataW.weights, DataW.weightsEach, Tryz.underlying26, hm])
    have hv4 : ∃ a len cap, v4 = .slice a len cap := by
      rcases open_slice Tryz.underlying23 t4' with ⟨hcs, _⟩ | ⟨x0, l, c, m, n, D, Pl, hcs, _⟩
      · simp at hcs; exact ⟨_, _, _, hcs⟩
      · simp at hcs; exact ⟨_, _, _, hcs⟩
    obtain ⟨a4, len4, cap4, rfl⟩ := hv4
    obtain ⟨z4, hz4⟩ := open_vec (MarkS) Tryz.underlying23 (by kernel_rfl) (fun _ _ _ g1 g2 => mkr_fields g1 g2) t4' w4
    have w5 : ∀ m, m ∈ DataW.weights Tryz.prog 24 p5.1 → m ≤ reachBytes := fun m hm => hw m (by rw [hy1]; simp [DataW.weights, DataW.weightsEach, Tryz.underlying26, hm])
    have hv5 : ∃ a len cap, v5 = .slice a len cap := by
      rcases open_slice Tryz.underlying24 t5' with ⟨hcs, _⟩ | ⟨x0, l, c, m, n, D, Pl, hcs, _⟩
      · simp at hcs; exact ⟨_, _, _, hcs⟩
      · simp at hcs; exact ⟨_, _, _, hcs⟩
    obtain ⟨a5, len5, cap5, rfl⟩ := hv5
    obtain ⟨z5, hz5⟩ := open_vec (OwnS) Tryz.underlying24 (by kernel_rfl) (fun _ _ _ g1 g2 => own_fields g1 g2) t5' w5
    exact ⟨s0, s1, s2, a3, len3, cap3, z3, a4, len4, cap4, z4, a5, len5, cap5, z5, rfl, hw0, hw1, hw2, hz3, hz4, hz5, trivial⟩

/-- a manifest that came in -/
theorem open_man {H : Type} {enc : TypeId × Value → H} {W : World} {fuel : Nat} {cs : Array Value} {x : DataW H × List MemPlace}
    (hf : DataW.trod enc Tryz.prog W 0 (fun _ => true) true fuel 26 cs.toList = some x) (hw : ∀ n, n ∈ DataW.weights Tryz.prog 26 x.1 → n ≤ reachBytes) :
    ∃ (s0 s1 s2 : Int) (a3 : Option Addr) (n3 c3 : Nat) (l3 : List EntV) (a4 : Option Addr) (n4 c4 : Nat) (l4 : List (Int × Int)) (a5 : Option Addr) (n5 c5 : Nat) (l5 : List (Int × Int × Int)), cs = #[.int .i64 s0, .int .i64 s1, .int .i64 s2, .slice a3 n3 c3, .slice a4 n4 c4, .slice a5 n5 c5] ∧ VecAt EntS W a3 n3 c3 l3 ∧ VecAt MarkS W a4 n4 c4 l4 ∧ VecAt OwnS W a5 n5 c5 l5 := by
  obtain ⟨s0, s1, s2, a3, n3, c3, l3, a4, n4, c4, l4, a5, n5, c5, l5, hcs, _, _, _, h3, h4, h5, _⟩ := man_fields0 hf hw
  exact ⟨s0, s1, s2, a3, n3, c3, l3, a4, n4, c4, l4, a5, n5, c5, l5, by rw [← Array.toList_inj, hcs], h3, h4, h5⟩
/-- an owner that came in -/
theorem open_owner {H : Type} {enc : TypeId × Value → H} {W : World} {fuel : Nat} {cs : Array Value} {x : DataW H × List MemPlace}
    (hf : DataW.trod enc Tryz.prog W 0 (fun _ => true) true fuel 45 cs.toList = some x) (hw : ∀ n, n ∈ DataW.weights Tryz.prog 45 x.1 → n ≤ reachBytes) :
    ∃ (s0 s1 s2 : Int), cs = #[.int .i64 s0, .int .i64 s1, .int .i64 s2] := by
  obtain ⟨s0, s1, s2, hcs, _⟩ := own_fields0 hf hw
  exact ⟨s0, s1, s2, by rw [← Array.toList_inj, hcs]⟩

end Go.Proofs.YtbdgcfimbblncaaGreatDoor
end PkMR17_1
section PkMR17_2
/- The table that the card ties: what the condition gives the walks. -/
namespace Go.Proofs.YtbdgcfimbblncaaGreatDoor
open Go.RowKit CrcPlain
set_option linter.unusedVariables false

theorem gSteps : Tryz.prog.globalNamed "entrepot/crc.steps" = some 0 := by kernel_rfl
theorem tSteps : (Tryz.prog.globals[0]?).map (·.type) = some 171 := by kernel_rfl
def nibI : List Int := [0, 498536548, 997073096, 651767980, 1994146192, 1802195444, 1303535960, 1342533948, 3988292384, 4027552580, 3604390888, 3412177804, 2607071920, 2262029012, 2685067896, 3183342108]
theorem nibI_ok : ∀ r, r < 16 → nibI.getD r 0 = ((nib.getD r 0 : Nat) : Int) := by decide

theorem table_of {W : World} (h : laidMetH Tryz.prog [("entrepot/crc.steps", Rows.laid_entrepot_crc_steps)] W) : Table W := by
  rw [MakeChecks.laidMetH_plain _ _ _ (by kernel_rfl)] at h
  have h1 : laidMet Tryz.prog [("entrepot/crc.steps", Lib.tabData .u32 nibI)] W := h
  have h2 := Lib.tabIs_of_head gSteps tSteps Tryz.underlying171 Tryz.underlying51 (by kernel_rfl) (by kernel_rfl) h1
  intro r hr
  rw [← nibI_ok r hr]
  exact h2.cell gSteps r (by simpa [nibI] using hr)
end Go.Proofs.YtbdgcfimbblncaaGreatDoor
end PkMR17_2
section PkMR17_3
/- A row by its walk, where the card ties listed variables and the walk wants the world's shape besides. -/
namespace Go.Proofs.YtbdgcfimbblncaaGreatDoor
open Go.ChangeShapes Go.WideShapes
set_option linter.unusedVariables false

theorem handed_tied_shaped {H : Type} {enc : TypeId × Value → H} {a : Assume} {C : Checked} {os : Os} {f : FuncId} {fn : Func} {s : ChangeSpec} {conds : List PathCond} {apart fresh handsOn again : Bool} {X : World → Array Value → Prop}
    (hX : ∀ (u v : World) (l : Array Value), u.heap = v.heap → X u l → X v l) (own : ownKnob C.prog.godebug = none) (started : os.Started) (noInit : C.prog.inits.idxOf? f = none) (hfn : C.prog.funcs[f]? = some fn)
    (witness : ∃ (w : World) (tape : Tape) (i : Input), w.os = os ∧ (w.forCall tape i).Shaped C.prog ∧ i.vars = [] ∧ Input.okWide C.prog (w.forCall tape i) .any w.heap.size f i ∧
      ((s.pre enc C.prog fn conds apart (w.forCall tape i).memory i.args ∧ X (w.forCall tape i).memory i.args) ∧ sizedMet enc C.prog fn (OpenSpec.ofChange s) apart (w.forCall tape i).memory i.args) ∧ a.holds C.prog (lone (Frame.enter C.prog f i.args .normal) [] (w.forCall tape i)))
    (walk : ∀ (W : World) (base : Nat) (args : Array Value) (ds gs : List (DataW H)) (before : List MemPlace),
      (∀ (j : Nat) t v, fn.params[j]? = some t → args[j]? = some v → Value.okWide C.prog W .any base t v) →
      DataW.Whole enc C.prog fn.params.toList s.vars apart W args.toList ds gs before →
      (DataW.weightsEach C.prog (fn.params.toList ++ s.plain.varTypes C.prog) (ds ++ gs)).all (· ≤ reachBytes) = true → W.ShapedOpen C.prog → X W args →
      Calls C.prog f args W fun e W' => ∃ v, e = .returned v ∧ s.post enc C.prog fn apart fresh handsOn again W args v W') :
    ReturnsInHanded a C os f .any (fun w args => (s.pre enc C.prog fn conds apart w args ∧ X w args) ∧ sizedMet enc C.prog fn (OpenSpec.ofChange s) apart w args) (s.post enc C.prog fn apart fresh handsOn again) := by
  refine returnsInHanded_of_calls own started noInit witness ?_
  intro w tape i _ hsh _ hok ⟨⟨⟨ds, gs, before, hw, hc⟩, hx⟩, hz⟩ hh
  obtain ⟨_, _, _, fn2, hfn2, _, _, _, _, hval⟩ := hok
  obtain rfl : fn2 = fn := Option.some.inj (hfn2.symm.trans hfn)
  refine (walk (w.forCall tape i) w.heap.size i.args ds gs before hval (DataW.Whole.of_heap (w' := w.forCall tape i) (by rfl) hw) (hz.weights hw) hsh (hX _ _ _ (by rfl) hx)).mono ?_
  rintro e W' ⟨v, rfl, hp⟩
  exact ChangeSpec.post_blind hp
end Go.Proofs.YtbdgcfimbblncaaGreatDoor
end PkMR17_3
