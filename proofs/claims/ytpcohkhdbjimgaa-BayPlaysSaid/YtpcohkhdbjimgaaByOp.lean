/- Batches of keyed things, as an argument; keyed, walked. Written by genbyop.py. -/
import Derived.Test.YtpcohkhdbjimgaaByE
import Derived.Deep.Slices
import Derived.Deep.Fields
import Derived.SizedLaws
import Derived.OpenShut
namespace Go.Proofs.Ytpcohkhdbjimgaa
open Go.ChangeShapes Go.WideShapes Go.Deep Go.RowKit
set_option linter.unusedVariables false

set_option maxRecDepth 100000 in
theorem kd_fields0 {H : Type} {enc : TypeId × Value → H} {W : World} {fuel : Nat} {cs : List Value} {y : DataW H × List MemPlace} (h : DataW.trod enc Try.prog W 0 (fun _ => true) true fuel 61 cs = some y) (hw : ∀ n, n ∈ DataW.weights Try.prog 61 y.1 → n ≤ reachBytes) :
    ∃ (s0 : ByteArray) (s1 : Int), cs = [.string s0, .int .i64 s1] ∧ s0.size ≤ 140737488355328 ∧ (Lit.int .i64 s1).wf = true ∧ True := by
  obtain ⟨xs, n, _, hy, hcl, hxl, hfld⟩ := DataW.trod_struct Try.underlying61 h
  rw [show Try.prog.cellsOf 61 = 2 from by kernel_rfl] at hcl
  have hxl2 : xs.length = 2 := hxl
  match cs, xs, hcl, hxl2 with
  | [v0, v1], [p0, p1], _, _ =>
    have t0 : DataW.trod enc Try.prog W 0 (fun _ => true) true n 9 (List.take (Try.prog.cellsOf 9) (List.drop 0 [v0, v1])) = [p0, p1][0]? := hfld 0 _ rfl
    rw [show Try.prog.cellsOf 9 = 1 from by kernel_rfl] at t0
    obtain ⟨s0, hs0, hx0, _⟩ := DataW.trod_string Try.underlying9 (show DataW.trod enc Try.prog W 0 (fun _ => true) true n 9 [v0] = some p0 from by simpa using t0)
    have e0 : v0 = .string s0 := by simpa using hs0
    have t1 : DataW.trod enc Try.prog W 0 (fun _ => true) true n 3 (List.take (Try.prog.cellsOf 3) (List.drop 1 [v0, v1])) = [p0, p1][1]? := hfld 1 _ rfl
    rw [show Try.prog.cellsOf 3 = 1 from by kernel_rfl] at t1
    obtain ⟨s1, hs1, hx1, hw1⟩ := DataW.trod_int Try.underlying3 (show DataW.trod enc Try.prog W 0 (fun _ => true) true n 3 [v1] = some p1 from by simpa using t1)
    have e1 : v1 = .int .i64 s1 := by simpa using hs1
    subst e0 e1
    have hy1 : y.1 = .agg [p0.1, p1.1] := by rw [hy]; rfl
    have hr := reachBytes_lt
    have w0 := hw s0.data.toList.length (by rw [hy1, hx0]; simp [DataW.weights, DataW.weightsEach, Try.underlying61])
    exact ⟨s0, s1, rfl, (by simp at w0; omega), hw1, trivial⟩

theorem kd_field {H : Type} {enc : TypeId × Value → H} {W : World} {fuel : Nat} {cs : List Value} {y : DataW H × List MemPlace} (h : DataW.trod enc Try.prog W 0 (fun _ => true) true fuel 61 cs = some y) (hw : ∀ n, n ∈ DataW.weights Try.prog 61 y.1 → n ≤ reachBytes) :
    ∃ r : ByteArray × Int, cs = KdS.f r ∧ KdS.ok W r := by
  obtain ⟨s0, s1, hcs, q0, _⟩ := kd_fields0 h hw
  exact ⟨(s0, s1), hcs, Nat.le_trans q0 (by decide)⟩
set_option maxRecDepth 100000 in
theorem bat_fields0 {H : Type} {enc : TypeId × Value → H} {W : World} {fuel : Nat} {cs : List Value} {y : DataW H × List MemPlace} (h : DataW.trod enc Try.prog W 0 (fun _ => true) true fuel 55 cs = some y) (hw : ∀ n, n ∈ DataW.weights Try.prog 55 y.1 → n ≤ reachBytes) :
    ∃ (a0 : Option Addr) (n0 c0 : Nat) (l0 : List _) (s1 : Bool), cs = [.slice a0 n0 c0, .bool s1] ∧ VecAt (KdS) W a0 n0 c0 l0 ∧ True := by
  obtain ⟨xs, n, _, hy, hcl, hxl, hfld⟩ := DataW.trod_struct Try.underlying55 h
  rw [show Try.prog.cellsOf 55 = 2 from by kernel_rfl] at hcl
  have hxl2 : xs.length = 2 := hxl
  match cs, xs, hcl, hxl2 with
  | [v0, v1], [p0, p1], _, _ =>
    have t0 : DataW.trod enc Try.prog W 0 (fun _ => true) true n 51 (List.take (Try.prog.cellsOf 51) (List.drop 0 [v0, v1])) = [p0, p1][0]? := hfld 0 _ rfl
    rw [show Try.prog.cellsOf 51 = 1 from by kernel_rfl] at t0
    have t0' : DataW.trod enc Try.prog W 0 (fun _ => true) true n 51 [v0] = some p0 := by simpa using t0
    have t1 : DataW.trod enc Try.prog W 0 (fun _ => true) true n 4 (List.take (Try.prog.cellsOf 4) (List.drop 1 [v0, v1])) = [p0, p1][1]? := hfld 1 _ rfl
    rw [show Try.prog.cellsOf 4 = 1 from by kernel_rfl] at t1
    obtain ⟨s1, hs1, hx1⟩ := DataW.trod_bool Try.underlying4 (show DataW.trod enc Try.prog W 0 (fun _ => true) true n 4 [v1] = some p1 from by simpa using t1)
    have e1 : v1 = .bool s1 := by simpa using hs1
    subst e1
    have hy1 : y.1 = .agg [p0.1, p1.1] := by rw [hy]; rfl
    have hr := reachBytes_lt
    have w0 : ∀ m, m ∈ DataW.weights Try.prog 51 p0.1 → m ≤ reachBytes := fun m hm => hw m (by rw [hy1]; simp [DataW.weights, DataW.weightsEach, Try.underlying55, hm])
    have hv0 : ∃ a len cap, v0 = .slice a len cap := by
      rcases open_slice Try.underlying51 t0' with ⟨hcs, _⟩ | ⟨x0, l, c, m, n, D, Pl, hcs, _⟩
      · simp at hcs; exact ⟨_, _, _, hcs⟩
      · simp at hcs; exact ⟨_, _, _, hcs⟩
    obtain ⟨a0, len0, cap0, rfl⟩ := hv0
    obtain ⟨z0, hz0⟩ := open_vec (KdS) Try.underlying51 (by kernel_rfl) (fun _ _ _ g1 g2 => kd_field g1 g2) t0' w0
    exact ⟨a0, len0, cap0, z0, s1, rfl, hz0, trivial⟩

structure BatV where
  la : Option Addr
  ln : Nat
  lc : Nat
  ks : List (ByteArray × Int)
  dr : Bool
def BatS : Sty BatV := ⟨fun x => [.slice x.la x.ln x.lc, .bool x.dr], 2, ⟨none, 0, 0, [], false⟩, fun w x => VecAt KdS w x.la x.ln x.lc x.ks, by decide, fun _ => rfl, (fun x u hu => by
  simp only [List.mem_cons, List.not_mem_nil, or_false] at hu
  rcases hu with rfl | rfl <;> rfl), fun hb h => h.kept hb⟩
theorem bat_field {H : Type} {enc : TypeId × Value → H} {W : World} {fuel : Nat} {cs : List Value} {y : DataW H × List MemPlace} (h : DataW.trod enc Try.prog W 0 (fun _ => true) true fuel 55 cs = some y) (hw : ∀ n, n ∈ DataW.weights Try.prog 55 y.1 → n ≤ reachBytes) :
    ∃ r : BatV, cs = BatS.f r ∧ BatS.ok W r := by
  obtain ⟨a0, n0, c0, l0, s1, hcs, q0, _⟩ := bat_fields0 h hw
  exact ⟨⟨a0, n0, c0, l0, s1⟩, hcs, q0⟩
theorem open_batches {H : Type} {enc : TypeId × Value → H} {W : World} {fuel : Nat} {a : Option Addr} {len cap : Nat} {x : DataW H × List MemPlace} (hf : DataW.trod enc Try.prog W 0 (fun _ => true) true fuel 42 [.slice a len cap] = some x) (hw : ∀ n, n ∈ DataW.weights Try.prog 42 x.1 → n ≤ reachBytes) : ∃ l : List BatV, VecAt BatS W a len cap l :=
  open_vec BatS Try.underlying42 (by kernel_rfl) (fun _ _ _ g1 g2 => bat_field g1 g2) hf hw
set_option maxRecDepth 100000 in
set_option maxHeartbeats 8000000 in
theorem keyed_any {w : World} {a : Option Addr} {n c : Nat} {ks : List (ByteArray × Int)} (hk : VecAt KdS w a n c ks) (hn : n ≤ 40) :
    Calls Try.prog 25 #[.slice a n c] w fun e w' => ∃ v, e = .returned v ∧ w'.ownsRow w.heap.size 47 2 v n (KdS.flat ks) ∧ Below w.heap.size w w' := by
  have HV := Lib.hid hk
  have hcp := hk.cap
  have hcm := hk.capm
  have HO0 := Lib.hid (World.ownsRow_nil w w.heap.size 47 2)
  clear hk
  go_enter Try.func25, Try.ntmps25
  go_wp2_with fail
  go_loopw [3, 8] (fun s3 s8 wr => ∃ (i oc : Nat) (oa : Option Addr), i ≤ n ∧ s8 = .int .i64 i ∧ s3 = .slice oa i oc ∧ Hid (wr.ownsRow w.heap.size 47 2 (.slice oa i oc) i (KdS.flat (ks.take i))) ∧ Hid (Below w.heap.size w wr)) (fun _ s8 _ => n - (intOf s8).toNat)
  case atStart => exact ⟨0, 0, none, by omega, rfl, rfl, HO0, Lib.hid (Below.refl _ _)⟩
  case round =>
    clear HO0
    obtain ⟨i, oc, oa, hi, rfl, rfl, HO, HB⟩ := hrel
    rename World => wr
    by_cases hin : i < n
    · obtain ⟨b, off, rfl, _, _, hc⟩ := (HV.out.kept HB.out).get hin
      obtain ⟨x, hx⟩ : ∃ x, x = ks.getD i KdS.z := ⟨_, rfl⟩
      rw [← hx] at hc
      obtain ⟨k, hkk⟩ : ∃ k, k = x.1 := ⟨_, rfl⟩
      obtain ⟨z, hzz⟩ : ∃ z, z = x.2 := ⟨_, rfl⟩
      have c0 : wr.cell? ⟨b, off + i * 2, none⟩ = some (.string k) := hc 0 _ (by rw [hkk]; rfl)
      have c1 : wr.cell? ⟨b, off + i * 2 + 1, none⟩ = some (.int .i64 z) := hc 1 _ (by rw [hzz]; rfl)
      have HTK := Lib.hid (show ks.take (i + 1) = ks.take i ++ [(k, z)] from by
        rw [List.take_add_one, List.getElem?_eq_getElem (by rw [HV.out.len]; exact hin), hkk, hzz, hx, List.getD_eq_getElem?_getD, List.getElem?_eq_getElem (by rw [HV.out.len]; exact hin)]
        rfl)
      obtain ⟨bx, hbx⟩ : ∃ bx, bx = wr.heap.size := ⟨_, rfl⟩
      obtain ⟨W3, hW3⟩ : ∃ W3, W3 = wr.alloc (.cells #[.string k, .int .i64 z] 61) := ⟨_, rfl⟩
      have hb3 : Below wr.heap.size wr W3 := by rw [hW3]; exact (Below.refl _ _).alloc (Nat.le_refl _) _
      have hk3 : W3.heap[bx]? = some (.cells #[.string k, .int .i64 z] 61 (0, 0)) := by rw [hW3, hbx]; exact heap_new wr _
      have d0 := cell_blk2 hk3 (i := 0) (u := .string k) rfl
      have d1 := cell_blk2 hk3 (i := 1) (u := .int .i64 z) rfl
      have hba : Below W3.heap.size W3 (W3.alloc (.cells #[.string k, .int .i64 z] 47)) := (Below.refl _ _).alloc (Nat.le_refl _) _
      have hb4 := hb3.trans (hba.mono hb3.size)
      have HOA := Lib.hid (own_below HO.out hb4)
      have HBA := Lib.hid (HB.out.trans (hb4.mono HB.out.size))
      have HSRC := Lib.hid (KdS.src W3 (k, z) 47 (cs := #[.string k, .int .i64 z]) rfl)
      have hw3 : w.heap.size ≤ W3.heap.size := Nat.le_trans HB.out.size hb3.size
      have HW3 := Lib.hid hW3
      have HBX := Lib.hid hbx
      have zi : (i : Int) < (n : Int) := by omega
      have zi0 : (0 : Int) ≤ (i : Int) := by omega
      have wi : IntKind.i64.wrap ((i : Int) + 1) = (i : Int) + 1 := IntWalk.i64_in _ (by omega)
      obtain ⟨i0, hi0, hz0, hz1, hz2⟩ := info_parts info_kd
      clear hc hx hkk hzz hbx hW3 hb3 hk3 hba hb4 HO HB
      go_upto_region 5 with fail
      rw [← HW3.out, ← HBX.out]
      clear c0 c1
      go_wp2_with (at_builtin; refine wpList_append_own_at _ rfl (.tmp 12) (.tmp 18) 48 rfl w.heap.size 47 i0 _ 2 24 Try.underlying48 hi0 hz0 hz1 hz2 rfl (by decide) _ _ _ rfl HOA.out ⟨W3.heap.size, 0, none⟩ 1 1 (KdS.f (k, z)) rfl rfl HSRC.out (KdS.one (k, z)) (by unfold maxLen; omega) (by omega) (by rw [World.size_alloc]; omega) ?_)
      intro v8 w8 ho8 hg8 _ hat8
      obtain ⟨g8, c8, rfl⟩ := own_some2 ho8 (by omega)
      have HB8 := Lib.hid (HBA.out.grown hg8 HBA.out.size (fun jj hjj => (HOA.out.lt jj hjj).1))
      have HO8 : Hid (w8.ownsRow w.heap.size 47 2 (.slice (some ⟨g8, 0, none⟩) (i + 1) c8) (i + 1) (KdS.flat (ks.take (i + 1)))) := Lib.hid (by rw [HTK.out, Sty.flat_snoc]; exact ho8)
      clear ho8 hg8 hat8 d0 d1
      go_wp2_with fail
      go_roundw
      case rel => exact ⟨i + 1, c8, some ⟨g8, 0, none⟩, by omega, by push_cast; rfl, rfl, HO8, HB8⟩
      case measure => simp only [intOf]; omega
    · obtain rfl : i = n := by omega
      have HOE := Lib.hid (show wr.ownsRow w.heap.size 47 2 (.slice oa i oc) i (KdS.flat ks) from by
        have := HO.out
        rwa [List.take_of_length_le (by rw [HV.out.len]; exact Nat.le_refl _)] at this)
      go_wp2_with fail
      first | go_ret2 | go_ret
      exact ⟨_, rfl, HOE.out, HB.out⟩
end Go.Proofs.Ytpcohkhdbjimgaa
