/- The acts of stage 14's laws, as an argument. Written by genstoact.py. -/
import Derived.Test.YtjafagfhkpaciaaVec
import Derived.Test.YtjafagfhkpaciaaKit
import Derived.Deep.Slices
import Derived.Deep.Fields
import Derived.SizedLaws
import Derived.OpenShut
namespace Go.Proofs.Ytjafagfhkpaciaa
open Go.ChangeShapes Go.WideShapes Go.Deep Go.RowKit
set_option linter.unusedVariables false

def U8S : Sty Int := ⟨fun z => [.int .u8 z], 1, 0, fun _ z => (Lit.int .u8 z).wf = true, by decide, fun _ => rfl, (fun x u hu => by rw [List.mem_singleton.1 hu]; rfl), fun _ h => h⟩
theorem u8_field {H : Type} {enc : TypeId × Value → H} {W : World} {fuel : Nat} {cs : List Value} {y : DataW H × List MemPlace} (h : DataW.trod enc Try.prog W 0 (fun _ => true) true fuel 5 cs = some y) (hw : ∀ n, n ∈ DataW.weights Try.prog 5 y.1 → n ≤ reachBytes) :
    ∃ z : Int, cs = U8S.f z ∧ U8S.ok W z := by
  obtain ⟨s, hs, _, hwf⟩ := DataW.trod_int Try.underlying5 h
  exact ⟨s, hs, hwf⟩
theorem VecAt.bytes {w : World} {a : Option Addr} {n c : Nat} {l : List Int} (h : VecAt U8S w a n c l) (hn : n ≤ 140737488351232) : BytesAt w a n c (l.map Int.toNat) := by
  refine ⟨by rw [List.length_map]; exact h.len, h.cap, fun y hy => ?_, hn, h.capm, h.nl, fun hp => ?_⟩
  · obtain ⟨z, hz, rfl⟩ := List.mem_map.1 hy
    have := byte_of_wf (h.all z hz)
    omega
  · obtain ⟨b, off, ha, hlt, hc⟩ := h.cells hp
    refine ⟨b, off, ha, hlt, fun i hi => ?_⟩
    have h1 := hc i hi 0 (.int .u8 (l.getD i 0)) rfl
    rw [show off + i * U8S.K + 0 = off + i from by show off + i * 1 + 0 = _; omega] at h1
    rw [h1]
    have hil : i < l.length := by rw [h.len]; exact hi
    have h2 := byte_of_wf (h.all (l.getD i 0) (vec_mem (S := U8S) hil))
    have h3 : ((l.map Int.toNat).getD i 0 : Nat) = (l.getD i 0).toNat := by
      rw [List.getD_eq_getElem?_getD, List.getElem?_map, List.getD_eq_getElem?_getD, List.getElem?_eq_getElem hil]
      rfl
    rw [h3]
    congr 2
    omega
set_option maxRecDepth 100000 in
theorem call_fields0 {H : Type} {enc : TypeId × Value → H} {W : World} {fuel : Nat} {cs : List Value} {y : DataW H × List MemPlace} (h : DataW.trod enc Try.prog W 0 (fun _ => true) true fuel 29 cs = some y) (hw : ∀ n, n ∈ DataW.weights Try.prog 29 y.1 → n ≤ reachBytes) :
    ∃ (s0 : Int) (s1 : ByteArray) (a2 : Option Addr) (n2 c2 : Nat) (l2 : List _) (s3 : Int) (s4 : Int) (s5 : Int) (s6 : Int), cs = [.int .i64 s0, .string s1, .slice a2 n2 c2, .int .i64 s3, .int .i64 s4, .int .i64 s5, .int .i64 s6] ∧ (Lit.int .i64 s0).wf = true ∧ s1.size ≤ 140737488355328 ∧ VecAt (U8S) W a2 n2 c2 l2 ∧ (Lit.int .i64 s3).wf = true ∧ (Lit.int .i64 s4).wf = true ∧ (Lit.int .i64 s5).wf = true ∧ (Lit.int .i64 s6).wf = true ∧ True := by
  obtain ⟨xs, n, _, hy, hcl, hxl, hfld⟩ := DataW.trod_struct Try.underlying29 h
  rw [show Try.prog.cellsOf 29 = 7 from by kernel_rfl] at hcl
  have hxl2 : xs.length = 7 := hxl
  match cs, xs, hcl, hxl2 with
  | [v0, v1, v2, v3, v4, v5, v6], [p0, p1, p2, p3, p4, p5, p6], _, _ =>
    have t0 : DataW.trod enc Try.prog W 0 (fun _ => true) true n 3 (List.take (Try.prog.cellsOf 3) (List.drop 0 [v0, v1, v2, v3, v4, v5, v6])) = [p0, p1, p2, p3, p4, p5, p6][0]? := hfld 0 _ rfl
    rw [show Try.prog.cellsOf 3 = 1 from by kernel_rfl] at t0
    obtain ⟨s0, hs0, hx0, hw0⟩ := DataW.trod_int Try.underlying3 (show DataW.trod enc Try.prog W 0 (fun _ => true) true n 3 [v0] = some p0 from by simpa using t0)
    have e0 : v0 = .int .i64 s0 := by simpa using hs0
    have t1 : DataW.trod enc Try.prog W 0 (fun _ => true) true n 9 (List.take (Try.prog.cellsOf 9) (List.drop 1 [v0, v1, v2, v3, v4, v5, v6])) = [p0, p1, p2, p3, p4, p5, p6][1]? := hfld 1 _ rfl
    rw [show Try.prog.cellsOf 9 = 1 from by kernel_rfl] at t1
    obtain ⟨s1, hs1, hx1, _⟩ := DataW.trod_string Try.underlying9 (show DataW.trod enc Try.prog W 0 (fun _ => true) true n 9 [v1] = some p1 from by simpa using t1)
    have e1 : v1 = .string s1 := by simpa using hs1
    have t2 : DataW.trod enc Try.prog W 0 (fun _ => true) true n 27 (List.take (Try.prog.cellsOf 27) (List.drop 2 [v0, v1, v2, v3, v4, v5, v6])) = [p0, p1, p2, p3, p4, p5, p6][2]? := hfld 2 _ rfl
    rw [show Try.prog.cellsOf 27 = 1 from by kernel_rfl] at t2
    have t2' : DataW.trod enc Try.prog W 0 (fun _ => true) true n 27 [v2] = some p2 := by simpa using t2
    have t3 : DataW.trod enc Try.prog W 0 (fun _ => true) true n 3 (List.take (Try.prog.cellsOf 3) (List.drop 3 [v0, v1, v2, v3, v4, v5, v6])) = [p0, p1, p2, p3, p4, p5, p6][3]? := hfld 3 _ rfl
    rw [show Try.prog.cellsOf 3 = 1 from by kernel_rfl] at t3
    obtain ⟨s3, hs3, hx3, hw3⟩ := DataW.trod_int Try.underlying3 (show DataW.trod enc Try.prog W 0 (fun _ => true) true n 3 [v3] = some p3 from by simpa using t3)
    have e3 : v3 = .int .i64 s3 := by simpa using hs3
    have t4 : DataW.trod enc Try.prog W 0 (fun _ => true) true n 3 (List.take (Try.prog.cellsOf 3) (List.drop 4 [v0, v1, v2, v3, v4, v5, v6])) = [p0, p1, p2, p3, p4, p5, p6][4]? := hfld 4 _ rfl
    rw [show Try.prog.cellsOf 3 = 1 from by kernel_rfl] at t4
    obtain ⟨s4, hs4, hx4, hw4⟩ := DataW.trod_int Try.underlying3 (show DataW.trod enc Try.prog W 0 (fun _ => true) true n 3 [v4] = some p4 from by simpa using t4)
    have e4 : v4 = .int .i64 s4 := by simpa using hs4
    have t5 : DataW.trod enc Try.prog W 0 (fun _ => true) true n 3 (List.take (Try.prog.cellsOf 3) (List.drop 5 [v0, v1, v2, v3, v4, v5, v6])) = [p0, p1, p2, p3, p4, p5, p6][5]? := hfld 5 _ rfl
    rw [show Try.prog.cellsOf 3 = 1 from by kernel_rfl] at t5
    obtain ⟨s5, hs5, hx5, hw5⟩ := DataW.trod_int Try.underlying3 (show DataW.trod enc Try.prog W 0 (fun _ => true) true n 3 [v5] = some p5 from by simpa using t5)
    have e5 : v5 = .int .i64 s5 := by simpa using hs5
    have t6 : DataW.trod enc Try.prog W 0 (fun _ => true) true n 3 (List.take (Try.prog.cellsOf 3) (List.drop 6 [v0, v1, v2, v3, v4, v5, v6])) = [p0, p1, p2, p3, p4, p5, p6][6]? := hfld 6 _ rfl
    rw [show Try.prog.cellsOf 3 = 1 from by kernel_rfl] at t6
    obtain ⟨s6, hs6, hx6, hw6⟩ := DataW.trod_int Try.underlying3 (show DataW.trod enc Try.prog W 0 (fun _ => true) true n 3 [v6] = some p6 from by simpa using t6)
    have e6 : v6 = .int .i64 s6 := by simpa using hs6
    subst e0 e1 e3 e4 e5 e6
    have hy1 : y.1 = .agg [p0.1, p1.1, p2.1, p3.1, p4.1, p5.1, p6.1] := by rw [hy]; rfl
    have hr := reachBytes_lt
    have w1 := hw s1.data.toList.length (by rw [hy1, hx1]; simp [DataW.weights, DataW.weightsEach, Try.underlying29])
    have w2 : ∀ m, m ∈ DataW.weights Try.prog 27 p2.1 → m ≤ reachBytes := fun m hm => hw m (by rw [hy1]; simp [DataW.weights, DataW.weightsEach, Try.underlying29, hm])
    have hv2 : ∃ a len cap, v2 = .slice a len cap := by
      rcases open_slice Try.underlying27 t2' with ⟨hcs, _⟩ | ⟨x0, l, c, m, n, D, Pl, hcs, _⟩
      · simp at hcs; exact ⟨_, _, _, hcs⟩
      · simp at hcs; exact ⟨_, _, _, hcs⟩
    obtain ⟨a2, len2, cap2, rfl⟩ := hv2
    obtain ⟨z2, hz2⟩ := open_vec (U8S) Try.underlying27 (by kernel_rfl) (fun _ _ _ g1 g2 => u8_field g1 g2) t2' w2
    exact ⟨s0, s1, a2, len2, cap2, z2, s3, s4, s5, s6, rfl, hw0, (by simp at w1; omega), hz2, hw3, hw4, hw5, hw6, trivial⟩

structure ActV where
  ki : Int
  ky : ByteArray
  da : Option Addr
  dn : Nat
  dc : Nat
  dl : List Int
  vr : Int
  at' : Int
  nn : Int
  id : Int
  big : Int
def ActS : Sty ActV := ⟨fun x => [.int .i64 x.ki, .string x.ky, .slice x.da x.dn x.dc, .int .i64 x.vr, .int .i64 x.at', .int .i64 x.nn, .int .i64 x.id, .int .i64 x.big], 8, ⟨0, ByteArray.empty, none, 0, 0, [], 0, 0, 0, 0, 0⟩, fun w x => VecAt U8S w x.da x.dn x.dc x.dl ∧ x.ky.size ≤ 140737488355328 ∧ (Lit.int .i64 x.id).wf = true ∧ (Lit.int .i64 x.at').wf = true, by decide, fun _ => rfl, (fun x u hu => by
  simp only [List.mem_cons, List.not_mem_nil, or_false] at hu
  rcases hu with rfl | rfl | rfl | rfl | rfl | rfl | rfl | rfl <;> rfl), fun hb h => ⟨h.1.kept hb, h.2⟩⟩
set_option maxRecDepth 100000 in
theorem act_fields {H : Type} {enc : TypeId × Value → H} {W : World} {fuel : Nat} {cs : List Value} {y : DataW H × List MemPlace} (h : DataW.trod enc Try.prog W 0 (fun _ => true) true fuel 31 cs = some y) (hw : ∀ n, n ∈ DataW.weights Try.prog 31 y.1 → n ≤ reachBytes) :
    ∃ r : ActV, cs = ActS.f r ∧ ActS.ok W r := by
  obtain ⟨xs, n, _, hy, hcl, hxl, hfld⟩ := DataW.trod_struct Try.underlying31 h
  rw [show Try.prog.cellsOf 31 = 8 from by kernel_rfl] at hcl
  have hxl2 : xs.length = 2 := hxl
  match cs, xs, hcl, hxl2 with
  | [v0, v1, v2, v3, v4, v5, v6, v7], [p0, p1], _, _ =>
    have t0 := hfld 0 _ rfl
    have t1 := hfld 1 _ rfl
    have c0 : Try.prog.cellsOf 29 = 7 := by kernel_rfl
    have c1 : Try.prog.cellsOf 3 = 1 := by kernel_rfl
    simp [c0, c1] at t0 t1
    have hy1 : y.1 = .agg [p0.1, p1.1] := by rw [hy]; rfl
    have hw0 : ∀ m, m ∈ DataW.weights Try.prog 29 p0.1 → m ≤ reachBytes := fun m hm => hw m (by rw [hy1]; simp [DataW.weights, DataW.weightsEach, Try.underlying31, hm])
    obtain ⟨s0, s1, a2, n2, c2, l2, s3, s4, s5, s6, hcs, q0, q1, q2, q3, q4, q5, q6, _⟩ := call_fields0 t0 hw0
    obtain ⟨s7, hs7, hx7, hw7⟩ := DataW.trod_int Try.underlying3 t1
    simp only [List.cons.injEq, and_true] at hcs hs7
    obtain ⟨rfl, rfl, rfl, rfl, rfl, rfl, rfl⟩ := hcs
    subst hs7
    exact ⟨⟨s0, s1, a2, n2, c2, l2, s3, s4, s5, s6, s7⟩, rfl, q2, q1, q6, q4⟩
theorem open_acts {H : Type} {enc : TypeId × Value → H} {W : World} {fuel : Nat} {a : Option Addr} {len cap : Nat} {x : DataW H × List MemPlace} (hf : DataW.trod enc Try.prog W 0 (fun _ => true) true fuel 22 [.slice a len cap] = some x) (hw : ∀ n, n ∈ DataW.weights Try.prog 22 x.1 → n ≤ reachBytes) : ∃ l : List ActV, VecAt ActS W a len cap l :=
  open_vec ActS Try.underlying22 (by kernel_rfl) (fun _ _ _ g1 g2 => act_fields g1 g2) hf hw
/-- how many of the acts are taken -/
def fewN (most : Nat) : List ActV → Nat → Nat → Nat
  | [], _, i => i
  | x :: r, s, i => if 20000 < s + min x.dn 300000 ∨ most ≤ i then i else fewN most r (s + min x.dn 300000) (i + 1)
theorem fewN_step {most : Nat} {x : ActV} {r : List ActV} {s i : Nat} (h : ¬ (20000 < s + min x.dn 300000 ∨ most ≤ i)) : fewN most (x :: r) s i = fewN most r (s + min x.dn 300000) (i + 1) := by
  show (if _ then _ else _) = _
  rw [if_neg h]
theorem fewN_stop {most : Nat} {x : ActV} {r : List ActV} {s i : Nat} (h : 20000 < s + min x.dn 300000 ∨ most ≤ i) : fewN most (x :: r) s i = i := by
  show (if _ then _ else _) = _
  rw [if_pos h]
theorem fewN_le {most : Nat} : ∀ {l : List ActV} {s i : Nat}, i ≤ most → i ≤ fewN most l s i ∧ fewN most l s i ≤ most ∧ fewN most l s i ≤ i + l.length ∧ ∀ j, j < fewN most l s i - i → (l.getD j ActS.z).dn ≤ 20000
  | [], s, i, h => ⟨Nat.le_refl _, h, Nat.le_refl _, fun j hj => by unfold fewN at hj; omega⟩
  | x :: r, s, i, h => by
    by_cases hb : 20000 < s + min x.dn 300000 ∨ most ≤ i
    · rw [fewN_stop hb]; exact ⟨Nat.le_refl _, h, by omega, fun j hj => by omega⟩
    · rw [fewN_step hb]
      obtain ⟨h1, h2, h3, h4⟩ := fewN_le (most := most) (l := r) (s := s + min x.dn 300000) (i := i + 1) (by omega)
      refine ⟨by omega, h2, by rw [List.length_cons]; omega, fun j hj => ?_⟩
      cases j with
      | zero => show x.dn ≤ 20000; omega
      | succ j => exact h4 j (by omega)
end Go.Proofs.Ytjafagfhkpaciaa
