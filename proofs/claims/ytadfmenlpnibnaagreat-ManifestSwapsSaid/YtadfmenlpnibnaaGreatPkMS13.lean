/- Texts put together by packtpl2.py: MfSm. -/
import Derived.Test.YtadfmenlpnibnaaGreatPkMS1
import Derived.Test.YtadfmenlpnibnaaGreatPkMS2
import Derived.Laws.StructEq
section PkMS13_0
/- Manifests: the document's Same, walked. Written by genmfsm.py. -/
namespace Go.Proofs.YtadfmenlpnibnaaGreat
open Go.RowKit LabPlain
set_option linter.unusedVariables false

def sqE (x y : EntV) : Bool := (x.key.toList == y.key.toList && (x.win == y.win && (x.part.toList == y.part.toList && (x.fst == y.fst && (x.lst == y.lst && (x.rows == y.rows && (x.size == y.size && (x.sum == y.sum && x.born == y.born))))))))
def sqM (x y : Int × Int) : Bool := (x.1 == y.1 && x.2 == y.2)
def sqO (x y : Int × Int × Int) : Bool := (x.1 == y.1 && (x.2.1 == y.2.1 && x.2.2 == y.2.2))
theorem toList_eq9 (x y : ByteArray) : x.toList = y.toList ↔ x = y := by
  refine ⟨fun h => ?_, fun h => by rw [h]⟩
  rw [ByteArray.toList_eq, ByteArray.toList_eq] at h
  exact ByteArray.ext (Array.toList_inj.1 h)
theorem sqE_iff (x y : EntV) : sqE x y = true ↔ x = y := by
  cases x; cases y
  simp only [sqE, Bool.and_eq_true, beq_iff_eq, toList_eq9, EntV.mk.injEq]
theorem sqM_iff (x y : Int × Int) : sqM x y = true ↔ x = y := by
  cases x; cases y
  simp only [sqM, Bool.and_eq_true, beq_iff_eq, Prod.mk.injEq]
theorem sqO_iff (x y : Int × Int × Int) : sqO x y = true ↔ x = y := by
  obtain ⟨a, b, c⟩ := x
  obtain ⟨a2, b2, c2⟩ := y
  simp only [sqO, Bool.and_eq_true, beq_iff_eq, Prod.mk.injEq]

theorem eq9_E (x0 y0 : ByteArray) (x1 y1 : Int) (x2 y2 : ByteArray) (x3 y3 : Int) (x4 y4 : Int) (x5 y5 : Int) (x6 y6 : Int) (x7 y7 : Int) (x8 y8 : Int) (w : World) : (Op.equalIn 10000 42 (.agg #[.string x0, .int .i64 x1, .string x2, .int .i64 x3, .int .i64 x4, .int .i64 x5, .int .i64 x6, .int .u32 x7, .int .i64 x8]) (.agg #[.string y0, .int .i64 y1, .string y2, .int .i64 y3, .int .i64 y4, .int .i64 y5, .int .i64 y6, .int .u32 y7, .int .i64 y8])).run Tryz.prog w = .ok (sqE ⟨x0, x1, x2, x3, x4, x5, x6, x7, x8⟩ ⟨y0, y1, y2, y3, y4, y5, y6, y7, y8⟩) w := by
  show _ = Result.ok (((x0.toList == y0.toList) && ((x1 == y1) && ((x2.toList == y2.toList) && ((x3 == y3) && ((x4 == y4) && ((x5 == y5) && ((x6 == y6) && ((x7 == y7) && (x8 == y8)))))))))) w
  have us0 := Tryz.underlying3
  have ag0 := Tryz.isAgg3
  have zs0 := Tryz.sizeOf3
  have us1 := Tryz.underlying9
  have ag1 := Tryz.isAgg9
  have zs1 := Tryz.sizeOf9
  have us2 := Tryz.underlying40
  have ag2 := Tryz.isAgg40
  have zs2 := Tryz.sizeOf40
  have hS : Tryz.prog.underlying 42 = some (.struct (Tryz.prog.fieldsOf 42)) := by kernel_rfl
  have hp : Tryz.prog.stoodInHeld 42 = false := by kernel_rfl
  rw [show (10000 : Nat) = 9999 + 1 from rfl, run_equalIn_agg w 9999 42 _ _ hS hp]
  simp only [Program.fieldsOf, Tryz.underlying42]
  go_simp
  cases h0 : (x0.toList == y0.toList) with
  | false => first | rfl | simp_all
  | true =>
  cases h1 : (x1 == y1) with
  | false => first | rfl | simp_all
  | true =>
  cases h2 : (x2.toList == y2.toList) with
  | false => first | rfl | simp_all
  | true =>
  cases h3 : (x3 == y3) with
  | false => first | rfl | simp_all
  | true =>
  cases h4 : (x4 == y4) with
  | false => first | rfl | simp_all
  | true =>
  cases h5 : (x5 == y5) with
  | false => first | rfl | simp_all
  | true =>
  cases h6 : (x6 == y6) with
  | false => first | rfl | simp_all
  | true =>
  cases h7 : (x7 == y7) with
  | false => first | rfl | simp_all
  | true =>
  cases h8 : (x8 == y8) <;> simp_all
theorem guard9_E (x y : Operand) (xs ys : Array Value) (w : World) : (eqGuard .neq 42 x y (.agg xs) (.agg ys)).run Tryz.prog w = .ok () w := run_eqGuard_agg w .neq 42 x y xs ys (by kernel_rfl)
theorem neq9_E (x0 y0 : ByteArray) (x1 y1 : Int) (x2 y2 : ByteArray) (x3 y3 : Int) (x4 y4 : Int) (x5 y5 : Int) (x6 y6 : Int) (x7 y7 : Int) (x8 y8 : Int) (w : World) : (binOp .neq 42 (.agg #[.string x0, .int .i64 x1, .string x2, .int .i64 x3, .int .i64 x4, .int .i64 x5, .int .i64 x6, .int .u32 x7, .int .i64 x8]) (.agg #[.string y0, .int .i64 y1, .string y2, .int .i64 y3, .int .i64 y4, .int .i64 y5, .int .i64 y6, .int .u32 y7, .int .i64 y8])).run Tryz.prog w = .ok (.bool (!sqE ⟨x0, x1, x2, x3, x4, x5, x6, x7, x8⟩ ⟨y0, y1, y2, y3, y4, y5, y6, y7, y8⟩)) w := by
  rw [run_neq_struct, eq9_E]; rfl

theorem eq9_M (x0 y0 : Int) (x1 y1 : Int) (w : World) : (Op.equalIn 10000 44 (.agg #[.int .i64 x0, .int .i64 x1]) (.agg #[.int .i64 y0, .int .i64 y1])).run Tryz.prog w = .ok (sqM (x0, x1) (y0, y1)) w := by
  show _ = Result.ok (((x0 == y0) && (x1 == y1))) w
  have us0 := Tryz.underlying3
  have ag0 := Tryz.isAgg3
  have zs0 := Tryz.sizeOf3
  have hS : Tryz.prog.underlying 44 = some (.struct (Tryz.prog.fieldsOf 44)) := by kernel_rfl
  have hp : Tryz.prog.stoodInHeld 44 = false := by kernel_rfl
  rw [show (10000 : Nat) = 9999 + 1 from rfl, run_equalIn_agg w 9999 44 _ _ hS hp]
  simp only [Program.fieldsOf, Tryz.underlying44]
  go_simp
  cases h0 : (x0 == y0) with
  | false => first | rfl | simp_all
  | true =>
  cases h1 : (x1 == y1) <;> simp_all
theorem guard9_M (x y : Operand) (xs ys : Array Value) (w : World) : (eqGuard .neq 44 x y (.agg xs) (.agg ys)).run Tryz.prog w = .ok () w := run_eqGuard_agg w .neq 44 x y xs ys (by kernel_rfl)
theorem neq9_M (x0 y0 : Int) (x1 y1 : Int) (w : World) : (binOp .neq 44 (.agg #[.int .i64 x0, .int .i64 x1]) (.agg #[.int .i64 y0, .int .i64 y1])).run Tryz.prog w = .ok (.bool (!sqM (x0, x1) (y0, y1))) w := by
  rw [run_neq_struct, eq9_M]; rfl

theorem eq9_O (x0 y0 : Int) (x1 y1 : Int) (x2 y2 : Int) (w : World) : (Op.equalIn 10000 29 (.agg #[.int .i64 x0, .int .i64 x1, .int .i64 x2]) (.agg #[.int .i64 y0, .int .i64 y1, .int .i64 y2])).run Tryz.prog w = .ok (sqO (x0, x1, x2) (y0, y1, y2)) w := by
  show _ = Result.ok (((x0 == y0) && ((x1 == y1) && (x2 == y2)))) w
  have us0 := Tryz.underlying3
  have ag0 := Tryz.isAgg3
  have zs0 := Tryz.sizeOf3
  have hS : Tryz.prog.underlying 29 = some (.struct (Tryz.prog.fieldsOf 29)) := by kernel_rfl
  have hp : Tryz.prog.stoodInHeld 29 = false := by kernel_rfl
  rw [show (10000 : Nat) = 9999 + 1 from rfl, run_equalIn_agg w 9999 29 _ _ hS hp]
  simp only [Program.fieldsOf, Tryz.underlying29]
  go_simp
  cases h0 : (x0 == y0) with
  | false => first | rfl | simp_all
  | true =>
  cases h1 : (x1 == y1) with
  | false => first | rfl | simp_all
  | true =>
  cases h2 : (x2 == y2) <;> simp_all
theorem guard9_O (x y : Operand) (xs ys : Array Value) (w : World) : (eqGuard .neq 29 x y (.agg xs) (.agg ys)).run Tryz.prog w = .ok () w := run_eqGuard_agg w .neq 29 x y xs ys (by kernel_rfl)
theorem neq9_O (x0 y0 : Int) (x1 y1 : Int) (x2 y2 : Int) (w : World) : (binOp .neq 29 (.agg #[.int .i64 x0, .int .i64 x1, .int .i64 x2]) (.agg #[.int .i64 y0, .int .i64 y1, .int .i64 y2])).run Tryz.prog w = .ok (.bool (!sqO (x0, x1, x2) (y0, y1, y2))) w := by
  rw [run_neq_struct, eq9_O]; rfl

/-- two structs held against each other, in a region -/
theorem step_neq9 {o : Oper} {bb : Bool} {a : Act} {w : World} {K : Act → World → Prop} {Q : Exit → Act → World → Prop} {E : Prop} {t r : TypeId} {x y : Operand} {xs ys : Array Value} {b : Bool} (hgd : bb = true) (ho : o.op = .binOp .neq t x y r) (hx : a.eval x = .agg xs) (hy : a.eval y = .agg ys)
    (hg : (eqGuard .neq t x y (.agg xs) (.agg ys)).run Tryz.prog w = .ok () w) (hr : (binOp .neq t (.agg xs) (.agg ys)).run Tryz.prog w = .ok (.bool b) w) (h : K (a.put o.dst (.bool b)) w) : if bb = true then Oper.wp Tryz.prog o a w K Q else E := by
  rw [if_pos hgd]
  unfold Oper.wp execOp
  simp only [ho, hx, hy, Sem.run_bind, Sem.run_pure, Result.andThen_ok, hg, hr]
  exact h
theorem list_ext9 {α : Type} {l m : List α} (z : α) (hl : l.length = m.length) (h : ∀ i, i < l.length → l.getD i z = m.getD i z) : l = m := by
  refine List.ext_getElem hl fun i h1 h2 => ?_
  have := h i h1
  simpa [h1, h2] using this
theorem cell_blkS {w : World} {B : Nat} {cur : Array Value} {t : TypeId} (g : w.heap[B]? = some (.cells cur t (0, 0))) {i : Nat} {u : Value} (h : cur[i]? = some u) : w.cell? ⟨B, i, none⟩ = some u := by rw [cell_of_row w _ _ _ _ (0, 0) g]; exact h
def SameP (s s2 d d2 hz hz2 : Int) (le le2 : List EntV) (lm lm2 : List (Int × Int)) (lo lo2 : List (Int × Int × Int)) : Prop := s = s2 ∧ d = d2 ∧ hz = hz2 ∧ le = le2 ∧ lm = lm2 ∧ lo = lo2
def SameIs (s s2 d d2 hz hz2 : Int) (le le2 : List EntV) (lm lm2 : List (Int × Int)) (lo lo2 : List (Int × Int × Int)) (e : Ending) : Prop := ∃ b : Bool, e = .returned (.bool b) ∧ (b = true ↔ SameP s s2 d d2 hz hz2 le le2 lm lm2 lo lo2)
section
variable {s s2 d d2 hz hz2 : Int} {le le2 : List EntV} {lm lm2 : List (Int × Int)} {lo lo2 : List (Int × Int × Int)}
theorem SameIs.no (h : ¬ SameP s s2 d d2 hz hz2 le le2 lm lm2 lo lo2) : SameIs s s2 d d2 hz hz2 le le2 lm lm2 lo lo2 (.returned (.bool false)) := ⟨false, rfl, ⟨fun e => (by cases e), fun g => absurd g h⟩⟩
theorem SameIs.yes (h : SameP s s2 d d2 hz hz2 le le2 lm lm2 lo lo2) : SameIs s s2 d d2 hz hz2 le le2 lm lm2 lo lo2 (.returned (.bool true)) := ⟨true, rfl, ⟨fun _ => h, fun _ => rfl⟩⟩
end
set_option maxRecDepth 100000 in
set_option maxHeartbeats 16000000 in
theorem rsame13_any {w : World} {s s2 d d2 hz hz2 : Int} {ea eb ma mb oa ob : Option Addr} {en en2 ec ed mn mn2 mc md on on2 oc od : Nat} {le le2 : List EntV} {lm lm2 : List (Int × Int)} {lo lo2 : List (Int × Int × Int)} (hE : VecAt EntS w ea en ec le) (hM : VecAt MarkS w ma mn mc lm) (hO : VecAt OwnS w oa on oc lo) (hE2 : VecAt EntS w eb en2 ed le2) (hM2 : VecAt MarkS w mb mn2 md lm2) (hO2 : VecAt OwnS w ob on2 od lo2) :
    Calls Tryz.prog 13 #[.agg #[.int .i64 s, .int .i64 d, .int .i64 hz, .slice ea en ec, .slice ma mn mc, .slice oa on oc], .agg #[.int .i64 s2, .int .i64 d2, .int .i64 hz2, .slice eb en2 ed, .slice mb mn2 md, .slice ob on2 od]] w fun e w' => SameIs s s2 d d2 hz hz2 le le2 lm lm2 lo lo2 e ∧ Below w.heap.size w w' := by
  obtain ⟨wa, hwa⟩ : ∃ wa, wa = w.alloc (.cells #[.int .i64 s, .int .i64 d, .int .i64 hz, .slice ea en ec, .slice ma mn mc, .slice oa on oc] 26) := ⟨_, rfl⟩
  have ba : Below w.heap.size w wa := by rw [hwa]; exact (Below.refl _ _).alloc (Nat.le_refl _) _
  have ga : wa.heap[w.heap.size]? = some (.cells #[.int .i64 s, .int .i64 d, .int .i64 hz, .slice ea en ec, .slice ma mn mc, .slice oa on oc] 26 (0, 0)) := by rw [hwa]; exact heap_alloc_new _ _
  have sa : wa.heap.size = w.heap.size + 1 := by rw [hwa]; exact Array.size_push _
  obtain ⟨wx, hwx⟩ : ∃ wx, wx = wa.alloc (.cells #[.int .i64 s2, .int .i64 d2, .int .i64 hz2, .slice eb en2 ed, .slice mb mn2 md, .slice ob on2 od] 26) := ⟨_, rfl⟩
  have bx : Below wa.heap.size wa wx := by rw [hwx]; exact (Below.refl _ _).alloc (Nat.le_refl _) _
  have gx : wx.heap[w.heap.size + 1]? = some (.cells #[.int .i64 s2, .int .i64 d2, .int .i64 hz2, .slice eb en2 ed, .slice mb mn2 md, .slice ob on2 od] 26 (0, 0)) := by rw [hwx, ← sa]; exact heap_alloc_new _ _
  have ga2 : wx.heap[w.heap.size]? = some (.cells #[.int .i64 s, .int .i64 d, .int .i64 hz, .slice ea en ec, .slice ma mn mc, .slice oa on oc] 26 (0, 0)) := (bx.block w.heap.size (by omega)).trans ga
  have HBW := Lib.hid (ba.trans (bx.mono ba.size))
  have HG1 := Lib.hid ga2
  have HG2 := Lib.hid gx
  have HW1 := Lib.hid (Array.getElem?_eq_some_iff.1 ga2).1
  have HW2 := Lib.hid (Array.getElem?_eq_some_iff.1 gx).1
  have HWX := Lib.hid (show wx = (w.alloc (.cells #[.int .i64 s, .int .i64 d, .int .i64 hz, .slice ea en ec, .slice ma mn mc, .slice oa on oc] 26)).alloc (.cells #[.int .i64 s2, .int .i64 d2, .int .i64 hz2, .slice eb en2 ed, .slice mb mn2 md, .slice ob on2 od] 26) from by rw [hwx, hwa])
  have HVE := Lib.hid hE
  have HVM := Lib.hid hM
  have HVO := Lib.hid hO
  have HVE2 := Lib.hid hE2
  have HVM2 := Lib.hid hM2
  have HVO2 := Lib.hid hO2
  have Lle := Lib.hid hE.len
  have Llm := Lib.hid hM.len
  have Llo := Lib.hid hO.len
  have Lle2 := Lib.hid hE2.len
  have Llm2 := Lib.hid hM2.len
  have Llo2 := Lib.hid hO2.len
  have q1 := hE.cap
  have q2 := hE.capm
  have q3 := hM.cap
  have q4 := hM.capm
  have q5 := hO.cap
  have q6 := hO.capm
  have q7 := hE2.cap
  have q8 := hE2.capm
  have q9 := hM2.cap
  have q10 := hM2.capm
  have q11 := hO2.cap
  have q12 := hO2.capm
  clear hwa ba ga sa hwx bx gx ga2 hE hM hO hE2 hM2 hO2
  go_enter Tryz.func13, Tryz.ntmps13
  by_cases g0 : s = s2
  case neg =>
    have z0 : (s != s2) = true := by rw [bne_iff_ne]; omega
    have HNO := Lib.hid (SameIs.no (fun e => g0 (e.1)) : SameIs s s2 d d2 hz hz2 le le2 lm lm2 lo lo2 (.returned (.bool false)))
    clear g0
    go_wp2_with fail
    first | (go_ret; exact ⟨HNO.out, HBW.out⟩) | (rw [← HWX.out]; go_wp2_with fail; go_ret; exact ⟨HNO.out, HBW.out⟩) | (go_ret; rw [← HWX.out]; exact ⟨HNO.out, HBW.out⟩)
  subst g0
  by_cases g1 : d = d2
  case neg =>
    have z1 : (d != d2) = true := by rw [bne_iff_ne]; omega
    have HNO := Lib.hid (SameIs.no (fun e => g1 (e.2.1)) : SameIs s s d d2 hz hz2 le le2 lm lm2 lo lo2 (.returned (.bool false)))
    have z0 : (s != s) = false := by simp
    clear g1
    go_wp2_with fail
    first | (go_ret; exact ⟨HNO.out, HBW.out⟩) | (rw [← HWX.out]; go_wp2_with fail; go_ret; exact ⟨HNO.out, HBW.out⟩) | (go_ret; rw [← HWX.out]; exact ⟨HNO.out, HBW.out⟩)
  subst g1
  by_cases g2 : hz = hz2
  case neg =>
    have z2 : (hz != hz2) = true := by rw [bne_iff_ne]; omega
    have HNO := Lib.hid (SameIs.no (fun e => g2 (e.2.2.1)) : SameIs s s d d hz hz2 le le2 lm lm2 lo lo2 (.returned (.bool false)))
    have z0 : (s != s) = false := by simp
    have z1 : (d != d) = false := by simp
    clear g2
    go_wp2_with fail
    first | (go_ret; exact ⟨HNO.out, HBW.out⟩) | (rw [← HWX.out]; go_wp2_with fail; go_ret; exact ⟨HNO.out, HBW.out⟩) | (go_ret; rw [← HWX.out]; exact ⟨HNO.out, HBW.out⟩)
  subst g2
  by_cases g3 : en = en2
  case neg =>
    have z3 : ((en : Int) != (en2 : Int)) = true := by rw [bne_iff_ne]; omega
    have HNO := Lib.hid (SameIs.no (fun e => g3 (by rw [← Lle.out, ← Lle2.out, e.2.2.2.1])) : SameIs s s d d hz hz le le2 lm lm2 lo lo2 (.returned (.bool false)))
    have z0 : (s != s) = false := by simp
    have z1 : (d != d) = false := by simp
    have z2 : (hz != hz) = false := by simp
    clear g3
    go_wp2_with fail
    first | (go_ret; exact ⟨HNO.out, HBW.out⟩) | (rw [← HWX.out]; go_wp2_with fail; go_ret; exact ⟨HNO.out, HBW.out⟩) | (go_ret; rw [← HWX.out]; exact ⟨HNO.out, HBW.out⟩)
  subst g3
  by_cases g4 : mn = mn2
  case neg =>
    have z4 : ((mn : Int) != (mn2 : Int)) = true := by rw [bne_iff_ne]; omega
    have HNO := Lib.hid (SameIs.no (fun e => g4 (by rw [← Llm.out, ← Llm2.out, e.2.2.2.2.1])) : SameIs s s d d hz hz le le2 lm lm2 lo lo2 (.returned (.bool false)))
    have z0 : (s != s) = false := by simp
    have z1 : (d != d) = false := by simp
    have z2 : (hz != hz) = false := by simp
    have z3 : ((en : Int) != (en : Int)) = false := by simp
    clear g4
    go_wp2_with fail
    first | (go_ret; exact ⟨HNO.out, HBW.out⟩) | (rw [← HWX.out]; go_wp2_with fail; go_ret; exact ⟨HNO.out, HBW.out⟩) | (go_ret; rw [← HWX.out]; exact ⟨HNO.out, HBW.out⟩)
  subst g4
  by_cases g5 : on = on2
  case neg =>
    have z5 : ((on : Int) != (on2 : Int)) = true := by rw [bne_iff_ne]; omega
    have HNO := Lib.hid (SameIs.no (fun e => g5 (by rw [← Llo.out, ← Llo2.out, e.2.2.2.2.2])) : SameIs s s d d hz hz le le2 lm lm2 lo lo2 (.returned (.bool false)))
    have z0 : (s != s) = false := by simp
    have z1 : (d != d) = false := by simp
    have z2 : (hz != hz) = false := by simp
    have z3 : ((en : Int) != (en : Int)) = false := by simp
    have z4 : ((mn : Int) != (mn : Int)) = false := by simp
    clear g5
    go_wp2_with fail
    first | (go_ret; exact ⟨HNO.out, HBW.out⟩) | (rw [← HWX.out]; go_wp2_with fail; go_ret; exact ⟨HNO.out, HBW.out⟩) | (go_ret; rw [← HWX.out]; exact ⟨HNO.out, HBW.out⟩)
  subst g5
  have z0 : (s != s) = false := by simp
  have z1 : (d != d) = false := by simp
  have z2 : (hz != hz) = false := by simp
  have z3 : ((en : Int) != (en : Int)) = false := by simp
  have z4 : ((mn : Int) != (mn : Int)) = false := by simp
  have z5 : ((on : Int) != (on : Int)) = false := by simp

  go_wp2_with fail
  rw [← HWX.out]
  go_loopw [5, 57] (fun _ sI wr => ∃ j : Nat, j ≤ en ∧ sI = .int .i64 (j : Int) ∧ Hid (∀ i, i < j → le.getD i EntS.z = le2.getD i EntS.z) ∧ Hid (Below wx.heap.size wx wr)) (fun _ sI _ => en - (intOf sI).toNat)
  case atStart => exact ⟨0, by omega, rfl, Lib.hid (fun i hi => absurd hi (Nat.not_lt_zero _)), Lib.hid (Below.refl _ _)⟩
  case round =>
    obtain ⟨j, hj, rfl, HU, HB⟩ := hrel
    rename World => wr
    by_cases hjn : j < en
    · have hji : (j : Int) < (en : Int) := by omega
      obtain ⟨sb, so, rfl, hsl, _, hsx⟩ := (HVE.out.kept (HBW.out.trans (HB.out.mono HBW.out.size))).get hjn
      obtain ⟨tb, to9, rfl, htl, _, hsy⟩ := (HVE2.out.kept (HBW.out.trans (HB.out.mono HBW.out.size))).get hjn
      obtain ⟨x, hx⟩ : ∃ x, x = le.getD j EntS.z := ⟨_, rfl⟩
      obtain ⟨y, hy⟩ : ∃ y, y = le2.getD j EntS.z := ⟨_, rfl⟩
      rw [← hx] at hsx
      rw [← hy] at hsy
      have HX := Lib.hid hx
      have HY := Lib.hid hy
      have HSX := Lib.hid hsx
      have HSY := Lib.hid hsy
      have HSL := Lib.hid hsl
      have HTL := Lib.hid htl
      have HJN := Lib.hid hjn
      have HK1 := Lib.hid ((HB.out.block w.heap.size HW1.out).trans HG1.out)
      have HK2 := Lib.hid ((HB.out.block (w.heap.size + 1) HW2.out).trans HG2.out)
      have HL1 := Lib.hid (Nat.lt_of_lt_of_le HW1.out HB.out.size)
      have HL2 := Lib.hid (Nat.lt_of_lt_of_le HW2.out HB.out.size)
      obtain ⟨x0, x1, x2, x3, x4, x5, x6, x7, x8⟩ := x
      obtain ⟨y0, y1, y2, y3, y4, y5, y6, y7, y8⟩ := y
      clear hx hy hsx hsy hsl htl
      go_wp2_with fail
      cases hq : sqE ⟨x0, x1, x2, x3, x4, x5, x6, x7, x8⟩ ⟨y0, y1, y2, y3, y4, y5, y6, y7, y8⟩ with
      | false =>
        have HQ := Lib.hid hq
        have HNO := Lib.hid (SameIs.no (fun e => by
          have e9 : le = le2 := e.2.2.2.1
          have h1 : ⟨x0, x1, x2, x3, x4, x5, x6, x7, x8⟩ = le.getD j EntS.z := HX.out
          have h2 : ⟨y0, y1, y2, y3, y4, y5, y6, y7, y8⟩ = le2.getD j EntS.z := HY.out
          rw [e9, ← h2] at h1
          rw [(sqE_iff ⟨x0, x1, x2, x3, x4, x5, x6, x7, x8⟩ ⟨y0, y1, y2, y3, y4, y5, y6, y7, y8⟩).2 h1] at hq
          cases hq) : SameIs s s d d hz hz le le2 lm lm2 lo lo2 (.returned (.bool false)))
        clear hq
        refine wp_region_fill (by kernel_rfl) (by kernel_rfl) (by kernel_rfl) (Below wr.heap.size wr) (FV (fun j_9 => match j_9 with | 0 => some (.pointer (some ⟨w.heap.size, 3, none⟩)) | 1 => some (.slice (some ⟨sb, so, none⟩) en ec) | 2 => some (.int .i64 (j : Int)) | 3 => some (.pointer (some ⟨sb, so + j * 9, none⟩)) | 4 => some (.agg #[.string x0, .int .i64 x1, .string x2, .int .i64 x3, .int .i64 x4, .int .i64 x5, .int .i64 x6, .int .u32 x7, .int .i64 x8]) | 5 => some (.pointer (some ⟨w.heap.size + 1, 3, none⟩)) | 6 => some (.slice (some ⟨tb, to9, none⟩) en ed) | 7 => some (.int .i64 (j : Int)) | 8 => some (.pointer (some ⟨tb, to9 + j * 9, none⟩)) | 9 => some (.agg #[.string y0, .int .i64 y1, .string y2, .int .i64 y3, .int .i64 y4, .int .i64 y5, .int .i64 y6, .int .u32 y7, .int .i64 y8]) | 10 => some (.bool true) | _ => none) (fun _ _ => True)) (Below.refl _ _).drew ?_ ?_
        · intro i9 o ho V w9 K hJ hdep hK
          have HJ := Lib.hid hJ
          simp only [fill, slotOf, List.size_toArray, List.length_cons, List.length_nil, Nat.reduceAdd, List.getElem?_toArray, List.getElem?_cons_zero, List.getElem?_cons_succ, Option.bind_some, Act.put, List.setIfInBounds_toArray, List.set_cons_zero, List.set_cons_succ] at hK ⊢
          have hin : i9 < 11 := (Array.getElem?_eq_some_iff.1 ho).1
          have hcs : i9 = 0 ∨ i9 = 1 ∨ i9 = 2 ∨ i9 = 3 ∨ i9 = 4 ∨ i9 = 5 ∨ i9 = 6 ∨ i9 = 7 ∨ i9 = 8 ∨ i9 = 9 ∨ i9 = 10 := by omega
          clear hin
          rcases hcs with rfl | rfl | rfl | rfl | rfl | rfl | rfl | rfl | rfl | rfl | rfl
          · obtain rfl := Option.some.inj ho.symm
            clear hdep ho hJ
            try simp only [fill, slotOf, List.size_toArray, List.length_cons, List.length_nil, Nat.reduceAdd, List.getElem?_toArray, List.getElem?_cons_zero, List.getElem?_cons_succ, Option.bind_some, Act.put, List.setIfInBounds_toArray, List.set_cons_zero, List.set_cons_succ] at hK ⊢
            go_simp
            exact hK (.pointer (some ⟨w.heap.size, 3, none⟩)) _ HJ.out rfl (fun j y h => h) _ rfl
          · obtain rfl := Option.some.inj ho.symm
            have d0 : V 0 = .pointer (some ⟨w.heap.size, 3, none⟩) := hdep ⟨0, .data⟩ (by simp) rfl
            have q1 : w9.cell? ⟨w.heap.size, 3, none⟩ = some (.slice (some ⟨sb, so, none⟩) en ec) := (hJ.cell (p := ⟨w.heap.size, 3, none⟩) HL1.out).trans (cell_blkS HK1.out rfl)
            clear hdep ho hJ
            try simp only [fill, slotOf, List.size_toArray, List.length_cons, List.length_nil, Nat.reduceAdd, List.getElem?_toArray, List.getElem?_cons_zero, List.getElem?_cons_succ, Option.bind_some, Act.put, List.setIfInBounds_toArray, List.set_cons_zero, List.set_cons_succ] at hK ⊢
            rw [d0] at hK ⊢
            go_simp
            exact hK (.slice (some ⟨sb, so, none⟩) en ec) _ HJ.out rfl (fun j y h => h) _ rfl
          · obtain rfl := Option.some.inj ho.symm
            clear hdep ho hJ
            try simp only [fill, slotOf, List.size_toArray, List.length_cons, List.length_nil, Nat.reduceAdd, List.getElem?_toArray, List.getElem?_cons_zero, List.getElem?_cons_succ, Option.bind_some, Act.put, List.setIfInBounds_toArray, List.set_cons_zero, List.set_cons_succ] at hK ⊢
            go_simp
            exact hK (.int .i64 (j : Int)) _ HJ.out rfl (fun j y h => h) _ rfl
          · obtain rfl := Option.some.inj ho.symm
            have d1 : V 1 = .slice (some ⟨sb, so, none⟩) en ec := hdep ⟨1, .data⟩ (by simp) rfl
            have d2 : V 2 = .int .i64 (j : Int) := hdep ⟨2, .data⟩ (by simp) rfl
            have hb9 : j < en := HJN.out
            have hb8 : (j : Int) < (en : Int) := by omega
            clear hdep ho hJ
            try simp only [fill, slotOf, List.size_toArray, List.length_cons, List.length_nil, Nat.reduceAdd, List.getElem?_toArray, List.getElem?_cons_zero, List.getElem?_cons_succ, Option.bind_some, Act.put, List.setIfInBounds_toArray, List.set_cons_zero, List.set_cons_succ] at hK ⊢
            rw [d1, d2] at hK ⊢
            go_simp
            exact hK (.pointer (some ⟨sb, so + j * 9, none⟩)) _ HJ.out rfl (fun j y h => h) _ rfl
          · obtain rfl := Option.some.inj ho.symm
            have d3 : V 3 = .pointer (some ⟨sb, so + j * 9, none⟩) := hdep ⟨3, .data⟩ (by simp) rfl
            have e0 : w9.cell? ⟨sb, so + j * 9, none⟩ = some (.string x0) := (hJ.cell (p := ⟨sb, so + j * 9 + 0, none⟩) HSL.out).trans (HSX.out 0 _ rfl)
            have e1 : w9.cell? ⟨sb, so + j * 9 + 1, none⟩ = some (.int .i64 x1) := (hJ.cell (p := ⟨sb, so + j * 9 + 1, none⟩) HSL.out).trans (HSX.out 1 _ rfl)
            have e2 : w9.cell? ⟨sb, so + j * 9 + 2, none⟩ = some (.string x2) := (hJ.cell (p := ⟨sb, so + j * 9 + 2, none⟩) HSL.out).trans (HSX.out 2 _ rfl)
            have e3 : w9.cell? ⟨sb, so + j * 9 + 3, none⟩ = some (.int .i64 x3) := (hJ.cell (p := ⟨sb, so + j * 9 + 3, none⟩) HSL.out).trans (HSX.out 3 _ rfl)
            have e4 : w9.cell? ⟨sb, so + j * 9 + 4, none⟩ = some (.int .i64 x4) := (hJ.cell (p := ⟨sb, so + j * 9 + 4, none⟩) HSL.out).trans (HSX.out 4 _ rfl)
            have e5 : w9.cell? ⟨sb, so + j * 9 + 5, none⟩ = some (.int .i64 x5) := (hJ.cell (p := ⟨sb, so + j * 9 + 5, none⟩) HSL.out).trans (HSX.out 5 _ rfl)
            have e6 : w9.cell? ⟨sb, so + j * 9 + 6, none⟩ = some (.int .i64 x6) := (hJ.cell (p := ⟨sb, so + j * 9 + 6, none⟩) HSL.out).trans (HSX.out 6 _ rfl)
            have e7 : w9.cell? ⟨sb, so + j * 9 + 7, none⟩ = some (.int .u32 x7) := (hJ.cell (p := ⟨sb, so + j * 9 + 7, none⟩) HSL.out).trans (HSX.out 7 _ rfl)
            have e8 : w9.cell? ⟨sb, so + j * 9 + 8, none⟩ = some (.int .i64 x8) := (hJ.cell (p := ⟨sb, so + j * 9 + 8, none⟩) HSL.out).trans (HSX.out 8 _ rfl)
            clear hdep ho hJ
            try simp only [fill, slotOf, List.size_toArray, List.length_cons, List.length_nil, Nat.reduceAdd, List.getElem?_toArray, List.getElem?_cons_zero, List.getElem?_cons_succ, Option.bind_some, Act.put, List.setIfInBounds_toArray, List.set_cons_zero, List.set_cons_succ] at hK ⊢
            rw [d3] at hK ⊢
            go_simp
            exact hK (.agg #[.string x0, .int .i64 x1, .string x2, .int .i64 x3, .int .i64 x4, .int .i64 x5, .int .i64 x6, .int .u32 x7, .int .i64 x8]) _ HJ.out rfl (fun j y h => h) _ rfl
          · obtain rfl := Option.some.inj ho.symm
            clear hdep ho hJ
            try simp only [fill, slotOf, List.size_toArray, List.length_cons, List.length_nil, Nat.reduceAdd, List.getElem?_toArray, List.getElem?_cons_zero, List.getElem?_cons_succ, Option.bind_some, Act.put, List.setIfInBounds_toArray, List.set_cons_zero, List.set_cons_succ] at hK ⊢
            go_simp
            exact hK (.pointer (some ⟨w.heap.size + 1, 3, none⟩)) _ HJ.out rfl (fun j y h => h) _ rfl
          · obtain rfl := Option.some.inj ho.symm
            have d5 : V 5 = .pointer (some ⟨w.heap.size + 1, 3, none⟩) := hdep ⟨5, .data⟩ (by simp) rfl
            have q2 : w9.cell? ⟨w.heap.size + 1, 3, none⟩ = some (.slice (some ⟨tb, to9, none⟩) en ed) := (hJ.cell (p := ⟨w.heap.size + 1, 3, none⟩) HL2.out).trans (cell_blkS HK2.out rfl)
            clear hdep ho hJ
            try simp only [fill, slotOf, List.size_toArray, List.length_cons, List.length_nil, Nat.reduceAdd, List.getElem?_toArray, List.getElem?_cons_zero, List.getElem?_cons_succ, Option.bind_some, Act.put, List.setIfInBounds_toArray, List.set_cons_zero, List.set_cons_succ] at hK ⊢
            rw [d5] at hK ⊢
            go_simp
            exact hK (.slice (some ⟨tb, to9, none⟩) en ed) _ HJ.out rfl (fun j y h => h) _ rfl
          · obtain rfl := Option.some.inj ho.symm
            clear hdep ho hJ
            try simp only [fill, slotOf, List.size_toArray, List.length_cons, List.length_nil, Nat.reduceAdd, List.getElem?_toArray, List.getElem?_cons_zero, List.getElem?_cons_succ, Option.bind_some, Act.put, List.setIfInBounds_toArray, List.set_cons_zero, List.set_cons_succ] at hK ⊢
            go_simp
            exact hK (.int .i64 (j : Int)) _ HJ.out rfl (fun j y h => h) _ rfl
          · obtain rfl := Option.some.inj ho.symm
            have d6 : V 6 = .slice (some ⟨tb, to9, none⟩) en ed := hdep ⟨6, .data⟩ (by simp) rfl
            have d7 : V 7 = .int .i64 (j : Int) := hdep ⟨7, .data⟩ (by simp) rfl
            have hb9 : j < en := HJN.out
            have hb8 : (j : Int) < (en : Int) := by omega
            clear hdep ho hJ
            try simp only [fill, slotOf, List.size_toArray, List.length_cons, List.length_nil, Nat.reduceAdd, List.getElem?_toArray, List.getElem?_cons_zero, List.getElem?_cons_succ, Option.bind_some, Act.put, List.setIfInBounds_toArray, List.set_cons_zero, List.set_cons_succ] at hK ⊢
            rw [d6, d7] at hK ⊢
            go_simp
            exact hK (.pointer (some ⟨tb, to9 + j * 9, none⟩)) _ HJ.out rfl (fun j y h => h) _ rfl
          · obtain rfl := Option.some.inj ho.symm
            have d8 : V 8 = .pointer (some ⟨tb, to9 + j * 9, none⟩) := hdep ⟨8, .data⟩ (by simp) rfl
            have e0 : w9.cell? ⟨tb, to9 + j * 9, none⟩ = some (.string y0) := (hJ.cell (p := ⟨tb, to9 + j * 9 + 0, none⟩) HTL.out).trans (HSY.out 0 _ rfl)
            have e1 : w9.cell? ⟨tb, to9 + j * 9 + 1, none⟩ = some (.int .i64 y1) := (hJ.cell (p := ⟨tb, to9 + j * 9 + 1, none⟩) HTL.out).trans (HSY.out 1 _ rfl)
            have e2 : w9.cell? ⟨tb, to9 + j * 9 + 2, none⟩ = some (.string y2) := (hJ.cell (p := ⟨tb, to9 + j * 9 + 2, none⟩) HTL.out).trans (HSY.out 2 _ rfl)
            have e3 : w9.cell? ⟨tb, to9 + j * 9 + 3, none⟩ = some (.int .i64 y3) := (hJ.cell (p := ⟨tb, to9 + j * 9 + 3, none⟩) HTL.out).trans (HSY.out 3 _ rfl)
            have e4 : w9.cell? ⟨tb, to9 + j * 9 + 4, none⟩ = some (.int .i64 y4) := (hJ.cell (p := ⟨tb, to9 + j * 9 + 4, none⟩) HTL.out).trans (HSY.out 4 _ rfl)
            have e5 : w9.cell? ⟨tb, to9 + j * 9 + 5, none⟩ = some (.int .i64 y5) := (hJ.cell (p := ⟨tb, to9 + j * 9 + 5, none⟩) HTL.out).trans (HSY.out 5 _ rfl)
            have e6 : w9.cell? ⟨tb, to9 + j * 9 + 6, none⟩ = some (.int .i64 y6) := (hJ.cell (p := ⟨tb, to9 + j * 9 + 6, none⟩) HTL.out).trans (HSY.out 6 _ rfl)
            have e7 : w9.cell? ⟨tb, to9 + j * 9 + 7, none⟩ = some (.int .u32 y7) := (hJ.cell (p := ⟨tb, to9 + j * 9 + 7, none⟩) HTL.out).trans (HSY.out 7 _ rfl)
            have e8 : w9.cell? ⟨tb, to9 + j * 9 + 8, none⟩ = some (.int .i64 y8) := (hJ.cell (p := ⟨tb, to9 + j * 9 + 8, none⟩) HTL.out).trans (HSY.out 8 _ rfl)
            clear hdep ho hJ
            try simp only [fill, slotOf, List.size_toArray, List.length_cons, List.length_nil, Nat.reduceAdd, List.getElem?_toArray, List.getElem?_cons_zero, List.getElem?_cons_succ, Option.bind_some, Act.put, List.setIfInBounds_toArray, List.set_cons_zero, List.set_cons_succ] at hK ⊢
            rw [d8] at hK ⊢
            go_simp
            exact hK (.agg #[.string y0, .int .i64 y1, .string y2, .int .i64 y3, .int .i64 y4, .int .i64 y5, .int .i64 y6, .int .u32 y7, .int .i64 y8]) _ HJ.out rfl (fun j y h => h) _ rfl
          · obtain rfl := Option.some.inj ho.symm
            have d4 : V 4 = .agg #[.string x0, .int .i64 x1, .string x2, .int .i64 x3, .int .i64 x4, .int .i64 x5, .int .i64 x6, .int .u32 x7, .int .i64 x8] := hdep ⟨4, .data⟩ (by simp) rfl
            have d9 : V 9 = .agg #[.string y0, .int .i64 y1, .string y2, .int .i64 y3, .int .i64 y4, .int .i64 y5, .int .i64 y6, .int .u32 y7, .int .i64 y8] := hdep ⟨9, .data⟩ (by simp) rfl
            have hq9 : sqE ⟨x0, x1, x2, x3, x4, x5, x6, x7, x8⟩ ⟨y0, y1, y2, y3, y4, y5, y6, y7, y8⟩ = false := HQ.out
            clear hdep ho hJ
            try simp only [fill, slotOf, List.size_toArray, List.length_cons, List.length_nil, Nat.reduceAdd, List.getElem?_toArray, List.getElem?_cons_zero, List.getElem?_cons_succ, Option.bind_some, Act.put, List.setIfInBounds_toArray, List.set_cons_zero, List.set_cons_succ] at hK ⊢
            rw [d4, d9] at hK ⊢
            refine step_neq9 (b := true) (by rfl) (by rfl) (by rfl) (by rfl) (guard9_E _ _ _ _ _) (by rw [neq9_E, hq9]; rfl) ?_
            exact hK (.bool true) _ HJ.out rfl (fun j y h => h) _ rfl
        · intro V w9 hJ hall
          have dL : V 10 = .bool true := hall 10 (by decide)
          have HJ9 := Lib.hid hJ
          clear hall hJ
          simp only [fill, slotOf, List.size_toArray, List.length_cons, List.length_nil, Nat.reduceAdd, List.getElem?_toArray, List.getElem?_cons_zero, List.getElem?_cons_succ, Option.bind_some, Act.put, List.setIfInBounds_toArray, List.set_cons_zero, List.set_cons_succ]
          rw [dL]
          clear dL
          have HBZ := Lib.hid (HBW.out.trans ((HB.out.trans (HJ9.out.mono HB.out.size)).mono HBW.out.size))
          go_wp2_with fail
          go_ret
          exact ⟨HNO.out, HBZ.out⟩
      | true =>
        have HQ := Lib.hid hq
        have HU2 := Lib.hid (show ∀ i, i < j + 1 → le.getD i EntS.z = le2.getD i EntS.z from fun i hi => by
          rcases Nat.lt_or_ge i j with g | g
          · exact HU.out i g
          · obtain rfl : i = j := by omega
            rw [← HX.out, ← HY.out]
            exact (sqE_iff ⟨x0, x1, x2, x3, x4, x5, x6, x7, x8⟩ ⟨y0, y1, y2, y3, y4, y5, y6, y7, y8⟩).1 hq)
        clear hq
        refine wp_region_fill (by kernel_rfl) (by kernel_rfl) (by kernel_rfl) (Below wr.heap.size wr) (FV (fun j_9 => match j_9 with | 0 => some (.pointer (some ⟨w.heap.size, 3, none⟩)) | 1 => some (.slice (some ⟨sb, so, none⟩) en ec) | 2 => some (.int .i64 (j : Int)) | 3 => some (.pointer (some ⟨sb, so + j * 9, none⟩)) | 4 => some (.agg #[.string x0, .int .i64 x1, .string x2, .int .i64 x3, .int .i64 x4, .int .i64 x5, .int .i64 x6, .int .u32 x7, .int .i64 x8]) | 5 => some (.pointer (some ⟨w.heap.size + 1, 3, none⟩)) | 6 => some (.slice (some ⟨tb, to9, none⟩) en ed) | 7 => some (.int .i64 (j : Int)) | 8 => some (.pointer (some ⟨tb, to9 + j * 9, none⟩)) | 9 => some (.agg #[.string y0, .int .i64 y1, .string y2, .int .i64 y3, .int .i64 y4, .int .i64 y5, .int .i64 y6, .int .u32 y7, .int .i64 y8]) | 10 => some (.bool false) | _ => none) (fun _ _ => True)) (Below.refl _ _).drew ?_ ?_
        · intro i9 o ho V w9 K hJ hdep hK
          have HJ := Lib.hid hJ
          simp only [fill, slotOf, List.size_toArray, List.length_cons, List.length_nil, Nat.reduceAdd, List.getElem?_toArray, List.getElem?_cons_zero, List.getElem?_cons_succ, Option.bind_some, Act.put, List.setIfInBounds_toArray, List.set_cons_zero, List.set_cons_succ] at hK ⊢
          have hin : i9 < 11 := (Array.getElem?_eq_some_iff.1 ho).1
          have hcs : i9 = 0 ∨ i9 = 1 ∨ i9 = 2 ∨ i9 = 3 ∨ i9 = 4 ∨ i9 = 5 ∨ i9 = 6 ∨ i9 = 7 ∨ i9 = 8 ∨ i9 = 9 ∨ i9 = 10 := by omega
          clear hin
          rcases hcs with rfl | rfl | rfl | rfl | rfl | rfl | rfl | rfl | rfl | rfl | rfl
          · obtain rfl := Option.some.inj ho.symm
            clear hdep ho hJ
            try simp only [fill, slotOf, List.size_toArray, List.length_cons, List.length_nil, Nat.reduceAdd, List.getElem?_toArray, List.getElem?_cons_zero, List.getElem?_cons_succ, Option.bind_some, Act.put, List.setIfInBounds_toArray, List.set_cons_zero, List.set_cons_succ] at hK ⊢
            go_simp
            exact hK (.pointer (some ⟨w.heap.size, 3, none⟩)) _ HJ.out rfl (fun j y h => h) _ rfl
          · obtain rfl := Option.some.inj ho.symm
            have d0 : V 0 = .pointer (some ⟨w.heap.size, 3, none⟩) := hdep ⟨0, .data⟩ (by simp) rfl
            have q1 : w9.cell? ⟨w.heap.size, 3, none⟩ = some (.slice (some ⟨sb, so, none⟩) en ec) := (hJ.cell (p := ⟨w.heap.size, 3, none⟩) HL1.out).trans (cell_blkS HK1.out rfl)
            clear hdep ho hJ
            try simp only [fill, slotOf, List.size_toArray, List.length_cons, List.length_nil, Nat.reduceAdd, List.getElem?_toArray, List.getElem?_cons_zero, List.getElem?_cons_succ, Option.bind_some, Act.put, List.setIfInBounds_toArray, List.set_cons_zero, List.set_cons_succ] at hK ⊢
            rw [d0] at hK ⊢
            go_simp
            exact hK (.slice (some ⟨sb, so, none⟩) en ec) _ HJ.out rfl (fun j y h => h) _ rfl
          · obtain rfl := Option.some.inj ho.symm
            clear hdep ho hJ
            try simp only [fill, slotOf, List.size_toArray, List.length_cons, List.length_nil, Nat.reduceAdd, List.getElem?_toArray, List.getElem?_cons_zero, List.getElem?_cons_succ, Option.bind_some, Act.put, List.setIfInBounds_toArray, List.set_cons_zero, List.set_cons_succ] at hK ⊢
            go_simp
            exact hK (.int .i64 (j : Int)) _ HJ.out rfl (fun j y h => h) _ rfl
          · obtain rfl := Option.some.inj ho.symm
            have d1 : V 1 = .slice (some ⟨sb, so, none⟩) en ec := hdep ⟨1, .data⟩ (by simp) rfl
            have d2 : V 2 = .int .i64 (j : Int) := hdep ⟨2, .data⟩ (by simp) rfl
            have hb9 : j < en := HJN.out
            have hb8 : (j : Int) < (en : Int) := by omega
            clear hdep ho hJ
            try simp only [fill, slotOf, List.size_toArray, List.length_cons, List.length_nil, Nat.reduceAdd, List.getElem?_toArray, List.getElem?_cons_zero, List.getElem?_cons_succ, Option.bind_some, Act.put, List.setIfInBounds_toArray, List.set_cons_zero, List.set_cons_succ] at hK ⊢
            rw [d1, d2] at hK ⊢
            go_simp
            exact hK (.pointer (some ⟨sb, so + j * 9, none⟩)) _ HJ.out rfl (fun j y h => h) _ rfl
          · obtain rfl := Option.some.inj ho.symm
            have d3 : V 3 = .pointer (some ⟨sb, so + j * 9, none⟩) := hdep ⟨3, .data⟩ (by simp) rfl
            have e0 : w9.cell? ⟨sb, so + j * 9, none⟩ = some (.string x0) := (hJ.cell (p := ⟨sb, so + j * 9 + 0, none⟩) HSL.out).trans (HSX.out 0 _ rfl)
            have e1 : w9.cell? ⟨sb, so + j * 9 + 1, none⟩ = some (.int .i64 x1) := (hJ.cell (p := ⟨sb, so + j * 9 + 1, none⟩) HSL.out).trans (HSX.out 1 _ rfl)
            have e2 : w9.cell? ⟨sb, so + j * 9 + 2, none⟩ = some (.string x2) := (hJ.cell (p := ⟨sb, so + j * 9 + 2, none⟩) HSL.out).trans (HSX.out 2 _ rfl)
            have e3 : w9.cell? ⟨sb, so + j * 9 + 3, none⟩ = some (.int .i64 x3) := (hJ.cell (p := ⟨sb, so + j * 9 + 3, none⟩) HSL.out).trans (HSX.out 3 _ rfl)
            have e4 : w9.cell? ⟨sb, so + j * 9 + 4, none⟩ = some (.int .i64 x4) := (hJ.cell (p := ⟨sb, so + j * 9 + 4, none⟩) HSL.out).trans (HSX.out 4 _ rfl)
            have e5 : w9.cell? ⟨sb, so + j * 9 + 5, none⟩ = some (.int .i64 x5) := (hJ.cell (p := ⟨sb, so + j * 9 + 5, none⟩) HSL.out).trans (HSX.out 5 _ rfl)
            have e6 : w9.cell? ⟨sb, so + j * 9 + 6, none⟩ = some (.int .i64 x6) := (hJ.cell (p := ⟨sb, so + j * 9 + 6, none⟩) HSL.out).trans (HSX.out 6 _ rfl)
            have e7 : w9.cell? ⟨sb, so + j * 9 + 7, none⟩ = some (.int .u32 x7) := (hJ.cell (p := ⟨sb, so + j * 9 + 7, none⟩) HSL.out).trans (HSX.out 7 _ rfl)
            have e8 : w9.cell? ⟨sb, so + j * 9 + 8, none⟩ = some (.int .i64 x8) := (hJ.cell (p := ⟨sb, so + j * 9 + 8, none⟩) HSL.out).trans (HSX.out 8 _ rfl)
            clear hdep ho hJ
            try simp only [fill, slotOf, List.size_toArray, List.length_cons, List.length_nil, Nat.reduceAdd, List.getElem?_toArray, List.getElem?_cons_zero, List.getElem?_cons_succ, Option.bind_some, Act.put, List.setIfInBounds_toArray, List.set_cons_zero, List.set_cons_succ] at hK ⊢
            rw [d3] at hK ⊢
            go_simp
            exact hK (.agg #[.string x0, .int .i64 x1, .string x2, .int .i64 x3, .int .i64 x4, .int .i64 x5, .int .i64 x6, .int .u32 x7, .int .i64 x8]) _ HJ.out rfl (fun j y h => h) _ rfl
          · obtain rfl := Option.some.inj ho.symm
            clear hdep ho hJ
            try simp only [fill, slotOf, List.size_toArray, List.length_cons, List.length_nil, Nat.reduceAdd, List.getElem?_toArray, List.getElem?_cons_zero, List.getElem?_cons_succ, Option.bind_some, Act.put, List.setIfInBounds_toArray, List.set_cons_zero, List.set_cons_succ] at hK ⊢
            go_simp
            exact hK (.pointer (some ⟨w.heap.size + 1, 3, none⟩)) _ HJ.out rfl (fun j y h => h) _ rfl
          · obtain rfl := Option.some.inj ho.symm
            have d5 : V 5 = .pointer (some ⟨w.heap.size + 1, 3, none⟩) := hdep ⟨5, .data⟩ (by simp) rfl
            have q2 : w9.cell? ⟨w.heap.size + 1, 3, none⟩ = some (.slice (some ⟨tb, to9, none⟩) en ed) := (hJ.cell (p := ⟨w.heap.size + 1, 3, none⟩) HL2.out).trans (cell_blkS HK2.out rfl)
            clear hdep ho hJ
            try simp only [fill, slotOf, List.size_toArray, List.length_cons, List.length_nil, Nat.reduceAdd, List.getElem?_toArray, List.getElem?_cons_zero, List.getElem?_cons_succ, Option.bind_some, Act.put, List.setIfInBounds_toArray, List.set_cons_zero, List.set_cons_succ] at hK ⊢
            rw [d5] at hK ⊢
            go_simp
            exact hK (.slice (some ⟨tb, to9, none⟩) en ed) _ HJ.out rfl (fun j y h => h) _ rfl
          · obtain rfl := Option.some.inj ho.symm
            clear hdep ho hJ
            try simp only [fill, slotOf, List.size_toArray, List.length_cons, List.length_nil, Nat.reduceAdd, List.getElem?_toArray, List.getElem?_cons_zero, List.getElem?_cons_succ, Option.bind_some, Act.put, List.setIfInBounds_toArray, List.set_cons_zero, List.set_cons_succ] at hK ⊢
            go_simp
            exact hK (.int .i64 (j : Int)) _ HJ.out rfl (fun j y h => h) _ rfl
          · obtain rfl := Option.some.inj ho.symm
            have d6 : V 6 = .slice (some ⟨tb, to9, none⟩) en ed := hdep ⟨6, .data⟩ (by simp) rfl
            have d7 : V 7 = .int .i64 (j : Int) := hdep ⟨7, .data⟩ (by simp) rfl
            have hb9 : j < en := HJN.out
            have hb8 : (j : Int) < (en : Int) := by omega
            clear hdep ho hJ
            try simp only [fill, slotOf, List.size_toArray, List.length_cons, List.length_nil, Nat.reduceAdd, List.getElem?_toArray, List.getElem?_cons_zero, List.getElem?_cons_succ, Option.bind_some, Act.put, List.setIfInBounds_toArray, List.set_cons_zero, List.set_cons_succ] at hK ⊢
            rw [d6, d7] at hK ⊢
            go_simp
            exact hK (.pointer (some ⟨tb, to9 + j * 9, none⟩)) _ HJ.out rfl (fun j y h => h) _ rfl
          · obtain rfl := Option.some.inj ho.symm
            have d8 : V 8 = .pointer (some ⟨tb, to9 + j * 9, none⟩) := hdep ⟨8, .data⟩ (by simp) rfl
            have e0 : w9.cell? ⟨tb, to9 + j * 9, none⟩ = some (.string y0) := (hJ.cell (p := ⟨tb, to9 + j * 9 + 0, none⟩) HTL.out).trans (HSY.out 0 _ rfl)
            have e1 : w9.cell? ⟨tb, to9 + j * 9 + 1, none⟩ = some (.int .i64 y1) := (hJ.cell (p := ⟨tb, to9 + j * 9 + 1, none⟩) HTL.out).trans (HSY.out 1 _ rfl)
            have e2 : w9.cell? ⟨tb, to9 + j * 9 + 2, none⟩ = some (.string y2) := (hJ.cell (p := ⟨tb, to9 + j * 9 + 2, none⟩) HTL.out).trans (HSY.out 2 _ rfl)
            have e3 : w9.cell? ⟨tb, to9 + j * 9 + 3, none⟩ = some (.int .i64 y3) := (hJ.cell (p := ⟨tb, to9 + j * 9 + 3, none⟩) HTL.out).trans (HSY.out 3 _ rfl)
            have e4 : w9.cell? ⟨tb, to9 + j * 9 + 4, none⟩ = some (.int .i64 y4) := (hJ.cell (p := ⟨tb, to9 + j * 9 + 4, none⟩) HTL.out).trans (HSY.out 4 _ rfl)
            have e5 : w9.cell? ⟨tb, to9 + j * 9 + 5, none⟩ = some (.int .i64 y5) := (hJ.cell (p := ⟨tb, to9 + j * 9 + 5, none⟩) HTL.out).trans (HSY.out 5 _ rfl)
            have e6 : w9.cell? ⟨tb, to9 + j * 9 + 6, none⟩ = some (.int .i64 y6) := (hJ.cell (p := ⟨tb, to9 + j * 9 + 6, none⟩) HTL.out).trans (HSY.out 6 _ rfl)
            have e7 : w9.cell? ⟨tb, to9 + j * 9 + 7, none⟩ = some (.int .u32 y7) := (hJ.cell (p := ⟨tb, to9 + j * 9 + 7, none⟩) HTL.out).trans (HSY.out 7 _ rfl)
            have e8 : w9.cell? ⟨tb, to9 + j * 9 + 8, none⟩ = some (.int .i64 y8) := (hJ.cell (p := ⟨tb, to9 + j * 9 + 8, none⟩) HTL.out).trans (HSY.out 8 _ rfl)
            clear hdep ho hJ
            try simp only [fill, slotOf, List.size_toArray, List.length_cons, List.length_nil, Nat.reduceAdd, List.getElem?_toArray, List.getElem?_cons_zero, List.getElem?_cons_succ, Option.bind_some, Act.put, List.setIfInBounds_toArray, List.set_cons_zero, List.set_cons_succ] at hK ⊢
            rw [d8] at hK ⊢
            go_simp
            exact hK (.agg #[.string y0, .int .i64 y1, .string y2, .int .i64 y3, .int .i64 y4, .int .i64 y5, .int .i64 y6, .int .u32 y7, .int .i64 y8]) _ HJ.out rfl (fun j y h => h) _ rfl
          · obtain rfl := Option.some.inj ho.symm
            have d4 : V 4 = .agg #[.string x0, .int .i64 x1, .string x2, .int .i64 x3, .int .i64 x4, .int .i64 x5, .int .i64 x6, .int .u32 x7, .int .i64 x8] := hdep ⟨4, .data⟩ (by simp) rfl
            have d9 : V 9 = .agg #[.string y0, .int .i64 y1, .string y2, .int .i64 y3, .int .i64 y4, .int .i64 y5, .int .i64 y6, .int .u32 y7, .int .i64 y8] := hdep ⟨9, .data⟩ (by simp) rfl
            have hq9 : sqE ⟨x0, x1, x2, x3, x4, x5, x6, x7, x8⟩ ⟨y0, y1, y2, y3, y4, y5, y6, y7, y8⟩ = true := HQ.out
            clear hdep ho hJ
            try simp only [fill, slotOf, List.size_toArray, List.length_cons, List.length_nil, Nat.reduceAdd, List.getElem?_toArray, List.getElem?_cons_zero, List.getElem?_cons_succ, Option.bind_some, Act.put, List.setIfInBounds_toArray, List.set_cons_zero, List.set_cons_succ] at hK ⊢
            rw [d4, d9] at hK ⊢
            refine step_neq9 (b := false) (by rfl) (by rfl) (by rfl) (by rfl) (guard9_E _ _ _ _ _) (by rw [neq9_E, hq9]; rfl) ?_
            exact hK (.bool false) _ HJ.out rfl (fun j y h => h) _ rfl
        · intro V w9 hJ hall
          have dL : V 10 = .bool false := hall 10 (by decide)
          have HJ9 := Lib.hid hJ
          clear hall hJ
          simp only [fill, slotOf, List.size_toArray, List.length_cons, List.length_nil, Nat.reduceAdd, List.getElem?_toArray, List.getElem?_cons_zero, List.getElem?_cons_succ, Option.bind_some, Act.put, List.setIfInBounds_toArray, List.set_cons_zero, List.set_cons_succ]
          rw [dL]
          clear dL
          have HBZ := Lib.hid (HB.out.trans (HJ9.out.mono HB.out.size))
          go_wp2_with fail
          go_roundw
          case rel => exact ⟨j + 1, by omega, by go_num, HU2, HBZ⟩
          case measure => simp [intOf]; omega
    · obtain rfl : en = j := by omega
      clear hjn
      have HZE := Lib.hid (show le = le2 from list_ext9 EntS.z (by rw [Lle.out, Lle2.out]) (by rw [Lle.out]; exact HU.out))
      have HK1 := Lib.hid ((HB.out.block w.heap.size HW1.out).trans HG1.out)
      have f1 : wr.cell? ⟨w.heap.size, 4, none⟩ = some (.slice ma mn mc) := cell_blkS HK1.out rfl
      clear HU HK1
      go_wp2_with fail
      clear f1
      go_loopw [6, 75] (fun _ sI wr => ∃ j : Nat, j ≤ mn ∧ sI = .int .i64 (j : Int) ∧ Hid (∀ i, i < j → lm.getD i MarkS.z = lm2.getD i MarkS.z) ∧ Hid (Below wx.heap.size wx wr)) (fun _ sI _ => mn - (intOf sI).toNat)
      case atStart => exact ⟨0, by omega, rfl, Lib.hid (fun i hi => absurd hi (Nat.not_lt_zero _)), HB⟩
      case round =>
        obtain ⟨j, hj, rfl, HU, HB⟩ := hrel
        rename World => wr
        by_cases hjn : j < mn
        · have hji : (j : Int) < (mn : Int) := by omega
          obtain ⟨sb, so, rfl, hsl, _, hsx⟩ := (HVM.out.kept (HBW.out.trans (HB.out.mono HBW.out.size))).get hjn
          obtain ⟨tb, to9, rfl, htl, _, hsy⟩ := (HVM2.out.kept (HBW.out.trans (HB.out.mono HBW.out.size))).get hjn
          obtain ⟨x, hx⟩ : ∃ x, x = lm.getD j MarkS.z := ⟨_, rfl⟩
          obtain ⟨y, hy⟩ : ∃ y, y = lm2.getD j MarkS.z := ⟨_, rfl⟩
          rw [← hx] at hsx
          rw [← hy] at hsy
          have HX := Lib.hid hx
          have HY := Lib.hid hy
          have HSX := Lib.hid hsx
          have HSY := Lib.hid hsy
          have HSL := Lib.hid hsl
          have HTL := Lib.hid htl
          have HJN := Lib.hid hjn
          have HK1 := Lib.hid ((HB.out.block w.heap.size HW1.out).trans HG1.out)
          have HK2 := Lib.hid ((HB.out.block (w.heap.size + 1) HW2.out).trans HG2.out)
          have HL1 := Lib.hid (Nat.lt_of_lt_of_le HW1.out HB.out.size)
          have HL2 := Lib.hid (Nat.lt_of_lt_of_le HW2.out HB.out.size)
          obtain ⟨x0, x1⟩ := x
          obtain ⟨y0, y1⟩ := y
          clear hx hy hsx hsy hsl htl
          go_wp2_with fail
          cases hq : sqM (x0, x1) (y0, y1) with
          | false =>
            have HQ := Lib.hid hq
            have HNO := Lib.hid (SameIs.no (fun e => by
              have e9 : lm = lm2 := e.2.2.2.2.1
              have h1 : (x0, x1) = lm.getD j MarkS.z := HX.out
              have h2 : (y0, y1) = lm2.getD j MarkS.z := HY.out
              rw [e9, ← h2] at h1
              rw [(sqM_iff (x0, x1) (y0, y1)).2 h1] at hq
              cases hq) : SameIs s s d d hz hz le le2 lm lm2 lo lo2 (.returned (.bool false)))
            clear hq
            refine wp_region_fill (by kernel_rfl) (by kernel_rfl) (by kernel_rfl) (Below wr.heap.size wr) (FV (fun j_9 => match j_9 with | 0 => some (.pointer (some ⟨w.heap.size, 4, none⟩)) | 1 => some (.slice (some ⟨sb, so, none⟩) mn mc) | 2 => some (.int .i64 (j : Int)) | 3 => some (.pointer (some ⟨sb, so + j * 2, none⟩)) | 4 => some (.agg #[.int .i64 x0, .int .i64 x1]) | 5 => some (.pointer (some ⟨w.heap.size + 1, 4, none⟩)) | 6 => some (.slice (some ⟨tb, to9, none⟩) mn md) | 7 => some (.int .i64 (j : Int)) | 8 => some (.pointer (some ⟨tb, to9 + j * 2, none⟩)) | 9 => some (.agg #[.int .i64 y0, .int .i64 y1]) | 10 => some (.bool true) | _ => none) (fun _ _ => True)) (Below.refl _ _).drew ?_ ?_
            · intro i9 o ho V w9 K hJ hdep hK
              have HJ := Lib.hid hJ
              simp only [fill, slotOf, List.size_toArray, List.length_cons, List.length_nil, Nat.reduceAdd, List.getElem?_toArray, List.getElem?_cons_zero, List.getElem?_cons_succ, Option.bind_some, Act.put, List.setIfInBounds_toArray, List.set_cons_zero, List.set_cons_succ] at hK ⊢
              have hin : i9 < 11 := (Array.getElem?_eq_some_iff.1 ho).1
              have hcs : i9 = 0 ∨ i9 = 1 ∨ i9 = 2 ∨ i9 = 3 ∨ i9 = 4 ∨ i9 = 5 ∨ i9 = 6 ∨ i9 = 7 ∨ i9 = 8 ∨ i9 = 9 ∨ i9 = 10 := by omega
              clear hin
              rcases hcs with rfl | rfl | rfl | rfl | rfl | rfl | rfl | rfl | rfl | rfl | rfl
              · obtain rfl := Option.some.inj ho.symm
                clear hdep ho hJ
                try simp only [fill, slotOf, List.size_toArray, List.length_cons, List.length_nil, Nat.reduceAdd, List.getElem?_toArray, List.getElem?_cons_zero, List.getElem?_cons_succ, Option.bind_some, Act.put, List.setIfInBounds_toArray, List.set_cons_zero, List.set_cons_succ] at hK ⊢
                go_simp
                exact hK (.pointer (some ⟨w.heap.size, 4, none⟩)) _ HJ.out rfl (fun j y h => h) _ rfl
              · obtain rfl := Option.some.inj ho.symm
                have d0 : V 0 = .pointer (some ⟨w.heap.size, 4, none⟩) := hdep ⟨0, .data⟩ (by simp) rfl
                have q1 : w9.cell? ⟨w.heap.size, 4, none⟩ = some (.slice (some ⟨sb, so, none⟩) mn mc) := (hJ.cell (p := ⟨w.heap.size, 4, none⟩) HL1.out).trans (cell_blkS HK1.out rfl)
                clear hdep ho hJ
                try simp only [fill, slotOf, List.size_toArray, List.length_cons, List.length_nil, Nat.reduceAdd, List.getElem?_toArray, List.getElem?_cons_zero, List.getElem?_cons_succ, Option.bind_some, Act.put, List.setIfInBounds_toArray, List.set_cons_zero, List.set_cons_succ] at hK ⊢
                rw [d0] at hK ⊢
                go_simp
                exact hK (.slice (some ⟨sb, so, none⟩) mn mc) _ HJ.out rfl (fun j y h => h) _ rfl
              · obtain rfl := Option.some.inj ho.symm
                clear hdep ho hJ
                try simp only [fill, slotOf, List.size_toArray, List.length_cons, List.length_nil, Nat.reduceAdd, List.getElem?_toArray, List.getElem?_cons_zero, List.getElem?_cons_succ, Option.bind_some, Act.put, List.setIfInBounds_toArray, List.set_cons_zero, List.set_cons_succ] at hK ⊢
                go_simp
                exact hK (.int .i64 (j : Int)) _ HJ.out rfl (fun j y h => h) _ rfl
              · obtain rfl := Option.some.inj ho.symm
                have d1 : V 1 = .slice (some ⟨sb, so, none⟩) mn mc := hdep ⟨1, .data⟩ (by simp) rfl
                have d2 : V 2 = .int .i64 (j : Int) := hdep ⟨2, .data⟩ (by simp) rfl
                have hb9 : j < mn := HJN.out
                have hb8 : (j : Int) < (mn : Int) := by omega
                clear hdep ho hJ
                try simp only [fill, slotOf, List.size_toArray, List.length_cons, List.length_nil, Nat.reduceAdd, List.getElem?_toArray, List.getElem?_cons_zero, List.getElem?_cons_succ, Option.bind_some, Act.put, List.setIfInBounds_toArray, List.set_cons_zero, List.set_cons_succ] at hK ⊢
                rw [d1, d2] at hK ⊢
                go_simp
                exact hK (.pointer (some ⟨sb, so + j * 2, none⟩)) _ HJ.out rfl (fun j y h => h) _ rfl
              · obtain rfl := Option.some.inj ho.symm
                have d3 : V 3 = .pointer (some ⟨sb, so + j * 2, none⟩) := hdep ⟨3, .data⟩ (by simp) rfl
                have e0 : w9.cell? ⟨sb, so + j * 2, none⟩ = some (.int .i64 x0) := (hJ.cell (p := ⟨sb, so + j * 2 + 0, none⟩) HSL.out).trans (HSX.out 0 _ rfl)
                have e1 : w9.cell? ⟨sb, so + j * 2 + 1, none⟩ = some (.int .i64 x1) := (hJ.cell (p := ⟨sb, so + j * 2 + 1, none⟩) HSL.out).trans (HSX.out 1 _ rfl)
                clear hdep ho hJ
                try simp only [fill, slotOf, List.size_toArray, List.length_cons, List.length_nil, Nat.reduceAdd, List.getElem?_toArray, List.getElem?_cons_zero, List.getElem?_cons_succ, Option.bind_some, Act.put, List.setIfInBounds_toArray, List.set_cons_zero, List.set_cons_succ] at hK ⊢
                rw [d3] at hK ⊢
                go_simp
                exact hK (.agg #[.int .i64 x0, .int .i64 x1]) _ HJ.out rfl (fun j y h => h) _ rfl
              · obtain rfl := Option.some.inj ho.symm
                clear hdep ho hJ
                try simp only [fill, slotOf, List.size_toArray, List.length_cons, List.length_nil, Nat.reduceAdd, List.getElem?_toArray, List.getElem?_cons_zero, List.getElem?_cons_succ, Option.bind_some, Act.put, List.setIfInBounds_toArray, List.set_cons_zero, List.set_cons_succ] at hK ⊢
                go_simp
                exact hK (.pointer (some ⟨w.heap.size + 1, 4, none⟩)) _ HJ.out rfl (fun j y h => h) _ rfl
              · obtain rfl := Option.some.inj ho.symm
                have d5 : V 5 = .pointer (some ⟨w.heap.size + 1, 4, none⟩) := hdep ⟨5, .data⟩ (by simp) rfl
                have q2 : w9.cell? ⟨w.heap.size + 1, 4, none⟩ = some (.slice (some ⟨tb, to9, none⟩) mn md) := (hJ.cell (p := ⟨w.heap.size + 1, 4, none⟩) HL2.out).trans (cell_blkS HK2.out rfl)
                clear hdep ho hJ
                try simp only [fill, slotOf, List.size_toArray, List.length_cons, List.length_nil, Nat.reduceAdd, List.getElem?_toArray, List.getElem?_cons_zero, List.getElem?_cons_succ, Option.bind_some, Act.put, List.setIfInBounds_toArray, List.set_cons_zero, List.set_cons_succ] at hK ⊢
                rw [d5] at hK ⊢
                go_simp
                exact hK (.slice (some ⟨tb, to9, none⟩) mn md) _ HJ.out rfl (fun j y h => h) _ rfl
              · obtain rfl := Option.some.inj ho.symm
                clear hdep ho hJ
                try simp only [fill, slotOf, List.size_toArray, List.length_cons, List.length_nil, Nat.reduceAdd, List.getElem?_toArray, List.getElem?_cons_zero, List.getElem?_cons_succ, Option.bind_some, Act.put, List.setIfInBounds_toArray, List.set_cons_zero, List.set_cons_succ] at hK ⊢
                go_simp
                exact hK (.int .i64 (j : Int)) _ HJ.out rfl (fun j y h => h) _ rfl
              · obtain rfl := Option.some.inj ho.symm
                have d6 : V 6 = .slice (some ⟨tb, to9, none⟩) mn md := hdep ⟨6, .data⟩ (by simp) rfl
                have d7 : V 7 = .int .i64 (j : Int) := hdep ⟨7, .data⟩ (by simp) rfl
                have hb9 : j < mn := HJN.out
                have hb8 : (j : Int) < (mn : Int) := by omega
                clear hdep ho hJ
                try simp only [fill, slotOf, List.size_toArray, List.length_cons, List.length_nil, Nat.reduceAdd, List.getElem?_toArray, List.getElem?_cons_zero, List.getElem?_cons_succ, Option.bind_some, Act.put, List.setIfInBounds_toArray, List.set_cons_zero, List.set_cons_succ] at hK ⊢
                rw [d6, d7] at hK ⊢
                go_simp
                exact hK (.pointer (some ⟨tb, to9 + j * 2, none⟩)) _ HJ.out rfl (fun j y h => h) _ rfl
              · obtain rfl := Option.some.inj ho.symm
                have d8 : V 8 = .pointer (some ⟨tb, to9 + j * 2, none⟩) := hdep ⟨8, .data⟩ (by simp) rfl
                have e0 : w9.cell? ⟨tb, to9 + j * 2, none⟩ = some (.int .i64 y0) := (hJ.cell (p := ⟨tb, to9 + j * 2 + 0, none⟩) HTL.out).trans (HSY.out 0 _ rfl)
                have e1 : w9.cell? ⟨tb, to9 + j * 2 + 1, none⟩ = some (.int .i64 y1) := (hJ.cell (p := ⟨tb, to9 + j * 2 + 1, none⟩) HTL.out).trans (HSY.out 1 _ rfl)
                clear hdep ho hJ
                try simp only [fill, slotOf, List.size_toArray, List.length_cons, List.length_nil, Nat.reduceAdd, List.getElem?_toArray, List.getElem?_cons_zero, List.getElem?_cons_succ, Option.bind_some, Act.put, List.setIfInBounds_toArray, List.set_cons_zero, List.set_cons_succ] at hK ⊢
                rw [d8] at hK ⊢
                go_simp
                exact hK (.agg #[.int .i64 y0, .int .i64 y1]) _ HJ.out rfl (fun j y h => h) _ rfl
              · obtain rfl := Option.some.inj ho.symm
                have d4 : V 4 = .agg #[.int .i64 x0, .int .i64 x1] := hdep ⟨4, .data⟩ (by simp) rfl
                have d9 : V 9 = .agg #[.int .i64 y0, .int .i64 y1] := hdep ⟨9, .data⟩ (by simp) rfl
                have hq9 : sqM (x0, x1) (y0, y1) = false := HQ.out
                clear hdep ho hJ
                try simp only [fill, slotOf, List.size_toArray, List.length_cons, List.length_nil, Nat.reduceAdd, List.getElem?_toArray, List.getElem?_cons_zero, List.getElem?_cons_succ, Option.bind_some, Act.put, List.setIfInBounds_toArray, List.set_cons_zero, List.set_cons_succ] at hK ⊢
                rw [d4, d9] at hK ⊢
                refine step_neq9 (b := true) (by rfl) (by rfl) (by rfl) (by rfl) (guard9_M _ _ _ _ _) (by rw [neq9_M, hq9]; rfl) ?_
                exact hK (.bool true) _ HJ.out rfl (fun j y h => h) _ rfl
            · intro V w9 hJ hall
              have dL : V 10 = .bool true := hall 10 (by decide)
              have HJ9 := Lib.hid hJ
              clear hall hJ
              simp only [fill, slotOf, List.size_toArray, List.length_cons, List.length_nil, Nat.reduceAdd, List.getElem?_toArray, List.getElem?_cons_zero, List.getElem?_cons_succ, Option.bind_some, Act.put, List.setIfInBounds_toArray, List.set_cons_zero, List.set_cons_succ]
              rw [dL]
              clear dL
              have HBZ := Lib.hid (HBW.out.trans ((HB.out.trans (HJ9.out.mono HB.out.size)).mono HBW.out.size))
              go_wp2_with fail
              go_ret
              exact ⟨HNO.out, HBZ.out⟩
          | true =>
            have HQ := Lib.hid hq
            have HU2 := Lib.hid (show ∀ i, i < j + 1 → lm.getD i MarkS.z = lm2.getD i MarkS.z from fun i hi => by
              rcases Nat.lt_or_ge i j with g | g
              · exact HU.out i g
              · obtain rfl : i = j := by omega
                rw [← HX.out, ← HY.out]
                exact (sqM_iff (x0, x1) (y0, y1)).1 hq)
            clear hq
            refine wp_region_fill (by kernel_rfl) (by kernel_rfl) (by kernel_rfl) (Below wr.heap.size wr) (FV (fun j_9 => match j_9 with | 0 => some (.pointer (some ⟨w.heap.size, 4, none⟩)) | 1 => some (.slice (some ⟨sb, so, none⟩) mn mc) | 2 => some (.int .i64 (j : Int)) | 3 => some (.pointer (some ⟨sb, so + j * 2, none⟩)) | 4 => some (.agg #[.int .i64 x0, .int .i64 x1]) | 5 => some (.pointer (some ⟨w.heap.size + 1, 4, none⟩)) | 6 => some (.slice (some ⟨tb, to9, none⟩) mn md) | 7 => some (.int .i64 (j : Int)) | 8 => some (.pointer (some ⟨tb, to9 + j * 2, none⟩)) | 9 => some (.agg #[.int .i64 y0, .int .i64 y1]) | 10 => some (.bool false) | _ => none) (fun _ _ => True)) (Below.refl _ _).drew ?_ ?_
            · intro i9 o ho V w9 K hJ hdep hK
              have HJ := Lib.hid hJ
              simp only [fill, slotOf, List.size_toArray, List.length_cons, List.length_nil, Nat.reduceAdd, List.getElem?_toArray, List.getElem?_cons_zero, List.getElem?_cons_succ, Option.bind_some, Act.put, List.setIfInBounds_toArray, List.set_cons_zero, List.set_cons_succ] at hK ⊢
              have hin : i9 < 11 := (Array.getElem?_eq_some_iff.1 ho).1
              have hcs : i9 = 0 ∨ i9 = 1 ∨ i9 = 2 ∨ i9 = 3 ∨ i9 = 4 ∨ i9 = 5 ∨ i9 = 6 ∨ i9 = 7 ∨ i9 = 8 ∨ i9 = 9 ∨ i9 = 10 := by omega
              clear hin
              rcases hcs with rfl | rfl | rfl | rfl | rfl | rfl | rfl | rfl | rfl | rfl | rfl
              · obtain rfl := Option.some.inj ho.symm
                clear hdep ho hJ
                try simp only [fill, slotOf, List.size_toArray, List.length_cons, List.length_nil, Nat.reduceAdd, List.getElem?_toArray, List.getElem?_cons_zero, List.getElem?_cons_succ, Option.bind_some, Act.put, List.setIfInBounds_toArray, List.set_cons_zero, List.set_cons_succ] at hK ⊢
                go_simp
                exact hK (.pointer (some ⟨w.heap.size, 4, none⟩)) _ HJ.out rfl (fun j y h => h) _ rfl
              · obtain rfl := Option.some.inj ho.symm
                have d0 : V 0 = .pointer (some ⟨w.heap.size, 4, none⟩) := hdep ⟨0, .data⟩ (by simp) rfl
                have q1 : w9.cell? ⟨w.heap.size, 4, none⟩ = some (.slice (some ⟨sb, so, none⟩) mn mc) := (hJ.cell (p := ⟨w.heap.size, 4, none⟩) HL1.out).trans (cell_blkS HK1.out rfl)
                clear hdep ho hJ
                try simp only [fill, slotOf, List.size_toArray, List.length_cons, List.length_nil, Nat.reduceAdd, List.getElem?_toArray, List.getElem?_cons_zero, List.getElem?_cons_succ, Option.bind_some, Act.put, List.setIfInBounds_toArray, List.set_cons_zero, List.set_cons_succ] at hK ⊢
                rw [d0] at hK ⊢
                go_simp
                exact hK (.slice (some ⟨sb, so, none⟩) mn mc) _ HJ.out rfl (fun j y h => h) _ rfl
              · obtain rfl := Option.some.inj ho.symm
                clear hdep ho hJ
                try simp only [fill, slotOf, List.size_toArray, List.length_cons, List.length_nil, Nat.reduceAdd, List.getElem?_toArray, List.getElem?_cons_zero, List.getElem?_cons_succ, Option.bind_some, Act.put, List.setIfInBounds_toArray, List.set_cons_zero, List.set_cons_succ] at hK ⊢
                go_simp
                exact hK (.int .i64 (j : Int)) _ HJ.out rfl (fun j y h => h) _ rfl
              · obtain rfl := Option.some.inj ho.symm
                have d1 : V 1 = .slice (some ⟨sb, so, none⟩) mn mc := hdep ⟨1, .data⟩ (by simp) rfl
                have d2 : V 2 = .int .i64 (j : Int) := hdep ⟨2, .data⟩ (by simp) rfl
                have hb9 : j < mn := HJN.out
                have hb8 : (j : Int) < (mn : Int) := by omega
                clear hdep ho hJ
                try simp only [fill, slotOf, List.size_toArray, List.length_cons, List.length_nil, Nat.reduceAdd, List.getElem?_toArray, List.getElem?_cons_zero, List.getElem?_cons_succ, Option.bind_some, Act.put, List.setIfInBounds_toArray, List.set_cons_zero, List.set_cons_succ] at hK ⊢
                rw [d1, d2] at hK ⊢
                go_simp
                exact hK (.pointer (some ⟨sb, so + j * 2, none⟩)) _ HJ.out rfl (fun j y h => h) _ rfl
              · obtain rfl := Option.some.inj ho.symm
                have d3 : V 3 = .pointer (some ⟨sb, so + j * 2, none⟩) := hdep ⟨3, .data⟩ (by simp) rfl
                have e0 : w9.cell? ⟨sb, so + j * 2, none⟩ = some (.int .i64 x0) := (hJ.cell (p := ⟨sb, so + j * 2 + 0, none⟩) HSL.out).trans (HSX.out 0 _ rfl)
                have e1 : w9.cell? ⟨sb, so + j * 2 + 1, none⟩ = some (.int .i64 x1) := (hJ.cell (p := ⟨sb, so + j * 2 + 1, none⟩) HSL.out).trans (HSX.out 1 _ rfl)
                clear hdep ho hJ
                try simp only [fill, slotOf, List.size_toArray, List.length_cons, List.length_nil, Nat.reduceAdd, List.getElem?_toArray, List.getElem?_cons_zero, List.getElem?_cons_succ, Option.bind_some, Act.put, List.setIfInBounds_toArray, List.set_cons_zero, List.set_cons_succ] at hK ⊢
                rw [d3] at hK ⊢
                go_simp
                exact hK (.agg #[.int .i64 x0, .int .i64 x1]) _ HJ.out rfl (fun j y h => h) _ rfl
              · obtain rfl := Option.some.inj ho.symm
                clear hdep ho hJ
                try simp only [fill, slotOf, List.size_toArray, List.length_cons, List.length_nil, Nat.reduceAdd, List.getElem?_toArray, List.getElem?_cons_zero, List.getElem?_cons_succ, Option.bind_some, Act.put, List.setIfInBounds_toArray, List.set_cons_zero, List.set_cons_succ] at hK ⊢
                go_simp
                exact hK (.pointer (some ⟨w.heap.size + 1, 4, none⟩)) _ HJ.out rfl (fun j y h => h) _ rfl
              · obtain rfl := Option.some.inj ho.symm
                have d5 : V 5 = .pointer (some ⟨w.heap.size + 1, 4, none⟩) := hdep ⟨5, .data⟩ (by simp) rfl
                have q2 : w9.cell? ⟨w.heap.size + 1, 4, none⟩ = some (.slice (some ⟨tb, to9, none⟩) mn md) := (hJ.cell (p := ⟨w.heap.size + 1, 4, none⟩) HL2.out).trans (cell_blkS HK2.out rfl)
                clear hdep ho hJ
                try simp only [fill, slotOf, List.size_toArray, List.length_cons, List.length_nil, Nat.reduceAdd, List.getElem?_toArray, List.getElem?_cons_zero, List.getElem?_cons_succ, Option.bind_some, Act.put, List.setIfInBounds_toArray, List.set_cons_zero, List.set_cons_succ] at hK ⊢
                rw [d5] at hK ⊢
                go_simp
                exact hK (.slice (some ⟨tb, to9, none⟩) mn md) _ HJ.out rfl (fun j y h => h) _ rfl
              · obtain rfl := Option.some.inj ho.symm
                clear hdep ho hJ
                try simp only [fill, slotOf, List.size_toArray, List.length_cons, List.length_nil, Nat.reduceAdd, List.getElem?_toArray, List.getElem?_cons_zero, List.getElem?_cons_succ, Option.bind_some, Act.put, List.setIfInBounds_toArray, List.set_cons_zero, List.set_cons_succ] at hK ⊢
                go_simp
                exact hK (.int .i64 (j : Int)) _ HJ.out rfl (fun j y h => h) _ rfl
              · obtain rfl := Option.some.inj ho.symm
                have d6 : V 6 = .slice (some ⟨tb, to9, none⟩) mn md := hdep ⟨6, .data⟩ (by simp) rfl
                have d7 : V 7 = .int .i64 (j : Int) := hdep ⟨7, .data⟩ (by simp) rfl
                have hb9 : j < mn := HJN.out
                have hb8 : (j : Int) < (mn : Int) := by omega
                clear hdep ho hJ
                try simp only [fill, slotOf, List.size_toArray, List.length_cons, List.length_nil, Nat.reduceAdd, List.getElem?_toArray, List.getElem?_cons_zero, List.getElem?_cons_succ, Option.bind_some, Act.put, List.setIfInBounds_toArray, List.set_cons_zero, List.set_cons_succ] at hK ⊢
                rw [d6, d7] at hK ⊢
                go_simp
                exact hK (.pointer (some ⟨tb, to9 + j * 2, none⟩)) _ HJ.out rfl (fun j y h => h) _ rfl
              · obtain rfl := Option.some.inj ho.symm
                have d8 : V 8 = .pointer (some ⟨tb, to9 + j * 2, none⟩) := hdep ⟨8, .data⟩ (by simp) rfl
                have e0 : w9.cell? ⟨tb, to9 + j * 2, none⟩ = some (.int .i64 y0) := (hJ.cell (p := ⟨tb, to9 + j * 2 + 0, none⟩) HTL.out).trans (HSY.out 0 _ rfl)
                have e1 : w9.cell? ⟨tb, to9 + j * 2 + 1, none⟩ = some (.int .i64 y1) := (hJ.cell (p := ⟨tb, to9 + j * 2 + 1, none⟩) HTL.out).trans (HSY.out 1 _ rfl)
                clear hdep ho hJ
                try simp only [fill, slotOf, List.size_toArray, List.length_cons, List.length_nil, Nat.reduceAdd, List.getElem?_toArray, List.getElem?_cons_zero, List.getElem?_cons_succ, Option.bind_some, Act.put, List.setIfInBounds_toArray, List.set_cons_zero, List.set_cons_succ] at hK ⊢
                rw [d8] at hK ⊢
                go_simp
                exact hK (.agg #[.int .i64 y0, .int .i64 y1]) _ HJ.out rfl (fun j y h => h) _ rfl
              · obtain rfl := Option.some.inj ho.symm
                have d4 : V 4 = .agg #[.int .i64 x0, .int .i64 x1] := hdep ⟨4, .data⟩ (by simp) rfl
                have d9 : V 9 = .agg #[.int .i64 y0, .int .i64 y1] := hdep ⟨9, .data⟩ (by simp) rfl
                have hq9 : sqM (x0, x1) (y0, y1) = true := HQ.out
                clear hdep ho hJ
                try simp only [fill, slotOf, List.size_toArray, List.length_cons, List.length_nil, Nat.reduceAdd, List.getElem?_toArray, List.getElem?_cons_zero, List.getElem?_cons_succ, Option.bind_some, Act.put, List.setIfInBounds_toArray, List.set_cons_zero, List.set_cons_succ] at hK ⊢
                rw [d4, d9] at hK ⊢
                refine step_neq9 (b := false) (by rfl) (by rfl) (by rfl) (by rfl) (guard9_M _ _ _ _ _) (by rw [neq9_M, hq9]; rfl) ?_
                exact hK (.bool false) _ HJ.out rfl (fun j y h => h) _ rfl
            · intro V w9 hJ hall
              have dL : V 10 = .bool false := hall 10 (by decide)
              have HJ9 := Lib.hid hJ
              clear hall hJ
              simp only [fill, slotOf, List.size_toArray, List.length_cons, List.length_nil, Nat.reduceAdd, List.getElem?_toArray, List.getElem?_cons_zero, List.getElem?_cons_succ, Option.bind_some, Act.put, List.setIfInBounds_toArray, List.set_cons_zero, List.set_cons_succ]
              rw [dL]
              clear dL
              have HBZ := Lib.hid (HB.out.trans (HJ9.out.mono HB.out.size))
              go_wp2_with fail
              go_roundw
              case rel => exact ⟨j + 1, by omega, by go_num, HU2, HBZ⟩
              case measure => simp [intOf]; omega
        · obtain rfl : mn = j := by omega
          clear hjn
          have HZM := Lib.hid (show lm = lm2 from list_ext9 MarkS.z (by rw [Llm.out, Llm2.out]) (by rw [Llm.out]; exact HU.out))
          have HK1 := Lib.hid ((HB.out.block w.heap.size HW1.out).trans HG1.out)
          have f1 : wr.cell? ⟨w.heap.size, 5, none⟩ = some (.slice oa on oc) := cell_blkS HK1.out rfl
          clear HU HK1
          go_wp2_with fail
          clear f1
          go_loopw [7, 93] (fun _ sI wr => ∃ j : Nat, j ≤ on ∧ sI = .int .i64 (j : Int) ∧ Hid (∀ i, i < j → lo.getD i OwnS.z = lo2.getD i OwnS.z) ∧ Hid (Below wx.heap.size wx wr)) (fun _ sI _ => on - (intOf sI).toNat)
          case atStart => exact ⟨0, by omega, rfl, Lib.hid (fun i hi => absurd hi (Nat.not_lt_zero _)), HB⟩
          case round =>
            obtain ⟨j, hj, rfl, HU, HB⟩ := hrel
            rename World => wr
            by_cases hjn : j < on
            · have hji : (j : Int) < (on : Int) := by omega
              obtain ⟨sb, so, rfl, hsl, _, hsx⟩ := (HVO.out.kept (HBW.out.trans (HB.out.mono HBW.out.size))).get hjn
              obtain ⟨tb, to9, rfl, htl, _, hsy⟩ := (HVO2.out.kept (HBW.out.trans (HB.out.mono HBW.out.size))).get hjn
              obtain ⟨x, hx⟩ : ∃ x, x = lo.getD j OwnS.z := ⟨_, rfl⟩
              obtain ⟨y, hy⟩ : ∃ y, y = lo2.getD j OwnS.z := ⟨_, rfl⟩
              rw [← hx] at hsx
              rw [← hy] at hsy
              have HX := Lib.hid hx
              have HY := Lib.hid hy
              have HSX := Lib.hid hsx
              have HSY := Lib.hid hsy
              have HSL := Lib.hid hsl
              have HTL := Lib.hid htl
              have HJN := Lib.hid hjn
              have HK1 := Lib.hid ((HB.out.block w.heap.size HW1.out).trans HG1.out)
              have HK2 := Lib.hid ((HB.out.block (w.heap.size + 1) HW2.out).trans HG2.out)
              have HL1 := Lib.hid (Nat.lt_of_lt_of_le HW1.out HB.out.size)
              have HL2 := Lib.hid (Nat.lt_of_lt_of_le HW2.out HB.out.size)
              obtain ⟨x0, x1, x2⟩ := x
              obtain ⟨y0, y1, y2⟩ := y
              clear hx hy hsx hsy hsl htl
              go_wp2_with fail
              cases hq : sqO (x0, x1, x2) (y0, y1, y2) with
              | false =>
                have HQ := Lib.hid hq
                have HNO := Lib.hid (SameIs.no (fun e => by
                  have e9 : lo = lo2 := e.2.2.2.2.2
                  have h1 : (x0, x1, x2) = lo.getD j OwnS.z := HX.out
                  have h2 : (y0, y1, y2) = lo2.getD j OwnS.z := HY.out
                  rw [e9, ← h2] at h1
                  rw [(sqO_iff (x0, x1, x2) (y0, y1, y2)).2 h1] at hq
                  cases hq) : SameIs s s d d hz hz le le2 lm lm2 lo lo2 (.returned (.bool false)))
                clear hq
                refine wp_region_fill (by kernel_rfl) (by kernel_rfl) (by kernel_rfl) (Below wr.heap.size wr) (FV (fun j_9 => match j_9 with | 0 => some (.pointer (some ⟨w.heap.size, 5, none⟩)) | 1 => some (.slice (some ⟨sb, so, none⟩) on oc) | 2 => some (.int .i64 (j : Int)) | 3 => some (.pointer (some ⟨sb, so + j * 3, none⟩)) | 4 => some (.agg #[.int .i64 x0, .int .i64 x1, .int .i64 x2]) | 5 => some (.pointer (some ⟨w.heap.size + 1, 5, none⟩)) | 6 => some (.slice (some ⟨tb, to9, none⟩) on od) | 7 => some (.int .i64 (j : Int)) | 8 => some (.pointer (some ⟨tb, to9 + j * 3, none⟩)) | 9 => some (.agg #[.int .i64 y0, .int .i64 y1, .int .i64 y2]) | 10 => some (.bool true) | _ => none) (fun _ _ => True)) (Below.refl _ _).drew ?_ ?_
                · intro i9 o ho V w9 K hJ hdep hK
                  have HJ := Lib.hid hJ
                  simp only [fill, slotOf, List.size_toArray, List.length_cons, List.length_nil, Nat.reduceAdd, List.getElem?_toArray, List.getElem?_cons_zero, List.getElem?_cons_succ, Option.bind_some, Act.put, List.setIfInBounds_toArray, List.set_cons_zero, List.set_cons_succ] at hK ⊢
                  have hin : i9 < 11 := (Array.getElem?_eq_some_iff.1 ho).1
                  have hcs : i9 = 0 ∨ i9 = 1 ∨ i9 = 2 ∨ i9 = 3 ∨ i9 = 4 ∨ i9 = 5 ∨ i9 = 6 ∨ i9 = 7 ∨ i9 = 8 ∨ i9 = 9 ∨ i9 = 10 := by omega
                  clear hin
                  rcases hcs with rfl | rfl | rfl | rfl | rfl | rfl | rfl | rfl | rfl | rfl | rfl
                  · obtain rfl := Option.some.inj ho.symm
                    clear hdep ho hJ
                    try simp only [fill, slotOf, List.size_toArray, List.length_cons, List.length_nil, Nat.reduceAdd, List.getElem?_toArray, List.getElem?_cons_zero, List.getElem?_cons_succ, Option.bind_some, Act.put, List.setIfInBounds_toArray, List.set_cons_zero, List.set_cons_succ] at hK ⊢
                    go_simp
                    exact hK (.pointer (some ⟨w.heap.size, 5, none⟩)) _ HJ.out rfl (fun j y h => h) _ rfl
                  · obtain rfl := Option.some.inj ho.symm
                    have d0 : V 0 = .pointer (some ⟨w.heap.size, 5, none⟩) := hdep ⟨0, .data⟩ (by simp) rfl
                    have q1 : w9.cell? ⟨w.heap.size, 5, none⟩ = some (.slice (some ⟨sb, so, none⟩) on oc) := (hJ.cell (p := ⟨w.heap.size, 5, none⟩) HL1.out).trans (cell_blkS HK1.out rfl)
                    clear hdep ho hJ
                    try simp only [fill, slotOf, List.size_toArray, List.length_cons, List.length_nil, Nat.reduceAdd, List.getElem?_toArray, List.getElem?_cons_zero, List.getElem?_cons_succ, Option.bind_some, Act.put, List.setIfInBounds_toArray, List.set_cons_zero, List.set_cons_succ] at hK ⊢
                    rw [d0] at hK ⊢
                    go_simp
                    exact hK (.slice (some ⟨sb, so, none⟩) on oc) _ HJ.out rfl (fun j y h => h) _ rfl
                  · obtain rfl := Option.some.inj ho.symm
                    clear hdep ho hJ
                    try simp only [fill, slotOf, List.size_toArray, List.length_cons, List.length_nil, Nat.reduceAdd, List.getElem?_toArray, List.getElem?_cons_zero, List.getElem?_cons_succ, Option.bind_some, Act.put, List.setIfInBounds_toArray, List.set_cons_zero, List.set_cons_succ] at hK ⊢
                    go_simp
                    exact hK (.int .i64 (j : Int)) _ HJ.out rfl (fun j y h => h) _ rfl
                  · obtain rfl := Option.some.inj ho.symm
                    have d1 : V 1 = .slice (some ⟨sb, so, none⟩) on oc := hdep ⟨1, .data⟩ (by simp) rfl
                    have d2 : V 2 = .int .i64 (j : Int) := hdep ⟨2, .data⟩ (by simp) rfl
                    have hb9 : j < on := HJN.out
                    have hb8 : (j : Int) < (on : Int) := by omega
                    clear hdep ho hJ
                    try simp only [fill, slotOf, List.size_toArray, List.length_cons, List.length_nil, Nat.reduceAdd, List.getElem?_toArray, List.getElem?_cons_zero, List.getElem?_cons_succ, Option.bind_some, Act.put, List.setIfInBounds_toArray, List.set_cons_zero, List.set_cons_succ] at hK ⊢
                    rw [d1, d2] at hK ⊢
                    go_simp
                    exact hK (.pointer (some ⟨sb, so + j * 3, none⟩)) _ HJ.out rfl (fun j y h => h) _ rfl
                  · obtain rfl := Option.some.inj ho.symm
                    have d3 : V 3 = .pointer (some ⟨sb, so + j * 3, none⟩) := hdep ⟨3, .data⟩ (by simp) rfl
                    have e0 : w9.cell? ⟨sb, so + j * 3, none⟩ = some (.int .i64 x0) := (hJ.cell (p := ⟨sb, so + j * 3 + 0, none⟩) HSL.out).trans (HSX.out 0 _ rfl)
                    have e1 : w9.cell? ⟨sb, so + j * 3 + 1, none⟩ = some (.int .i64 x1) := (hJ.cell (p := ⟨sb, so + j * 3 + 1, none⟩) HSL.out).trans (HSX.out 1 _ rfl)
                    have e2 : w9.cell? ⟨sb, so + j * 3 + 2, none⟩ = some (.int .i64 x2) := (hJ.cell (p := ⟨sb, so + j * 3 + 2, none⟩) HSL.out).trans (HSX.out 2 _ rfl)
                    clear hdep ho hJ
                    try simp only [fill, slotOf, List.size_toArray, List.length_cons, List.length_nil, Nat.reduceAdd, List.getElem?_toArray, List.getElem?_cons_zero, List.getElem?_cons_succ, Option.bind_some, Act.put, List.setIfInBounds_toArray, List.set_cons_zero, List.set_cons_succ] at hK ⊢
                    rw [d3] at hK ⊢
                    go_simp
                    exact hK (.agg #[.int .i64 x0, .int .i64 x1, .int .i64 x2]) _ HJ.out rfl (fun j y h => h) _ rfl
                  · obtain rfl := Option.some.inj ho.symm
                    clear hdep ho hJ
                    try simp only [fill, slotOf, List.size_toArray, List.length_cons, List.length_nil, Nat.reduceAdd, List.getElem?_toArray, List.getElem?_cons_zero, List.getElem?_cons_succ, Option.bind_some, Act.put, List.setIfInBounds_toArray, List.set_cons_zero, List.set_cons_succ] at hK ⊢
                    go_simp
                    exact hK (.pointer (some ⟨w.heap.size + 1, 5, none⟩)) _ HJ.out rfl (fun j y h => h) _ rfl
                  · obtain rfl := Option.some.inj ho.symm
                    have d5 : V 5 = .pointer (some ⟨w.heap.size + 1, 5, none⟩) := hdep ⟨5, .data⟩ (by simp) rfl
                    have q2 : w9.cell? ⟨w.heap.size + 1, 5, none⟩ = some (.slice (some ⟨tb, to9, none⟩) on od) := (hJ.cell (p := ⟨w.heap.size + 1, 5, none⟩) HL2.out).trans (cell_blkS HK2.out rfl)
                    clear hdep ho hJ
                    try simp only [fill, slotOf, List.size_toArray, List.length_cons, List.length_nil, Nat.reduceAdd, List.getElem?_toArray, List.getElem?_cons_zero, List.getElem?_cons_succ, Option.bind_some, Act.put, List.setIfInBounds_toArray, List.set_cons_zero, List.set_cons_succ] at hK ⊢
                    rw [d5] at hK ⊢
                    go_simp
                    exact hK (.slice (some ⟨tb, to9, none⟩) on od) _ HJ.out rfl (fun j y h => h) _ rfl
                  · obtain rfl := Option.some.inj ho.symm
                    clear hdep ho hJ
                    try simp only [fill, slotOf, List.size_toArray, List.length_cons, List.length_nil, Nat.reduceAdd, List.getElem?_toArray, List.getElem?_cons_zero, List.getElem?_cons_succ, Option.bind_some, Act.put, List.setIfInBounds_toArray, List.set_cons_zero, List.set_cons_succ] at hK ⊢
                    go_simp
                    exact hK (.int .i64 (j : Int)) _ HJ.out rfl (fun j y h => h) _ rfl
                  · obtain rfl := Option.some.inj ho.symm
                    have d6 : V 6 = .slice (some ⟨tb, to9, none⟩) on od := hdep ⟨6, .data⟩ (by simp) rfl
                    have d7 : V 7 = .int .i64 (j : Int) := hdep ⟨7, .data⟩ (by simp) rfl
                    have hb9 : j < on := HJN.out
                    have hb8 : (j : Int) < (on : Int) := by omega
                    clear hdep ho hJ
                    try simp only [fill, slotOf, List.size_toArray, List.length_cons, List.length_nil, Nat.reduceAdd, List.getElem?_toArray, List.getElem?_cons_zero, List.getElem?_cons_succ, Option.bind_some, Act.put, List.setIfInBounds_toArray, List.set_cons_zero, List.set_cons_succ] at hK ⊢
                    rw [d6, d7] at hK ⊢
                    go_simp
                    exact hK (.pointer (some ⟨tb, to9 + j * 3, none⟩)) _ HJ.out rfl (fun j y h => h) _ rfl
                  · obtain rfl := Option.some.inj ho.symm
                    have d8 : V 8 = .pointer (some ⟨tb, to9 + j * 3, none⟩) := hdep ⟨8, .data⟩ (by simp) rfl
                    have e0 : w9.cell? ⟨tb, to9 + j * 3, none⟩ = some (.int .i64 y0) := (hJ.cell (p := ⟨tb, to9 + j * 3 + 0, none⟩) HTL.out).trans (HSY.out 0 _ rfl)
                    have e1 : w9.cell? ⟨tb, to9 + j * 3 + 1, none⟩ = some (.int .i64 y1) := (hJ.cell (p := ⟨tb, to9 + j * 3 + 1, none⟩) HTL.out).trans (HSY.out 1 _ rfl)
                    have e2 : w9.cell? ⟨tb, to9 + j * 3 + 2, none⟩ = some (.int .i64 y2) := (hJ.cell (p := ⟨tb, to9 + j * 3 + 2, none⟩) HTL.out).trans (HSY.out 2 _ rfl)
                    clear hdep ho hJ
                    try simp only [fill, slotOf, List.size_toArray, List.length_cons, List.length_nil, Nat.reduceAdd, List.getElem?_toArray, List.getElem?_cons_zero, List.getElem?_cons_succ, Option.bind_some, Act.put, List.setIfInBounds_toArray, List.set_cons_zero, List.set_cons_succ] at hK ⊢
                    rw [d8] at hK ⊢
                    go_simp
                    exact hK (.agg #[.int .i64 y0, .int .i64 y1, .int .i64 y2]) _ HJ.out rfl (fun j y h => h) _ rfl
                  · obtain rfl := Option.some.inj ho.symm
                    have d4 : V 4 = .agg #[.int .i64 x0, .int .i64 x1, .int .i64 x2] := hdep ⟨4, .data⟩ (by simp) rfl
                    have d9 : V 9 = .agg #[.int .i64 y0, .int .i64 y1, .int .i64 y2] := hdep ⟨9, .data⟩ (by simp) rfl
                    have hq9 : sqO (x0, x1, x2) (y0, y1, y2) = false := HQ.out
                    clear hdep ho hJ
                    try simp only [fill, slotOf, List.size_toArray, List.length_cons, List.length_nil, Nat.reduceAdd, List.getElem?_toArray, List.getElem?_cons_zero, List.getElem?_cons_succ, Option.bind_some, Act.put, List.setIfInBounds_toArray, List.set_cons_zero, List.set_cons_succ] at hK ⊢
                    rw [d4, d9] at hK ⊢
                    refine step_neq9 (b := true) (by rfl) (by rfl) (by rfl) (by rfl) (guard9_O _ _ _ _ _) (by rw [neq9_O, hq9]; rfl) ?_
                    exact hK (.bool true) _ HJ.out rfl (fun j y h => h) _ rfl
                · intro V w9 hJ hall
                  have dL : V 10 = .bool true := hall 10 (by decide)
                  have HJ9 := Lib.hid hJ
                  clear hall hJ
                  simp only [fill, slotOf, List.size_toArray, List.length_cons, List.length_nil, Nat.reduceAdd, List.getElem?_toArray, List.getElem?_cons_zero, List.getElem?_cons_succ, Option.bind_some, Act.put, List.setIfInBounds_toArray, List.set_cons_zero, List.set_cons_succ]
                  rw [dL]
                  clear dL
                  have HBZ := Lib.hid (HBW.out.trans ((HB.out.trans (HJ9.out.mono HB.out.size)).mono HBW.out.size))
                  go_wp2_with fail
                  go_ret
                  exact ⟨HNO.out, HBZ.out⟩
              | true =>
                have HQ := Lib.hid hq
                have HU2 := Lib.hid (show ∀ i, i < j + 1 → lo.getD i OwnS.z = lo2.getD i OwnS.z from fun i hi => by
                  rcases Nat.lt_or_ge i j with g | g
                  · exact HU.out i g
                  · obtain rfl : i = j := by omega
                    rw [← HX.out, ← HY.out]
                    exact (sqO_iff (x0, x1, x2) (y0, y1, y2)).1 hq)
                clear hq
                refine wp_region_fill (by kernel_rfl) (by kernel_rfl) (by kernel_rfl) (Below wr.heap.size wr) (FV (fun j_9 => match j_9 with | 0 => some (.pointer (some ⟨w.heap.size, 5, none⟩)) | 1 => some (.slice (some ⟨sb, so, none⟩) on oc) | 2 => some (.int .i64 (j : Int)) | 3 => some (.pointer (some ⟨sb, so + j * 3, none⟩)) | 4 => some (.agg #[.int .i64 x0, .int .i64 x1, .int .i64 x2]) | 5 => some (.pointer (some ⟨w.heap.size + 1, 5, none⟩)) | 6 => some (.slice (some ⟨tb, to9, none⟩) on od) | 7 => some (.int .i64 (j : Int)) | 8 => some (.pointer (some ⟨tb, to9 + j * 3, none⟩)) | 9 => some (.agg #[.int .i64 y0, .int .i64 y1, .int .i64 y2]) | 10 => some (.bool false) | _ => none) (fun _ _ => True)) (Below.refl _ _).drew ?_ ?_
                · intro i9 o ho V w9 K hJ hdep hK
                  have HJ := Lib.hid hJ
                  simp only [fill, slotOf, List.size_toArray, List.length_cons, List.length_nil, Nat.reduceAdd, List.getElem?_toArray, List.getElem?_cons_zero, List.getElem?_cons_succ, Option.bind_some, Act.put, List.setIfInBounds_toArray, List.set_cons_zero, List.set_cons_succ] at hK ⊢
                  have hin : i9 < 11 := (Array.getElem?_eq_some_iff.1 ho).1
                  have hcs : i9 = 0 ∨ i9 = 1 ∨ i9 = 2 ∨ i9 = 3 ∨ i9 = 4 ∨ i9 = 5 ∨ i9 = 6 ∨ i9 = 7 ∨ i9 = 8 ∨ i9 = 9 ∨ i9 = 10 := by omega
                  clear hin
                  rcases hcs with rfl | rfl | rfl | rfl | rfl | rfl | rfl | rfl | rfl | rfl | rfl
                  · obtain rfl := Option.some.inj ho.symm
                    clear hdep ho hJ
                    try simp only [fill, slotOf, List.size_toArray, List.length_cons, List.length_nil, Nat.reduceAdd, List.getElem?_toArray, List.getElem?_cons_zero, List.getElem?_cons_succ, Option.bind_some, Act.put, List.setIfInBounds_toArray, List.set_cons_zero, List.set_cons_succ] at hK ⊢
                    go_simp
                    exact hK (.pointer (some ⟨w.heap.size, 5, none⟩)) _ HJ.out rfl (fun j y h => h) _ rfl
                  · obtain rfl := Option.some.inj ho.symm
                    have d0 : V 0 = .pointer (some ⟨w.heap.size, 5, none⟩) := hdep ⟨0, .data⟩ (by simp) rfl
                    have q1 : w9.cell? ⟨w.heap.size, 5, none⟩ = some (.slice (some ⟨sb, so, none⟩) on oc) := (hJ.cell (p := ⟨w.heap.size, 5, none⟩) HL1.out).trans (cell_blkS HK1.out rfl)
                    clear hdep ho hJ
                    try simp only [fill, slotOf, List.size_toArray, List.length_cons, List.length_nil, Nat.reduceAdd, List.getElem?_toArray, List.getElem?_cons_zero, List.getElem?_cons_succ, Option.bind_some, Act.put, List.setIfInBounds_toArray, List.set_cons_zero, List.set_cons_succ] at hK ⊢
                    rw [d0] at hK ⊢
                    go_simp
                    exact hK (.slice (some ⟨sb, so, none⟩) on oc) _ HJ.out rfl (fun j y h => h) _ rfl
                  · obtain rfl := Option.some.inj ho.symm
                    clear hdep ho hJ
                    try simp only [fill, slotOf, List.size_toArray, List.length_cons, List.length_nil, Nat.reduceAdd, List.getElem?_toArray, List.getElem?_cons_zero, List.getElem?_cons_succ, Option.bind_some, Act.put, List.setIfInBounds_toArray, List.set_cons_zero, List.set_cons_succ] at hK ⊢
                    go_simp
                    exact hK (.int .i64 (j : Int)) _ HJ.out rfl (fun j y h => h) _ rfl
                  · obtain rfl := Option.some.inj ho.symm
                    have d1 : V 1 = .slice (some ⟨sb, so, none⟩) on oc := hdep ⟨1, .data⟩ (by simp) rfl
                    have d2 : V 2 = .int .i64 (j : Int) := hdep ⟨2, .data⟩ (by simp) rfl
                    have hb9 : j < on := HJN.out
                    have hb8 : (j : Int) < (on : Int) := by omega
                    clear hdep ho hJ
                    try simp only [fill, slotOf, List.size_toArray, List.length_cons, List.length_nil, Nat.reduceAdd, List.getElem?_toArray, List.getElem?_cons_zero, List.getElem?_cons_succ, Option.bind_some, Act.put, List.setIfInBounds_toArray, List.set_cons_zero, List.set_cons_succ] at hK ⊢
                    rw [d1, d2] at hK ⊢
                    go_simp
                    exact hK (.pointer (some ⟨sb, so + j * 3, none⟩)) _ HJ.out rfl (fun j y h => h) _ rfl
                  · obtain rfl := Option.some.inj ho.symm
                    have d3 : V 3 = .pointer (some ⟨sb, so + j * 3, none⟩) := hdep ⟨3, .data⟩ (by simp) rfl
                    have e0 : w9.cell? ⟨sb, so + j * 3, none⟩ = some (.int .i64 x0) := (hJ.cell (p := ⟨sb, so + j * 3 + 0, none⟩) HSL.out).trans (HSX.out 0 _ rfl)
                    have e1 : w9.cell? ⟨sb, so + j * 3 + 1, none⟩ = some (.int .i64 x1) := (hJ.cell (p := ⟨sb, so + j * 3 + 1, none⟩) HSL.out).trans (HSX.out 1 _ rfl)
                    have e2 : w9.cell? ⟨sb, so + j * 3 + 2, none⟩ = some (.int .i64 x2) := (hJ.cell (p := ⟨sb, so + j * 3 + 2, none⟩) HSL.out).trans (HSX.out 2 _ rfl)
                    clear hdep ho hJ
                    try simp only [fill, slotOf, List.size_toArray, List.length_cons, List.length_nil, Nat.reduceAdd, List.getElem?_toArray, List.getElem?_cons_zero, List.getElem?_cons_succ, Option.bind_some, Act.put, List.setIfInBounds_toArray, List.set_cons_zero, List.set_cons_succ] at hK ⊢
                    rw [d3] at hK ⊢
                    go_simp
                    exact hK (.agg #[.int .i64 x0, .int .i64 x1, .int .i64 x2]) _ HJ.out rfl (fun j y h => h) _ rfl
                  · obtain rfl := Option.some.inj ho.symm
                    clear hdep ho hJ
                    try simp only [fill, slotOf, List.size_toArray, List.length_cons, List.length_nil, Nat.reduceAdd, List.getElem?_toArray, List.getElem?_cons_zero, List.getElem?_cons_succ, Option.bind_some, Act.put, List.setIfInBounds_toArray, List.set_cons_zero, List.set_cons_succ] at hK ⊢
                    go_simp
                    exact hK (.pointer (some ⟨w.heap.size + 1, 5, none⟩)) _ HJ.out rfl (fun j y h => h) _ rfl
                  · obtain rfl := Option.some.inj ho.symm
                    have d5 : V 5 = .pointer (some ⟨w.heap.size + 1, 5, none⟩) := hdep ⟨5, .data⟩ (by simp) rfl
                    have q2 : w9.cell? ⟨w.heap.size + 1, 5, none⟩ = some (.slice (some ⟨tb, to9, none⟩) on od) := (hJ.cell (p := ⟨w.heap.size + 1, 5, none⟩) HL2.out).trans (cell_blkS HK2.out rfl)
                    clear hdep ho hJ
                    try simp only [fill, slotOf, List.size_toArray, List.length_cons, List.length_nil, Nat.reduceAdd, List.getElem?_toArray, List.getElem?_cons_zero, List.getElem?_cons_succ, Option.bind_some, Act.put, List.setIfInBounds_toArray, List.set_cons_zero, List.set_cons_succ] at hK ⊢
                    rw [d5] at hK ⊢
                    go_simp
                    exact hK (.slice (some ⟨tb, to9, none⟩) on od) _ HJ.out rfl (fun j y h => h) _ rfl
                  · obtain rfl := Option.some.inj ho.symm
                    clear hdep ho hJ
                    try simp only [fill, slotOf, List.size_toArray, List.length_cons, List.length_nil, Nat.reduceAdd, List.getElem?_toArray, List.getElem?_cons_zero, List.getElem?_cons_succ, Option.bind_some, Act.put, List.setIfInBounds_toArray, List.set_cons_zero, List.set_cons_succ] at hK ⊢
                    go_simp
                    exact hK (.int .i64 (j : Int)) _ HJ.out rfl (fun j y h => h) _ rfl
                  · obtain rfl := Option.some.inj ho.symm
                    have d6 : V 6 = .slice (some ⟨tb, to9, none⟩) on od := hdep ⟨6, .data⟩ (by simp) rfl
                    have d7 : V 7 = .int .i64 (j : Int) := hdep ⟨7, .data⟩ (by simp) rfl
                    have hb9 : j < on := HJN.out
                    have hb8 : (j : Int) < (on : Int) := by omega
                    clear hdep ho hJ
                    try simp only [fill, slotOf, List.size_toArray, List.length_cons, List.length_nil, Nat.reduceAdd, List.getElem?_toArray, List.getElem?_cons_zero, List.getElem?_cons_succ, Option.bind_some, Act.put, List.setIfInBounds_toArray, List.set_cons_zero, List.set_cons_succ] at hK ⊢
                    rw [d6, d7] at hK ⊢
                    go_simp
                    exact hK (.pointer (some ⟨tb, to9 + j * 3, none⟩)) _ HJ.out rfl (fun j y h => h) _ rfl
                  · obtain rfl := Option.some.inj ho.symm
                    have d8 : V 8 = .pointer (some ⟨tb, to9 + j * 3, none⟩) := hdep ⟨8, .data⟩ (by simp) rfl
                    have e0 : w9.cell? ⟨tb, to9 + j * 3, none⟩ = some (.int .i64 y0) := (hJ.cell (p := ⟨tb, to9 + j * 3 + 0, none⟩) HTL.out).trans (HSY.out 0 _ rfl)
                    have e1 : w9.cell? ⟨tb, to9 + j * 3 + 1, none⟩ = some (.int .i64 y1) := (hJ.cell (p := ⟨tb, to9 + j * 3 + 1, none⟩) HTL.out).trans (HSY.out 1 _ rfl)
                    have e2 : w9.cell? ⟨tb, to9 + j * 3 + 2, none⟩ = some (.int .i64 y2) := (hJ.cell (p := ⟨tb, to9 + j * 3 + 2, none⟩) HTL.out).trans (HSY.out 2 _ rfl)
                    clear hdep ho hJ
                    try simp only [fill, slotOf, List.size_toArray, List.length_cons, List.length_nil, Nat.reduceAdd, List.getElem?_toArray, List.getElem?_cons_zero, List.getElem?_cons_succ, Option.bind_some, Act.put, List.setIfInBounds_toArray, List.set_cons_zero, List.set_cons_succ] at hK ⊢
                    rw [d8] at hK ⊢
                    go_simp
                    exact hK (.agg #[.int .i64 y0, .int .i64 y1, .int .i64 y2]) _ HJ.out rfl (fun j y h => h) _ rfl
                  · obtain rfl := Option.some.inj ho.symm
                    have d4 : V 4 = .agg #[.int .i64 x0, .int .i64 x1, .int .i64 x2] := hdep ⟨4, .data⟩ (by simp) rfl
                    have d9 : V 9 = .agg #[.int .i64 y0, .int .i64 y1, .int .i64 y2] := hdep ⟨9, .data⟩ (by simp) rfl
                    have hq9 : sqO (x0, x1, x2) (y0, y1, y2) = true := HQ.out
                    clear hdep ho hJ
                    try simp only [fill, slotOf, List.size_toArray, List.length_cons, List.length_nil, Nat.reduceAdd, List.getElem?_toArray, List.getElem?_cons_zero, List.getElem?_cons_succ, Option.bind_some, Act.put, List.setIfInBounds_toArray, List.set_cons_zero, List.set_cons_succ] at hK ⊢
                    rw [d4, d9] at hK ⊢
                    refine step_neq9 (b := false) (by rfl) (by rfl) (by rfl) (by rfl) (guard9_O _ _ _ _ _) (by rw [neq9_O, hq9]; rfl) ?_
                    exact hK (.bool false) _ HJ.out rfl (fun j y h => h) _ rfl
                · intro V w9 hJ hall
                  have dL : V 10 = .bool false := hall 10 (by decide)
                  have HJ9 := Lib.hid hJ
                  clear hall hJ
                  simp only [fill, slotOf, List.size_toArray, List.length_cons, List.length_nil, Nat.reduceAdd, List.getElem?_toArray, List.getElem?_cons_zero, List.getElem?_cons_succ, Option.bind_some, Act.put, List.setIfInBounds_toArray, List.set_cons_zero, List.set_cons_succ]
                  rw [dL]
                  clear dL
                  have HBZ := Lib.hid (HB.out.trans (HJ9.out.mono HB.out.size))
                  go_wp2_with fail
                  go_roundw
                  case rel => exact ⟨j + 1, by omega, by go_num, HU2, HBZ⟩
                  case measure => simp [intOf]; omega
            · obtain rfl : on = j := by omega
              clear hjn
              have HZO := Lib.hid (show lo = lo2 from list_ext9 OwnS.z (by rw [Llo.out, Llo2.out]) (by rw [Llo.out]; exact HU.out))
              have HK1 := Lib.hid ((HB.out.block w.heap.size HW1.out).trans HG1.out)
              have HY9 := Lib.hid (SameIs.yes ⟨rfl, rfl, rfl, HZE.out, HZM.out, HZO.out⟩ : SameIs s s d d hz hz le le2 lm lm2 lo lo2 (.returned (.bool true)))
              have HBZ := Lib.hid (HBW.out.trans (HB.out.mono HBW.out.size))
              clear HU HK1
              go_wp2_with fail
              go_ret
              exact ⟨HY9.out, HBZ.out⟩
end Go.Proofs.YtadfmenlpnibnaaGreat
end PkMS13_0
