/- Texts put together by packtpl2.py: MfE3, MfSm, MfC, MfD. -/
import Derived.Test.YtbdgcfimbblncaaGreatDoorPkMC1
import Derived.Test.YtbdgcfimbblncaaGreatDoorPkMC2
import Derived.Test.YtbdgcfimbblncaaGreatDoorPkMC3
import Derived.Laws.StructEq
import Derived.RangeFuncBox
import Derived.RangeFuncLeaves
import Derived.RangeFuncFrom
import Derived.Shelf.Abstract
import Derived.OwnWalkIn
import Derived.TacticsInMore
import Derived.LoopNIn
import Derived.LoopIn
import Derived.Maps.AppendAt
import Derived.Maps.RangeWalk
import Derived.Sort.MapsRangeIn
import Derived.StringKeys
section PkMC4_0
/- Manifests: the document's Encode of a right manifest, walked. Written by genmfe3.py. -/
namespace Go.Proofs.YtbdgcfimbblncaaGreatDoor
open Go.RowKit NumsPlain LabPlain CrcPlain
set_option linter.unusedVariables false

/-- entries, one by one -/
def secC9 (le : List EntV) (j : Nat) : List Nat := sqC entC EntS.z le j
theorem secC9_s (le : List EntV) (j : Nat) {x : EntV} (h : x = le.getD j EntS.z) : secC9 le j ++ entC x = secC9 le (j + 1) := by unfold secC9; rw [sqC, h]
theorem secC9_len {le : List EntV} (h : ∀ x ∈ le, EntNat x) {j : Nat} (hj : j ≤ le.length) (hj2 : j ≤ 300) : (secC9 le j).length ≤ 450000 := by
  have h1 := sqC_len (f := entC) (d := EntS.z) (m := 1500) (fun y hy => entC_len (h y hy)) j hj
  have h3 : j * 1500 ≤ 300 * 1500 := Nat.mul_le_mul_right _ hj2
  unfold secC9; omega
theorem entN_is (Y : List Nat) (x0 : ByteArray) (n1 : Nat) (x2 : ByteArray) (n3 n4 n5 n6 n7 n8 : Nat) : ((((Y ++ nI [x0.size]) ++ byl x0) ++ nI [n1, x2.size]) ++ byl x2) ++ nI [n3, n4, n5, n6, n7, n8] = Y ++ entN x0 n1 x2 n3 n4 n5 n6 n7 n8 := by
  unfold entN txC
  rw [nI_one, show nI [n1, x2.size] = nI [n1] ++ pu x2.size from by rw [nI_cons, nI_one, nI_one]]
  simp only [List.append_assoc]
set_option maxRecDepth 100000 in
set_option maxHeartbeats 16000000 in
theorem rencode_nat {w : World} {ns nd nh : Nat} {ea ma oa : Option Addr} {en ec mn mc on oc : Nat} {le : List EntV} {lm : List (Int × Int)} {lo : List (Int × Int × Int)} (hE : VecAt EntS w ea en ec le) (hM : VecAt MarkS w ma mn mc lm) (hO : VecAt OwnS w oa on oc lo)
    (hns : ns ≤ 1099511627775) (hnd : nd ≤ 1099511627775) (hnh : nh ≤ 1099511627775) (hNE : ∀ x ∈ le, EntNat x) (hNM : ∀ x ∈ lm, MarkNat x) (hNO : ∀ x ∈ lo, OwnNat x) (hen : en ≤ 300) (hmn : mn ≤ 100) (hon : on ≤ 20) :
    Calls Tryz.prog 14 #[.agg #[.int .i64 (ns : Int), .int .i64 (nd : Int), .int .i64 (nh : Int), .slice ea en ec, .slice ma mn mc, .slice oa on oc]] w fun e w' => ∃ a c, e = .returned (.slice a ((manC ns nd nh le lm lo).length + 4) c) ∧ BytesAt w' a ((manC ns nd nh le lm lo).length + 4) c (sealed (manC ns nd nh le lm lo)) ∧ Below w.heap.size w w' := by
  have hI : InR (ns : Int) ∧ InR (nd : Int) ∧ InR (nh : Int) := by unfold InR; omega
  have HLEN := Lib.hid (manC_len hI hNE hNM hNO (by rw [hE.len]; exact hen) (by rw [hM.len]; exact hmn) (by rw [hO.len]; exact hon))
  have HBY := Lib.hid (manC_byte hI hNE hNM hNO (by rw [hE.len]; exact hen) (by rw [hM.len]; exact hmn) (by rw [hO.len]; exact hon))
  have HMC := Lib.hid (show manC ns nd nh le lm lo = ((([77, 65, 78, 73, 1] ++ nI [ns, nd, nh, en]) ++ secC9 le en) ++ secC markC MarkS.z lm mn mn) ++ secC ownC OwnS.z lo on on from by
    unfold manC
    rw [hE.len, hM.len, hO.len, show nI [ns, nd, nh, en] = nI [ns, nd, nh] ++ nI [en] from nI_app [ns, nd, nh] [en]]
    unfold secC secC9
    simp only [List.append_assoc]
    rfl)
  obtain ⟨CC, hCC⟩ : ∃ C, C = manC ns nd nh le lm lo := ⟨_, rfl⟩
  rw [← hCC] at HLEN HBY HMC ⊢
  obtain ⟨wb, hwb⟩ : ∃ wb, wb = w.alloc (.cells #[.int .i64 (ns : Int), .int .i64 (nd : Int), .int .i64 (nh : Int), .slice ea en ec, .slice ma mn mc, .slice oa on oc] 26) := ⟨_, rfl⟩
  have ba : Below w.heap.size w wb := by rw [hwb]; exact (Below.refl _ _).alloc (Nat.le_refl _) _
  have ga : wb.heap[w.heap.size]? = some (.cells #[.int .i64 (ns : Int), .int .i64 (nd : Int), .int .i64 (nh : Int), .slice ea en ec, .slice ma mn mc, .slice oa on oc] 26 (0, 0)) := by rw [hwb]; exact heap_alloc_new _ _
  obtain ⟨base, hbase⟩ : ∃ base, base = wb.heap.size := ⟨_, rfl⟩
  have l4 := nI_bnd (l := [ns, nd, nh, en]) (m := 40) (fun z hz => by simp at hz; omega) (by simp)
  have es : (wb.alloc (.cells #[.int .u8 77, .int .u8 65, .int .u8 78, .int .u8 73, .int .u8 1] 5 (5, 6))).heap.size = wb.heap.size + 1 := Array.size_push _
  have hN := rnums_lit (w := wb.alloc (.cells #[.int .u8 77, .int .u8 65, .int .u8 78, .int .u8 73, .int .u8 1] 5 (5, 6))) (base := base) (.inr ⟨_, rfl, BytesAt.litF wb #[.int .u8 77, .int .u8 65, .int .u8 78, .int .u8 73, .int .u8 1] [77, 65, 78, 73, 1] (5, 6) rfl (by decide) (by decide)⟩) (by rw [es]; omega) (by decide) [ns, nd, nh, en] #[.int .i64 (ns : Int), .int .i64 (nd : Int), .int .i64 (nh : Int), .int .i64 (en : Int)] 4 rfl rfl (fun z hz => by simp at hz; omega) (by decide) (by decide)
  rw [es] at hN
  have HN := Lib.hid hN
  have HGD := Lib.hid (Gb.alloc (base := base) wb (.cells #[.int .u8 77, .int .u8 65, .int .u8 78, .int .u8 73, .int .u8 1] 5 (5, 6)) (by omega))
  have HE2 := Lib.hid (show ∀ W, Below base wb W → VecAt EntS W ea en ec le from fun W hb => hE.kept (ba.trans (hb.mono (by rw [hbase]; exact ba.size))))
  have HM2 := Lib.hid (show ∀ W, Below base wb W → VecAt MarkS W ma mn mc lm from fun W hb => hM.kept (ba.trans (hb.mono (by rw [hbase]; exact ba.size))))
  have HO2 := Lib.hid (show ∀ W, Below base wb W → VecAt OwnS W oa on oc lo from fun W hb => hO.kept (ba.trans (hb.mono (by rw [hbase]; exact ba.size))))
  have HE2L := Lib.hid hE.len
  have HM2L := Lib.hid hM.len
  have HO2L := Lib.hid hO.len
  have hce := hE.cap
  have hcem := hE.capm
  have hcm := hM.cap
  have hcmm := hM.capm
  have hco := hO.cap
  have hcom := hO.capm
  have hcv : (convert 30 30 (.slice (some ⟨wb.heap.size, 0, none⟩) 5 5)).run Tryz.prog (wb.alloc (.cells #[.int .u8 77, .int .u8 65, .int .u8 78, .int .u8 73, .int .u8 1] 5)) = .ok (.slice (some ⟨wb.heap.size, 0, none⟩) 5 5) (wb.alloc (.cells #[.int .u8 77, .int .u8 65, .int .u8 78, .int .u8 73, .int .u8 1] 5 (5, 6))) := Lib.run_convert_bytes_const wb _ _ _ 5 5 Tryz.underlying30 Tryz.underlying5
  have HNE := Lib.hid hNE
  have HNM := Lib.hid hNM
  have HNO := Lib.hid hNO
  have HBB := Lib.hid (show Below w.heap.size w wb ∧ w.heap.size ≤ base from ⟨ba, by rw [hbase]; exact ba.size⟩)
  have HBS := Lib.hid (show base ≤ wb.heap.size by omega)
  have HLW := Lib.hid (show w.heap.size < base from by rw [hbase]; exact (Array.getElem?_eq_some_iff.1 ga).1)
  have HGA0 := Lib.hid ga
  have HWB := Lib.hid hwb
  have HBQ := Lib.hid hbase
  have a0 : wb.cell? ⟨w.heap.size, 0, none⟩ = some (.int .i64 (ns : Int)) := cell_blk9 ga rfl
  have a1 : wb.cell? ⟨w.heap.size, 1, none⟩ = some (.int .i64 (nd : Int)) := cell_blk9 ga rfl
  have a2 : wb.cell? ⟨w.heap.size, 2, none⟩ = some (.int .i64 (nh : Int)) := cell_blk9 ga rfl
  have a3 : wb.cell? ⟨w.heap.size, 3, none⟩ = some (.slice ea en ec) := cell_blk9 ga rfl
  have hlw : w.heap.size < wb.heap.size := (Array.getElem?_eq_some_iff.1 ga).1
  clear hE hM hO hNE hNM hNO hI hCC hwb ba ga hN es hbase
  go_enter Tryz.func14, Tryz.ntmps14
  go_wp2_with (rw [← HWB.out])
  refine HN.out.mono ?_
  rintro e w2 ⟨v2, rfl, ho2, hg2⟩
  obtain ⟨a9, c9, rfl⟩ := own_slice ho2
  obtain ⟨X0, hX0⟩ : ∃ X, X = [77, 65, 78, 73, 1] ++ nI [ns, nd, nh, en] := ⟨_, rfl⟩
  have hm0 : [77, 65, 78, 73, 1].length + (nI [ns, nd, nh, en]).length = X0.length := by rw [hX0, List.length_append]
  have hl0 : X0.length ≤ 50 := by rw [← hm0]; simp only [List.length_cons, List.length_nil]; omega
  rw [← hX0] at ho2 HMC
  have HGS := Lib.hid (HGD.out.trans hg2)
  have HMS := Lib.hid (show [77, 65, 78, 73, 1].length + (nI [ns, nd, nh, en]).length = (X0 ++ secC9 le 0).length from by rw [hm0]; unfold secC9 sqC; rw [List.append_nil])
  have HOS := Lib.hid (show w2.ownsRow base 5 1 (.slice a9 ([77, 65, 78, 73, 1].length + (nI [ns, nd, nh, en]).length) c9) ([77, 65, 78, 73, 1].length + (nI [ns, nd, nh, en]).length) (bv (X0 ++ secC9 le 0)) from by rw [show X0 ++ secC9 le 0 = X0 from by unfold secC9 sqC; rw [List.append_nil]]; exact ho2)
  have HKC := Lib.hid ((HGS.out.below.block w.heap.size HLW.out).trans HGA0.out)
  have f1 : w2.cell? ⟨w.heap.size, 3, none⟩ = some (.slice ea en ec) := cell_blk9 HKC.out rfl
  clear hX0 ho2 hg2 hcv a0 a1 a2 a3
  go_wp2_with fail
  go_loopw [3, 5, 26] (fun s0 _ sI wr => ∃ (j m c9 : Nat) (a9 : Option Addr), j ≤ en ∧ sI = .int .i64 (j : Int) ∧ s0 = .slice a9 m c9 ∧ Hid (m = (X0 ++ secC9 le j).length) ∧ Hid (wr.ownsRow base 5 1 (.slice a9 m c9) m (bv (X0 ++ secC9 le j))) ∧ Hid (Gb base wb wr)) (fun _ _ sI _ => en - (intOf sI).toNat)
  case atStart => exact ⟨0, _, _, _, by omega, rfl, rfl, HMS, HOS, HGS⟩
  case round =>
    clear HMS HOS HGS
    obtain ⟨j, m, c9, a9, hj, rfl, rfl, HM, HO, HGB⟩ := hrel
    rename World => wr
    have hm : m ≤ 500000 := by
      have h1 := HM.out
      have h2 := secC9_len HNE.out (j := j) (by rw [HE2L.out]; omega) (by omega)
      rw [List.length_append] at h1
      omega
    by_cases hjn : j < en
    · have hji : (j : Int) < (en : Int) := by omega
      obtain ⟨sb, so, rfl, hsl, hok, hsc9⟩ := (HE2.out wr HGB.out.below).get hjn
      obtain ⟨x, hx⟩ : ∃ x, x = le.getD j EntS.z := ⟨_, rfl⟩
      rw [← hx] at hsc9
      have hxN : EntNat x := HNE.out x (by rw [hx]; exact vec_mem (S := EntS) (by rw [HE2L.out]; exact hjn))
      have HX := Lib.hid hx
      have HSZ := Lib.hid (Nat.le_trans HBS.out HGB.out.size)
      obtain ⟨x0, x1, x2, x3, x4, x5, x6, x7, x8⟩ := x
      obtain ⟨h0, h2, h1, h3, h4, h5, h6, h7, h8⟩ := hxN
      have h0 : x0.size ≤ 100 := h0
      have h2 : x2.size ≤ 1300 := h2
      obtain ⟨n1, e1, b1⟩ := h1.nat
      have e1' : x1 = (n1 : Int) := e1
      subst e1'
      obtain ⟨n3, e3, b3⟩ := h3.nat
      have e3' : x3 = (n3 : Int) := e3
      subst e3'
      obtain ⟨n4, e4, b4⟩ := h4.nat
      have e4' : x4 = (n4 : Int) := e4
      subst e4'
      obtain ⟨n5, e5, b5⟩ := h5.nat
      have e5' : x5 = (n5 : Int) := e5
      subst e5'
      obtain ⟨n6, e6, b6⟩ := h6.nat
      have e6' : x6 = (n6 : Int) := e6
      subst e6'
      obtain ⟨n7, e7, b7⟩ := h7.nat
      have e7' : x7 = (n7 : Int) := e7
      subst e7'
      obtain ⟨n8, e8, b8⟩ := h8.nat
      have e8' : x8 = (n8 : Int) := e8
      subst e8'
      have d0 : wr.cell? ⟨sb, so + j * 9, none⟩ = some (.string x0) := hsc9 0 _ rfl
      have d1 : wr.cell? ⟨sb, so + j * 9 + 1, none⟩ = some (.int .i64 (n1 : Int)) := hsc9 1 _ rfl
      have d2 : wr.cell? ⟨sb, so + j * 9 + 2, none⟩ = some (.string x2) := hsc9 2 _ rfl
      have d3 : wr.cell? ⟨sb, so + j * 9 + 3, none⟩ = some (.int .i64 (n3 : Int)) := hsc9 3 _ rfl
      have d4 : wr.cell? ⟨sb, so + j * 9 + 4, none⟩ = some (.int .i64 (n4 : Int)) := hsc9 4 _ rfl
      have d5 : wr.cell? ⟨sb, so + j * 9 + 5, none⟩ = some (.int .i64 (n5 : Int)) := hsc9 5 _ rfl
      have d6 : wr.cell? ⟨sb, so + j * 9 + 6, none⟩ = some (.int .i64 (n6 : Int)) := hsc9 6 _ rfl
      have d7 : wr.cell? ⟨sb, so + j * 9 + 7, none⟩ = some (.int .u32 (n7 : Int)) := hsc9 7 _ rfl
      have d8 : wr.cell? ⟨sb, so + j * 9 + 8, none⟩ = some (.int .i64 (n8 : Int)) := hsc9 8 _ rfl
      have HXA := Lib.hid (heap_alloc_new wr (.cells #[.string x0, .int .i64 (n1 : Int), .string x2, .int .i64 (n3 : Int), .int .i64 (n4 : Int), .int .i64 (n5 : Int), .int .i64 (n6 : Int), .int .u32 (n7 : Int), .int .i64 (n8 : Int)] 53))
      have HGA := Lib.hid (Gb.alloc wr (.cells #[.string x0, .int .i64 (n1 : Int), .string x2, .int .i64 (n3 : Int), .int .i64 (n4 : Int), .int .i64 (n5 : Int), .int .i64 (n6 : Int), .int .u32 (n7 : Int), .int .i64 (n8 : Int)] 53) HSZ.out)
      have HSA := Lib.hid (Nat.le_trans HSZ.out HGA.out.size)
      obtain ⟨Y, hY⟩ : ∃ Y, Y = X0 ++ secC9 le j := ⟨_, rfl⟩
      have HOA := Lib.hid (show (wr.alloc (.cells #[.string x0, .int .i64 (n1 : Int), .string x2, .int .i64 (n3 : Int), .int .i64 (n4 : Int), .int .i64 (n5 : Int), .int .i64 (n6 : Int), .int .u32 (n7 : Int), .int .i64 (n8 : Int)] 53)).ownsRow base 5 1 (.slice a9 m c9) m (bv Y) from by rw [hY]; exact HO.out.alloc _)
      obtain ⟨N1, hN1⟩ : ∃ N, N = m + (nI [x0.size]).length := ⟨_, rfl⟩
      obtain ⟨X1, hX1⟩ : ∃ X, X = Y ++ nI [x0.size] := ⟨_, rfl⟩
      obtain ⟨N2, hN2⟩ : ∃ N, N = N1 + x0.size := ⟨_, rfl⟩
      obtain ⟨X2, hX2⟩ : ∃ X, X = X1 ++ byl x0 := ⟨_, rfl⟩
      obtain ⟨N3, hN3⟩ : ∃ N, N = N2 + (nI [n1, x2.size]).length := ⟨_, rfl⟩
      obtain ⟨X3, hX3⟩ : ∃ X, X = X2 ++ nI [n1, x2.size] := ⟨_, rfl⟩
      obtain ⟨N4, hN4⟩ : ∃ N, N = N3 + x2.size := ⟨_, rfl⟩
      obtain ⟨X4, hX4⟩ : ∃ X, X = X3 ++ byl x2 := ⟨_, rfl⟩
      have l1 := nI_bnd (l := [x0.size]) (m := 10) (fun z hz => by simp at hz; omega) (by simp)
      have l3 := nI_bnd (l := [n1, x2.size]) (m := 20) (fun z hz => by simp at hz; omega) (by simp)
      have hN2b : N2 ≤ 600000 ∧ N1 ≤ 600000 ∧ N3 ≤ 600000 ∧ N4 ≤ 600000 := by omega
      have HC1 := Lib.hid (show ∀ W u g, W.ownsRow base 5 1 u m (bv Y) → base ≤ W.heap.size → W.heap[g]? = some (.cells #[.int .i64 (x0.size : Int)] 3 (0, 0)) → Calls Tryz.prog 45 #[u, .slice (some ⟨g, 0, none⟩) 1 1] W fun e w' => ∃ v', e = .returned v' ∧ w'.ownsRow base 5 1 v' N1 (bv X1) ∧ Gb base W w' from fun W u g q1 q2 q3 => by rw [hN1, hX1]; exact rnums_any (.inl q1) q2 q3 rfl rfl (fun z hz => by simp at hz; omega) (by decide) (by decide) (by omega))
      have HC3 := Lib.hid (show ∀ W u g, W.ownsRow base 5 1 u N2 (bv X2) → base ≤ W.heap.size → W.heap[g]? = some (.cells #[.int .i64 (n1 : Int), .int .i64 (x2.size : Int)] 3 (0, 0)) → Calls Tryz.prog 45 #[u, .slice (some ⟨g, 0, none⟩) 2 2] W fun e w' => ∃ v', e = .returned v' ∧ w'.ownsRow base 5 1 v' N3 (bv X3) ∧ Gb base W w' from fun W u g q1 q2 q3 => by rw [hN3, hX3]; exact rnums_any (.inl q1) q2 q3 rfl rfl (fun z hz => by simp at hz; omega) (by decide) (by decide) (by omega))
      have HXE := Lib.hid (show m + (entC ⟨x0, n1, x2, n3, n4, n5, n6, n7, n8⟩).length = N4 + (nI [n3, n4, n5, n6, n7, n8]).length ∧ X0 ++ secC9 le (j + 1) = X4 ++ nI [n3, n4, n5, n6, n7, n8] from by
        have e1 : X4 ++ nI [n3, n4, n5, n6, n7, n8] = Y ++ entC ⟨x0, n1, x2, n3, n4, n5, n6, n7, n8⟩ := by rw [hX4, hX3, hX2, hX1]; exact entN_is Y x0 n1 x2 n3 n4 n5 n6 n7 n8
        have e2 : X4.length = Y.length + (nI [x0.size]).length + x0.size + (nI [n1, x2.size]).length + x2.size := by rw [hX4, hX3, hX2, hX1]; simp only [List.length_append, byl_len]
        have e3 := congrArg List.length e1
        rw [List.length_append, List.length_append] at e3
        have e4 : m = Y.length := by rw [hY]; exact HM.out
        refine ⟨by omega, ?_⟩
        rw [e1, hY, List.append_assoc, secC9_s le j HX.out])
      have HM3 := Lib.hid (show m + (entC ⟨x0, n1, x2, n3, n4, n5, n6, n7, n8⟩).length = (X0 ++ secC9 le (j + 1)).length from by rw [← secC9_s le j HX.out, ← List.append_assoc, List.length_append, ← HM.out])
      have hNX := Lib.hid (show (True ∧ N2 = N1 + x0.size ∧ X2 = X1 ++ byl x0) ∧ (True ∧ N4 = N3 + x2.size ∧ X4 = X3 ++ byl x2) from ⟨⟨trivial, hN2, hX2⟩, ⟨trivial, hN4, hX4⟩⟩)
      clear hsc9 hsl hok hx hY hN1 hN2 hN3 hN4 hX1 hX2 hX3 hX4 l1 l3 h1 h3 h4 h5 h6 h7 h8
      go_wp2_with fail
      refine wp_region_inv0 (by kernel_rfl) (by kernel_rfl) (by kernel_rfl) (G2 base (wr.alloc (.cells #[.string x0, .int .i64 (n1 : Int), .string x2, .int .i64 (n3 : Int), .int .i64 (n4 : Int), .int .i64 (n5 : Int), .int .i64 (n6 : Int), .int .u32 (n7 : Int), .int .i64 (n8 : Int)] 53)) (fun j_9 => match j_9 with | 0 => some (.slice a9 m c9) | 1 => some (.pointer (some ⟨wr.heap.size, 0, none⟩)) | 2 => some (.string x0) | 3 => some (.int .i64 (x0.size : Int)) | 4 => none | 5 => none | 6 => some (.pointer (some ⟨wr.heap.size, 0, none⟩)) | 7 => some (.string x0) | 8 => none | 9 => none | _ => none) 4 1 (#[.int .i64 (x0.size : Int)]) 0 5 8 9 (.slice a9 m c9) (.slice a9 m c9) (m) (N1) (N2) (Y) (X1) (X2)) (G2.start HOA.out HSA.out rfl) ?_ ?_
      · intro j9 o ho L9 V w9 K hI hL hdep hK
        have HI9 := Lib.hid hI
        have HBW := Lib.hid (Nat.le_trans HSA.out hI.size)
        have HL9 := Lib.hid hL
        simp only [fill, slotOf, List.size_toArray, List.length_cons, List.length_nil, Nat.reduceAdd, List.getElem?_toArray, List.getElem?_cons_zero, List.getElem?_cons_succ, Option.bind_some, Act.put, List.setIfInBounds_toArray, List.set_cons_zero, List.set_cons_succ] at hK ⊢
        have hin : j9 < 10 := (Array.getElem?_eq_some_iff.1 ho).1
        have hcs : j9 = 0 ∨ j9 = 1 ∨ j9 = 2 ∨ j9 = 3 ∨ j9 = 4 ∨ j9 = 5 ∨ j9 = 6 ∨ j9 = 7 ∨ j9 = 8 ∨ j9 = 9 := by omega
        clear hin
        rcases hcs with rfl | rfl | rfl | rfl | rfl | rfl | rfl | rfl | rfl | rfl
        · obtain rfl := Option.some.inj ho.symm
          have e9 := hI.old hL
          clear hdep ho hI hL
          try simp only [fill, slotOf, List.size_toArray, List.length_cons, List.length_nil, Nat.reduceAdd, List.getElem?_toArray, List.getElem?_cons_zero, List.getElem?_cons_succ, Option.bind_some, Act.put, List.setIfInBounds_toArray, List.set_cons_zero, List.set_cons_succ] at hK ⊢
          rw [e9] at hK ⊢
          go_simp
          exact hK (.slice a9 m c9) _ (HI9.out.put 0 _ (by decide) (fun v h => Option.some.inj h)) _ rfl
        · obtain rfl := Option.some.inj ho.symm
          clear hdep ho hI hL
          try simp only [fill, slotOf, List.size_toArray, List.length_cons, List.length_nil, Nat.reduceAdd, List.getElem?_toArray, List.getElem?_cons_zero, List.getElem?_cons_succ, Option.bind_some, Act.put, List.setIfInBounds_toArray, List.set_cons_zero, List.set_cons_succ] at hK ⊢
          go_simp
          exact hK (.pointer (some ⟨wr.heap.size, 0, none⟩)) _ (HI9.out.put 1 _ (by decide) (fun v h => Option.some.inj h)) _ rfl
        · obtain rfl := Option.some.inj ho.symm
          have d1 : V 1 = .pointer (some ⟨wr.heap.size, 0, none⟩) := hI.val 1 _ (hdep ⟨1, .data⟩ (by simp) rfl) rfl
          have u0 : w9.cell? ⟨wr.heap.size, 0, none⟩ = some (.string x0) := cell_blk9 (hI.gb.other _ _ _ HXA.out (by decide)) rfl
          clear hdep ho hI hL
          try simp only [fill, slotOf, List.size_toArray, List.length_cons, List.length_nil, Nat.reduceAdd, List.getElem?_toArray, List.getElem?_cons_zero, List.getElem?_cons_succ, Option.bind_some, Act.put, List.setIfInBounds_toArray, List.set_cons_zero, List.set_cons_succ] at hK ⊢
          rw [d1] at hK ⊢
          go_simp
          exact hK (.string x0) _ (HI9.out.put 2 _ (by decide) (fun v h => Option.some.inj h)) _ rfl
        · obtain rfl := Option.some.inj ho.symm
          have d2 : V 2 = .string x0 := hI.val 2 _ (hdep ⟨2, .data⟩ (by simp) rfl) rfl
          clear hdep ho hI hL
          try simp only [fill, slotOf, List.size_toArray, List.length_cons, List.length_nil, Nat.reduceAdd, List.getElem?_toArray, List.getElem?_cons_zero, List.getElem?_cons_succ, Option.bind_some, Act.put, List.setIfInBounds_toArray, List.set_cons_zero, List.set_cons_succ] at hK ⊢
          rw [d2] at hK ⊢
          go_simp
          exact hK (.int .i64 (x0.size : Int)) _ (HI9.out.put 3 _ (by decide) (fun v h => Option.some.inj h)) _ rfl
        · obtain rfl := Option.some.inj ho.symm
          have d3 : V 3 = .int .i64 (x0.size : Int) := hI.val 3 _ (hdep ⟨3, .data⟩ (by simp) rfl) rfl
          clear hdep ho hI hL
          try simp only [fill, slotOf, List.size_toArray, List.length_cons, List.length_nil, Nat.reduceAdd, List.getElem?_toArray, List.getElem?_cons_zero, List.getElem?_cons_succ, Option.bind_some, Act.put, List.setIfInBounds_toArray, List.set_cons_zero, List.set_cons_succ] at hK ⊢
          rw [d3] at hK ⊢
          go_simp
          exact hK (.slice (some ⟨w9.heap.size, 0, none⟩) 1 1) _ (HI9.out.putl HBW.out (by decide) rfl) _ rfl
        · obtain rfl := Option.some.inj ho.symm
          have d0 : V 0 = .slice a9 m c9 := hI.val 0 _ (hdep ⟨0, .data⟩ (by simp) rfl) rfl
          have HL0 := Lib.hid (hdep ⟨0, .data⟩ (by simp) rfl : L9 0 = true)
          obtain ⟨g9, e9, hg9⟩ := hI.lit (hdep ⟨4, .data⟩ (by simp) rfl)
          have HG9 := Lib.hid hg9
          clear hg9
          clear hdep ho hI hL
          try simp only [fill, slotOf, List.size_toArray, List.length_cons, List.length_nil, Nat.reduceAdd, List.getElem?_toArray, List.getElem?_cons_zero, List.getElem?_cons_succ, Option.bind_some, Act.put, List.setIfInBounds_toArray, List.set_cons_zero, List.set_cons_succ] at hK ⊢
          rw [d0, e9] at hK ⊢
          go_simp
          refine (HC1.out w9 _ g9 (HI9.out.o0 HL9.out) HBW.out HG9.out).mono ?_
          rintro e w8 ⟨u8, rfl, ho8, hg8⟩
          exact hK u8 _ (HI9.out.put1 HL0.out HL9.out u8 (by decide) rfl ho8 hg8) _ rfl
        · obtain rfl := Option.some.inj ho.symm
          clear hdep ho hI hL
          try simp only [fill, slotOf, List.size_toArray, List.length_cons, List.length_nil, Nat.reduceAdd, List.getElem?_toArray, List.getElem?_cons_zero, List.getElem?_cons_succ, Option.bind_some, Act.put, List.setIfInBounds_toArray, List.set_cons_zero, List.set_cons_succ] at hK ⊢
          go_simp
          exact hK (.pointer (some ⟨wr.heap.size, 0, none⟩)) _ (HI9.out.put 6 _ (by decide) (fun v h => Option.some.inj h)) _ rfl
        · obtain rfl := Option.some.inj ho.symm
          have d6 : V 6 = .pointer (some ⟨wr.heap.size, 0, none⟩) := hI.val 6 _ (hdep ⟨6, .data⟩ (by simp) rfl) rfl
          have u0 : w9.cell? ⟨wr.heap.size, 0, none⟩ = some (.string x0) := cell_blk9 (hI.gb.other _ _ _ HXA.out (by decide)) rfl
          clear hdep ho hI hL
          try simp only [fill, slotOf, List.size_toArray, List.length_cons, List.length_nil, Nat.reduceAdd, List.getElem?_toArray, List.getElem?_cons_zero, List.getElem?_cons_succ, Option.bind_some, Act.put, List.setIfInBounds_toArray, List.set_cons_zero, List.set_cons_succ] at hK ⊢
          rw [d6] at hK ⊢
          go_simp
          exact hK (.string x0) _ (HI9.out.put 7 _ (by decide) (fun v h => Option.some.inj h)) _ rfl
        · obtain rfl := Option.some.inj ho.symm
          have d7 : V 7 = .string x0 := hI.val 7 _ (hdep ⟨7, .data⟩ (by simp) rfl) rfl
          have HLA := Lib.hid (hdep ⟨5, .data⟩ (by simp) rfl : L9 5 = true)
          clear hdep ho hI hL
          try simp only [fill, slotOf, List.size_toArray, List.length_cons, List.length_nil, Nat.reduceAdd, List.getElem?_toArray, List.getElem?_cons_zero, List.getElem?_cons_succ, Option.bind_some, Act.put, List.setIfInBounds_toArray, List.set_cons_zero, List.set_cons_succ] at hK ⊢
          rw [d7] at hK ⊢
          refine step_append_str (by rfl) (.tmp 35) (.tmp 37) (by rfl) base (V 5) (N1) (X1) (by rfl) (HI9.out.o1 HLA.out HL9.out) x0 (by rfl) (by omega) HBW.out ?_
          intro u8 w8 ho8 hg8
          exact hK u8 _ (HI9.out.put2 HLA.out HL9.out u8 (by decide) rfl (by rw [hNX.out.1.2.1, hNX.out.1.2.2]; exact ho8) hg8) _ rfl
        · obtain rfl := Option.some.inj ho.symm
          have HLA := Lib.hid (hdep ⟨8, .data⟩ (by simp) rfl : L9 8 = true)
          clear hdep ho hI hL
          try simp only [fill, slotOf, List.size_toArray, List.length_cons, List.length_nil, Nat.reduceAdd, List.getElem?_toArray, List.getElem?_cons_zero, List.getElem?_cons_succ, Option.bind_some, Act.put, List.setIfInBounds_toArray, List.set_cons_zero, List.set_cons_succ] at hK ⊢
          go_simp
          exact hK (V 8) _ (HI9.out.put3 HLA.out (by decide) rfl) _ rfl
      · intro L9 V w9 hI hall
        have k3 : V 9 = V 8 := (hI.ag (hall 9 (by decide))).2
        have HOZ := hI.o2 (hall 8 (by decide))
        have HGZ := Lib.hid hI.gb
        obtain ⟨az, cz, kz⟩ := own_slice HOZ
        rw [kz] at HOZ k3
        have HOZ := Lib.hid HOZ
        clear hI hall
        simp only [fill, slotOf, List.size_toArray, List.length_cons, List.length_nil, Nat.reduceAdd, List.getElem?_toArray, List.getElem?_cons_zero, List.getElem?_cons_succ, Option.bind_some, Act.put, List.setIfInBounds_toArray, List.set_cons_zero, List.set_cons_succ]
        rw [k3]
        clear k3 kz
        obtain ⟨wq, hwq⟩ : ∃ wq, wq = w9 := ⟨_, rfl⟩
        rw [← hwq] at HGZ HOZ ⊢
        clear hwq
        have HGY := HGZ
        have HXB := Lib.hid (HGY.out.other _ _ _ HXA.out (by decide))
        have HSB := Lib.hid (Nat.le_trans HSA.out HGY.out.size)
        clear HGZ
        go_wp2_with fail
        refine wp_region_inv0 (by kernel_rfl) (by kernel_rfl) (by kernel_rfl) (G2 base wq (fun j_9 => match j_9 with | 0 => some (.slice az N2 cz) | 1 => some (.pointer (some ⟨wr.heap.size, 1, none⟩)) | 2 => some (.int .i64 (n1 : Int)) | 3 => some (.pointer (some ⟨wr.heap.size, 2, none⟩)) | 4 => some (.string x2) | 5 => some (.int .i64 (x2.size : Int)) | 6 => none | 7 => none | 8 => some (.pointer (some ⟨wr.heap.size, 2, none⟩)) | 9 => some (.string x2) | 10 => none | 11 => none | _ => none) 6 2 (#[.int .i64 (n1 : Int), .int .i64 (x2.size : Int)]) 0 7 10 11 (.slice az N2 cz) (.slice az N2 cz) (N2) (N3) (N4) (X2) (X3) (X4)) (G2.start HOZ.out HSB.out rfl) ?_ ?_
        · intro j9 o ho L9 V w9 K hI hL hdep hK
          have HI9 := Lib.hid hI
          have HBW := Lib.hid (Nat.le_trans HSB.out hI.size)
          have HL9 := Lib.hid hL
          simp only [fill, slotOf, List.size_toArray, List.length_cons, List.length_nil, Nat.reduceAdd, List.getElem?_toArray, List.getElem?_cons_zero, List.getElem?_cons_succ, Option.bind_some, Act.put, List.setIfInBounds_toArray, List.set_cons_zero, List.set_cons_succ] at hK ⊢
          have hin : j9 < 12 := (Array.getElem?_eq_some_iff.1 ho).1
          have hcs : j9 = 0 ∨ j9 = 1 ∨ j9 = 2 ∨ j9 = 3 ∨ j9 = 4 ∨ j9 = 5 ∨ j9 = 6 ∨ j9 = 7 ∨ j9 = 8 ∨ j9 = 9 ∨ j9 = 10 ∨ j9 = 11 := by omega
          clear hin
          rcases hcs with rfl | rfl | rfl | rfl | rfl | rfl | rfl | rfl | rfl | rfl | rfl | rfl
          · obtain rfl := Option.some.inj ho.symm
            have e9 := hI.old hL
            clear hdep ho hI hL
            try simp only [fill, slotOf, List.size_toArray, List.length_cons, List.length_nil, Nat.reduceAdd, List.getElem?_toArray, List.getElem?_cons_zero, List.getElem?_cons_succ, Option.bind_some, Act.put, List.setIfInBounds_toArray, List.set_cons_zero, List.set_cons_succ] at hK ⊢
            rw [e9] at hK ⊢
            go_simp
            exact hK (.slice az N2 cz) _ (HI9.out.put 0 _ (by decide) (fun v h => Option.some.inj h)) _ rfl
          · obtain rfl := Option.some.inj ho.symm
            clear hdep ho hI hL
            try simp only [fill, slotOf, List.size_toArray, List.length_cons, List.length_nil, Nat.reduceAdd, List.getElem?_toArray, List.getElem?_cons_zero, List.getElem?_cons_succ, Option.bind_some, Act.put, List.setIfInBounds_toArray, List.set_cons_zero, List.set_cons_succ] at hK ⊢
            go_simp
            exact hK (.pointer (some ⟨wr.heap.size, 1, none⟩)) _ (HI9.out.put 1 _ (by decide) (fun v h => Option.some.inj h)) _ rfl
          · obtain rfl := Option.some.inj ho.symm
            have d1 : V 1 = .pointer (some ⟨wr.heap.size, 1, none⟩) := hI.val 1 _ (hdep ⟨1, .data⟩ (by simp) rfl) rfl
            have u1 : w9.cell? ⟨wr.heap.size, 1, none⟩ = some (.int .i64 (n1 : Int)) := cell_blk9 (hI.gb.other _ _ _ HXB.out (by decide)) rfl
            clear hdep ho hI hL
            try simp only [fill, slotOf, List.size_toArray, List.length_cons, List.length_nil, Nat.reduceAdd, List.getElem?_toArray, List.getElem?_cons_zero, List.getElem?_cons_succ, Option.bind_some, Act.put, List.setIfInBounds_toArray, List.set_cons_zero, List.set_cons_succ] at hK ⊢
            rw [d1] at hK ⊢
            go_simp
            exact hK (.int .i64 (n1 : Int)) _ (HI9.out.put 2 _ (by decide) (fun v h => Option.some.inj h)) _ rfl
          · obtain rfl := Option.some.inj ho.symm
            clear hdep ho hI hL
            try simp only [fill, slotOf, List.size_toArray, List.length_cons, List.length_nil, Nat.reduceAdd, List.getElem?_toArray, List.getElem?_cons_zero, List.getElem?_cons_succ, Option.bind_some, Act.put, List.setIfInBounds_toArray, List.set_cons_zero, List.set_cons_succ] at hK ⊢
            go_simp
            exact hK (.pointer (some ⟨wr.heap.size, 2, none⟩)) _ (HI9.out.put 3 _ (by decide) (fun v h => Option.some.inj h)) _ rfl
          · obtain rfl := Option.some.inj ho.symm
            have d3 : V 3 = .pointer (some ⟨wr.heap.size, 2, none⟩) := hI.val 3 _ (hdep ⟨3, .data⟩ (by simp) rfl) rfl
            have u2 : w9.cell? ⟨wr.heap.size, 2, none⟩ = some (.string x2) := cell_blk9 (hI.gb.other _ _ _ HXB.out (by decide)) rfl
            clear hdep ho hI hL
            try simp only [fill, slotOf, List.size_toArray, List.length_cons, List.length_nil, Nat.reduceAdd, List.getElem?_toArray, List.getElem?_cons_zero, List.getElem?_cons_succ, Option.bind_some, Act.put, List.setIfInBounds_toArray, List.set_cons_zero, List.set_cons_succ] at hK ⊢
            rw [d3] at hK ⊢
            go_simp
            exact hK (.string x2) _ (HI9.out.put 4 _ (by decide) (fun v h => Option.some.inj h)) _ rfl
          · obtain rfl := Option.some.inj ho.symm
            have d4 : V 4 = .string x2 := hI.val 4 _ (hdep ⟨4, .data⟩ (by simp) rfl) rfl
            clear hdep ho hI hL
            try simp only [fill, slotOf, List.size_toArray, List.length_cons, List.length_nil, Nat.reduceAdd, List.getElem?_toArray, List.getElem?_cons_zero, List.getElem?_cons_succ, Option.bind_some, Act.put, List.setIfInBounds_toArray, List.set_cons_zero, List.set_cons_succ] at hK ⊢
            rw [d4] at hK ⊢
            go_simp
            exact hK (.int .i64 (x2.size : Int)) _ (HI9.out.put 5 _ (by decide) (fun v h => Option.some.inj h)) _ rfl
          · obtain rfl := Option.some.inj ho.symm
            have d2 : V 2 = .int .i64 (n1 : Int) := hI.val 2 _ (hdep ⟨2, .data⟩ (by simp) rfl) rfl
            have d5 : V 5 = .int .i64 (x2.size : Int) := hI.val 5 _ (hdep ⟨5, .data⟩ (by simp) rfl) rfl
            clear hdep ho hI hL
            try simp only [fill, slotOf, List.size_toArray, List.length_cons, List.length_nil, Nat.reduceAdd, List.getElem?_toArray, List.getElem?_cons_zero, List.getElem?_cons_succ, Option.bind_some, Act.put, List.setIfInBounds_toArray, List.set_cons_zero, List.set_cons_succ] at hK ⊢
            rw [d2, d5] at hK ⊢
            go_simp
            exact hK (.slice (some ⟨w9.heap.size, 0, none⟩) 2 2) _ (HI9.out.putl HBW.out (by decide) rfl) _ rfl
          · obtain rfl := Option.some.inj ho.symm
            have d0 : V 0 = .slice az N2 cz := hI.val 0 _ (hdep ⟨0, .data⟩ (by simp) rfl) rfl
            have HL0 := Lib.hid (hdep ⟨0, .data⟩ (by simp) rfl : L9 0 = true)
            obtain ⟨g9, e9, hg9⟩ := hI.lit (hdep ⟨6, .data⟩ (by simp) rfl)
            have HG9 := Lib.hid hg9
            clear hg9
            clear hdep ho hI hL
            try simp only [fill, slotOf, List.size_toArray, List.length_cons, List.length_nil, Nat.reduceAdd, List.getElem?_toArray, List.getElem?_cons_zero, List.getElem?_cons_succ, Option.bind_some, Act.put, List.setIfInBounds_toArray, List.set_cons_zero, List.set_cons_succ] at hK ⊢
            rw [d0, e9] at hK ⊢
            go_simp
            refine (HC3.out w9 _ g9 (HI9.out.o0 HL9.out) HBW.out HG9.out).mono ?_
            rintro e w8 ⟨u8, rfl, ho8, hg8⟩
            exact hK u8 _ (HI9.out.put1 HL0.out HL9.out u8 (by decide) rfl ho8 hg8) _ rfl
          · obtain rfl := Option.some.inj ho.symm
            clear hdep ho hI hL
            try simp only [fill, slotOf, List.size_toArray, List.length_cons, List.length_nil, Nat.reduceAdd, List.getElem?_toArray, List.getElem?_cons_zero, List.getElem?_cons_succ, Option.bind_some, Act.put, List.setIfInBounds_toArray, List.set_cons_zero, List.set_cons_succ] at hK ⊢
            go_simp
            exact hK (.pointer (some ⟨wr.heap.size, 2, none⟩)) _ (HI9.out.put 8 _ (by decide) (fun v h => Option.some.inj h)) _ rfl
          · obtain rfl := Option.some.inj ho.symm
            have d8 : V 8 = .pointer (some ⟨wr.heap.size, 2, none⟩) := hI.val 8 _ (hdep ⟨8, .data⟩ (by simp) rfl) rfl
            have u2 : w9.cell? ⟨wr.heap.size, 2, none⟩ = some (.string x2) := cell_blk9 (hI.gb.other _ _ _ HXB.out (by decide)) rfl
            clear hdep ho hI hL
            try simp only [fill, slotOf, List.size_toArray, List.length_cons, List.length_nil, Nat.reduceAdd, List.getElem?_toArray, List.getElem?_cons_zero, List.getElem?_cons_succ, Option.bind_some, Act.put, List.setIfInBounds_toArray, List.set_cons_zero, List.set_cons_succ] at hK ⊢
            rw [d8] at hK ⊢
            go_simp
            exact hK (.string x2) _ (HI9.out.put 9 _ (by decide) (fun v h => Option.some.inj h)) _ rfl
          · obtain rfl := Option.some.inj ho.symm
            have d9 : V 9 = .string x2 := hI.val 9 _ (hdep ⟨9, .data⟩ (by simp) rfl) rfl
            have HLA := Lib.hid (hdep ⟨7, .data⟩ (by simp) rfl : L9 7 = true)
            clear hdep ho hI hL
            try simp only [fill, slotOf, List.size_toArray, List.length_cons, List.length_nil, Nat.reduceAdd, List.getElem?_toArray, List.getElem?_cons_zero, List.getElem?_cons_succ, Option.bind_some, Act.put, List.setIfInBounds_toArray, List.set_cons_zero, List.set_cons_succ] at hK ⊢
            rw [d9] at hK ⊢
            refine step_append_str (by rfl) (.tmp 46) (.tmp 48) (by rfl) base (V 7) (N3) (X3) (by rfl) (HI9.out.o1 HLA.out HL9.out) x2 (by rfl) (by omega) HBW.out ?_
            intro u8 w8 ho8 hg8
            exact hK u8 _ (HI9.out.put2 HLA.out HL9.out u8 (by decide) rfl (by rw [hNX.out.2.2.1, hNX.out.2.2.2]; exact ho8) hg8) _ rfl
          · obtain rfl := Option.some.inj ho.symm
            have HLA := Lib.hid (hdep ⟨10, .data⟩ (by simp) rfl : L9 10 = true)
            clear hdep ho hI hL
            try simp only [fill, slotOf, List.size_toArray, List.length_cons, List.length_nil, Nat.reduceAdd, List.getElem?_toArray, List.getElem?_cons_zero, List.getElem?_cons_succ, Option.bind_some, Act.put, List.setIfInBounds_toArray, List.set_cons_zero, List.set_cons_succ] at hK ⊢
            go_simp
            exact hK (V 10) _ (HI9.out.put3 HLA.out (by decide) rfl) _ rfl
        · intro L9 V w9 hI hall
          have k3 : V 11 = V 10 := (hI.ag (hall 11 (by decide))).2
          have HOZb := hI.o2 (hall 10 (by decide))
          have HGZ := Lib.hid hI.gb
          obtain ⟨az2, cz2, kz⟩ := own_slice HOZb
          rw [kz] at HOZb k3
          have HOZb := Lib.hid HOZb
          clear hI hall
          simp only [fill, slotOf, List.size_toArray, List.length_cons, List.length_nil, Nat.reduceAdd, List.getElem?_toArray, List.getElem?_cons_zero, List.getElem?_cons_succ, Option.bind_some, Act.put, List.setIfInBounds_toArray, List.set_cons_zero, List.set_cons_succ]
          rw [k3]
          clear k3 kz
          obtain ⟨wp, hwp⟩ : ∃ wp, wp = w9 := ⟨_, rfl⟩
          rw [← hwp] at HGZ HOZb ⊢
          clear hwp
          have HXC := Lib.hid (HGZ.out.other _ _ _ HXB.out (by decide))
          have HSC := Lib.hid (Nat.le_trans HSB.out HGZ.out.size)
          have q3 : wp.cell? ⟨wr.heap.size, 3, none⟩ = some (.int .i64 (n3 : Int)) := cell_blk9 HXC.out rfl
          have q4 : wp.cell? ⟨wr.heap.size, 4, none⟩ = some (.int .i64 (n4 : Int)) := cell_blk9 HXC.out rfl
          have q5 : wp.cell? ⟨wr.heap.size, 5, none⟩ = some (.int .i64 (n5 : Int)) := cell_blk9 HXC.out rfl
          have q6 : wp.cell? ⟨wr.heap.size, 6, none⟩ = some (.int .i64 (n6 : Int)) := cell_blk9 HXC.out rfl
          have q7 : wp.cell? ⟨wr.heap.size, 7, none⟩ = some (.int .u32 (n7 : Int)) := cell_blk9 HXC.out rfl
          have q8 : wp.cell? ⟨wr.heap.size, 8, none⟩ = some (.int .i64 (n8 : Int)) := cell_blk9 HXC.out rfl
          have hw7 : IntKind.i64.wrap ((n7 : Nat) : Int) = (n7 : Int) := IntWalk.i64_in _ (by omega)
          have HN5 := Lib.hid (rnums_lit (.inl HOZb.out) HSC.out (by omega) [n3, n4, n5, n6, n7, n8] #[.int .i64 (n3 : Int), .int .i64 (n4 : Int), .int .i64 (n5 : Int), .int .i64 (n6 : Int), .int .i64 (n7 : Int), .int .i64 (n8 : Int)] 6 rfl rfl (fun z hz => by simp at hz; omega) (by decide) (by decide))
          go_wp2_with fail
          refine HN5.out.mono ?_
          rintro e w3 ⟨v3, rfl, ho3, hg3⟩
          rw [← HXE.out.1, ← HXE.out.2] at ho3
          obtain ⟨a3, c3, rfl⟩ := own_slice ho3
          have HG3 := Lib.hid ((((HGB.out.trans HGA.out).trans HGY.out).trans HGZ.out).trans hg3)
          have HO3 := Lib.hid ho3
          clear ho3 hg3 q3 q4 q5 q6 q7 q8 hw7
          go_wp2_with fail
          go_roundw
          case rel => exact ⟨j + 1, _, c3, a3, by omega, by go_num, rfl, HM3, HO3, HG3⟩
          case measure => simp [intOf]; omega
    · obtain rfl : en = j := by omega
      clear hjn
      obtain ⟨Zmn, hZ⟩ : ∃ Z, Z = X0 ++ secC9 le en := ⟨_, rfl⟩
      have hmz : m = Zmn.length := by rw [hZ]; exact HM.out
      have ho9 := HO.out
      rw [← hZ] at ho9 HMC
      have hzl : Zmn.length ≤ 500000 := by omega
      have HMZ := Lib.hid hmz
      have HSZ := Lib.hid (Nat.le_trans HBS.out HGB.out.size)
      have HNB := Lib.hid (rnums_lit (.inl ho9) HSZ.out (by omega) [mn] #[.int .i64 (mn : Int)] 1 rfl rfl (fun z hz => by rw [List.mem_singleton.1 hz]; omega) (by decide) (by decide))
      have HKB := Lib.hid ((HGB.out.below.block w.heap.size HLW.out).trans HGA0.out)
      have f0 : wr.cell? ⟨w.heap.size, 4, none⟩ = some (.slice ma mn mc) := cell_blk9 HKB.out rfl
      clear hZ ho9 hmz
      go_wp2_with fail
      refine HNB.out.mono ?_
      rintro e w4 ⟨v4, rfl, ho4, hg4⟩
      obtain ⟨a4, c4, rfl⟩ := own_slice ho4
      have HGS := Lib.hid (HGB.out.trans hg4)
      have HKC := Lib.hid ((HGS.out.below.block w.heap.size HLW.out).trans HGA0.out)
      have f1 : w4.cell? ⟨w.heap.size, 4, none⟩ = some (.slice ma mn mc) := cell_blk9 HKC.out rfl
      rw [← secC_0 markC MarkS.z lm mn, HMZ.out] at ho4
      have HOS := Lib.hid ho4
      have hmz := HMZ.out
      have HMS := Lib.hid (show Zmn.length + (secC markC MarkS.z lm mn 0).length = (Zmn ++ secC markC MarkS.z lm mn 0).length from by rw [List.length_append])
      rw [hmz, ← secC_0 markC MarkS.z lm mn]
      clear ho4 hg4 f0 hmz
      go_wp2_with fail
      go_loopw [3, 7, 76] (fun s0 _ sI wr => ∃ (j m c9 : Nat) (a9 : Option Addr), j ≤ mn ∧ sI = .int .i64 (j : Int) ∧ s0 = .slice a9 m c9 ∧ Hid (m = (Zmn ++ secC markC MarkS.z lm mn j).length) ∧ Hid (wr.ownsRow base 5 1 (.slice a9 m c9) m (bv (Zmn ++ secC markC MarkS.z lm mn j))) ∧ Hid (Gb base wb wr)) (fun _ _ sI _ => mn - (intOf sI).toNat)
      case atStart => exact ⟨0, _, _, _, by omega, rfl, rfl, HMS, HOS, HGS⟩
      case round =>
        clear HMS HOS HGS
        obtain ⟨j, m, c9, a9, hj, rfl, rfl, HM, HO, HGB⟩ := hrel
        rename World => wr
        have hm : m ≤ 1000000 := by
          have h1 := HM.out
          have h2 := secC_len (f := markC) (n := mn) (d := MarkS.z) (by omega) (fun y hy => markC_len (HNM.out y hy)) (j := j) (by rw [HM2L.out]; omega) (by omega)
          rw [List.length_append] at h1
          omega
        by_cases hjn : j < mn
        · have hji : (j : Int) < (mn : Int) := by omega
          obtain ⟨sb, so, rfl, hsl, hok, hsc9⟩ := (HM2.out wr HGB.out.below).get hjn
          obtain ⟨x, hx⟩ : ∃ x, x = lm.getD j MarkS.z := ⟨_, rfl⟩
          rw [← hx] at hsc9
          have hxN : MarkNat x := HNM.out x (by rw [hx]; exact vec_mem (S := MarkS) (by rw [HM2L.out]; exact hjn))
          have HX := Lib.hid hx
          have HSZ := Lib.hid (Nat.le_trans HBS.out HGB.out.size)
          obtain ⟨x0, x1⟩ := x
          obtain ⟨h0, h1⟩ := hxN
          obtain ⟨n0, e0, b0⟩ := h0.nat
          have e0' : x0 = (n0 : Int) := e0
          subst e0'
          obtain ⟨n1, e1, b1⟩ := h1.nat
          have e1' : x1 = (n1 : Int) := e1
          subst e1'
          have d0 : wr.cell? ⟨sb, so + j * 2, none⟩ = some (.int .i64 (n0 : Int)) := hsc9 0 _ rfl
          have d1 : wr.cell? ⟨sb, so + j * 2 + 1, none⟩ = some (.int .i64 (n1 : Int)) := hsc9 1 _ rfl
          have HXA := Lib.hid (heap_alloc_new wr (.cells #[.int .i64 (n0 : Int), .int .i64 (n1 : Int)] 43))
          have HGA := Lib.hid (Gb.alloc wr (.cells #[.int .i64 (n0 : Int), .int .i64 (n1 : Int)] 43) HSZ.out)
          have es : (wr.alloc (.cells #[.int .i64 (n0 : Int), .int .i64 (n1 : Int)] 43)).heap.size = wr.heap.size + 1 := Array.size_push _
          have hN := rnums_lit (w := wr.alloc (.cells #[.int .i64 (n0 : Int), .int .i64 (n1 : Int)] 43)) (.inl (HO.out.alloc _)) (Nat.le_trans HSZ.out HGA.out.size) (by omega) [n0, n1] #[.int .i64 (n0 : Int), .int .i64 (n1 : Int)] 2 rfl rfl (fun z hz => by simp at hz; omega) (by decide) (by decide)
          rw [es] at hN
          have HNX := Lib.hid hN
          clear hsc9 hsl hok hx hN es
          go_wp2_with fail
          refine HNX.out.mono ?_
          rintro e w3 ⟨v3, rfl, ho3, hg3⟩
          obtain ⟨a3, c3, rfl⟩ := own_slice ho3
          have hE9 : nI [n0, n1] = markC ((n0 : Int), (n1 : Int)) := rfl
          rw [hE9, List.append_assoc, secC_s markC MarkS.z lm mn j HX.out] at ho3
          have HM3 := Lib.hid (show m + (markC ((n0 : Int), (n1 : Int))).length = (Zmn ++ secC markC MarkS.z lm mn (j + 1)).length from by rw [← secC_s markC MarkS.z lm mn j HX.out, ← List.append_assoc, List.length_append, ← HM.out])
          have HG3 := Lib.hid ((HGB.out.trans HGA.out).trans hg3)
          have HO3 := Lib.hid ho3
          clear ho3 hg3 d0 d1
          go_wp2_with fail
          go_roundw
          case rel => exact ⟨j + 1, _, c3, a3, by omega, by go_num, rfl, HM3, HO3, HG3⟩
          case measure => simp [intOf]; omega
        · obtain rfl : mn = j := by omega
          clear hjn
          obtain ⟨Zon, hZ⟩ : ∃ Z, Z = Zmn ++ secC markC MarkS.z lm mn mn := ⟨_, rfl⟩
          have hmz : m = Zon.length := by rw [hZ]; exact HM.out
          have ho9 := HO.out
          rw [← hZ] at ho9 HMC
          have hzl : Zon.length ≤ 1000000 := by omega
          have HMZ := Lib.hid hmz
          have HSZ := Lib.hid (Nat.le_trans HBS.out HGB.out.size)
          have HNB := Lib.hid (rnums_lit (.inl ho9) HSZ.out (by omega) [on] #[.int .i64 (on : Int)] 1 rfl rfl (fun z hz => by rw [List.mem_singleton.1 hz]; omega) (by decide) (by decide))
          have HKB := Lib.hid ((HGB.out.below.block w.heap.size HLW.out).trans HGA0.out)
          have f0 : wr.cell? ⟨w.heap.size, 5, none⟩ = some (.slice oa on oc) := cell_blk9 HKB.out rfl
          clear hZ ho9 hmz
          go_wp2_with fail
          refine HNB.out.mono ?_
          rintro e w4 ⟨v4, rfl, ho4, hg4⟩
          obtain ⟨a4, c4, rfl⟩ := own_slice ho4
          have HGS := Lib.hid (HGB.out.trans hg4)
          have HKC := Lib.hid ((HGS.out.below.block w.heap.size HLW.out).trans HGA0.out)
          have f1 : w4.cell? ⟨w.heap.size, 5, none⟩ = some (.slice oa on oc) := cell_blk9 HKC.out rfl
          rw [← secC_0 ownC OwnS.z lo on, HMZ.out] at ho4
          have HOS := Lib.hid ho4
          have hmz := HMZ.out
          have HMS := Lib.hid (show Zon.length + (secC ownC OwnS.z lo on 0).length = (Zon ++ secC ownC OwnS.z lo on 0).length from by rw [List.length_append])
          rw [hmz, ← secC_0 ownC OwnS.z lo on]
          clear ho4 hg4 f0 hmz
          go_wp2_with fail
          go_loopw [3, 9, 97] (fun s0 _ sI wr => ∃ (j m c9 : Nat) (a9 : Option Addr), j ≤ on ∧ sI = .int .i64 (j : Int) ∧ s0 = .slice a9 m c9 ∧ Hid (m = (Zon ++ secC ownC OwnS.z lo on j).length) ∧ Hid (wr.ownsRow base 5 1 (.slice a9 m c9) m (bv (Zon ++ secC ownC OwnS.z lo on j))) ∧ Hid (Gb base wb wr)) (fun _ _ sI _ => on - (intOf sI).toNat)
          case atStart => exact ⟨0, _, _, _, by omega, rfl, rfl, HMS, HOS, HGS⟩
          case round =>
            clear HMS HOS HGS
            obtain ⟨j, m, c9, a9, hj, rfl, rfl, HM, HO, HGB⟩ := hrel
            rename World => wr
            have hm : m ≤ 1500000 := by
              have h1 := HM.out
              have h2 := secC_len (f := ownC) (n := on) (d := OwnS.z) (by omega) (fun y hy => ownC_len (HNO.out y hy)) (j := j) (by rw [HO2L.out]; omega) (by omega)
              rw [List.length_append] at h1
              omega
            by_cases hjn : j < on
            · have hji : (j : Int) < (on : Int) := by omega
              obtain ⟨sb, so, rfl, hsl, hok, hsc9⟩ := (HO2.out wr HGB.out.below).get hjn
              obtain ⟨x, hx⟩ : ∃ x, x = lo.getD j OwnS.z := ⟨_, rfl⟩
              rw [← hx] at hsc9
              have hxN : OwnNat x := HNO.out x (by rw [hx]; exact vec_mem (S := OwnS) (by rw [HO2L.out]; exact hjn))
              have HX := Lib.hid hx
              have HSZ := Lib.hid (Nat.le_trans HBS.out HGB.out.size)
              obtain ⟨x0, x1, x2⟩ := x
              obtain ⟨h0, h1, h2⟩ := hxN
              obtain ⟨n0, e0, b0⟩ := h0.nat
              have e0' : x0 = (n0 : Int) := e0
              subst e0'
              obtain ⟨n1, e1, b1⟩ := h1.nat
              have e1' : x1 = (n1 : Int) := e1
              subst e1'
              obtain ⟨n2, e2, b2⟩ := h2.nat
              have e2' : x2 = (n2 : Int) := e2
              subst e2'
              have d0 : wr.cell? ⟨sb, so + j * 3, none⟩ = some (.int .i64 (n0 : Int)) := hsc9 0 _ rfl
              have d1 : wr.cell? ⟨sb, so + j * 3 + 1, none⟩ = some (.int .i64 (n1 : Int)) := hsc9 1 _ rfl
              have d2 : wr.cell? ⟨sb, so + j * 3 + 2, none⟩ = some (.int .i64 (n2 : Int)) := hsc9 2 _ rfl
              have HXA := Lib.hid (heap_alloc_new wr (.cells #[.int .i64 (n0 : Int), .int .i64 (n1 : Int), .int .i64 (n2 : Int)] 45))
              have HGA := Lib.hid (Gb.alloc wr (.cells #[.int .i64 (n0 : Int), .int .i64 (n1 : Int), .int .i64 (n2 : Int)] 45) HSZ.out)
              have es : (wr.alloc (.cells #[.int .i64 (n0 : Int), .int .i64 (n1 : Int), .int .i64 (n2 : Int)] 45)).heap.size = wr.heap.size + 1 := Array.size_push _
              have hN := rnums_lit (w := wr.alloc (.cells #[.int .i64 (n0 : Int), .int .i64 (n1 : Int), .int .i64 (n2 : Int)] 45)) (.inl (HO.out.alloc _)) (Nat.le_trans HSZ.out HGA.out.size) (by omega) [n0, n1, n2] #[.int .i64 (n0 : Int), .int .i64 (n1 : Int), .int .i64 (n2 : Int)] 3 rfl rfl (fun z hz => by simp at hz; omega) (by decide) (by decide)
              rw [es] at hN
              have HNX := Lib.hid hN
              clear hsc9 hsl hok hx hN es
              go_wp2_with fail
              refine HNX.out.mono ?_
              rintro e w3 ⟨v3, rfl, ho3, hg3⟩
              obtain ⟨a3, c3, rfl⟩ := own_slice ho3
              have hE9 : nI [n0, n1, n2] = ownC ((n0 : Int), (n1 : Int), (n2 : Int)) := rfl
              rw [hE9, List.append_assoc, secC_s ownC OwnS.z lo on j HX.out] at ho3
              have HM3 := Lib.hid (show m + (ownC ((n0 : Int), (n1 : Int), (n2 : Int))).length = (Zon ++ secC ownC OwnS.z lo on (j + 1)).length from by rw [← secC_s ownC OwnS.z lo on j HX.out, ← List.append_assoc, List.length_append, ← HM.out])
              have HG3 := Lib.hid ((HGB.out.trans HGA.out).trans hg3)
              have HO3 := Lib.hid ho3
              clear ho3 hg3 d0 d1 d2
              go_wp2_with fail
              go_roundw
              case rel => exact ⟨j + 1, _, c3, a3, by omega, by go_num, rfl, HM3, HO3, HG3⟩
              case measure => simp [intOf]; omega
            · obtain rfl : on = j := by omega
              clear hjn
              have HMF := Lib.hid (show m = CC.length from by rw [HM.out, ← HMC.out])
              have HOF := HO.out
              rw [← HMC.out] at HOF
              have hlc := HLEN.out
              have hm9 := HMF.out
              obtain ⟨a7, c7, e7, hb7, _⟩ := BytesAt.ofOwn HOF HBY.out (by omega)
              cases e7
              have HS := Lib.hid (rseal_any hb7 (by omega))
              have HB7 := Lib.hid ((HBB.out.1.trans (HGB.out.below.mono HBB.out.2)))
              clear HOF hb7 hm9 hlc
              go_wp2_with fail
              refine HS.out.mono ?_
              rintro e w6 hq
              obtain ⟨a8, c8, rfl, hb8, hbl8⟩ := hq
              have H8 := Lib.hid hb8
              have HB8 := Lib.hid (HB7.out.trans (hbl8.mono HB7.out.size))
              clear hb8 hbl8
              go_wp2_with fail
              go_ret
              rw [← HMF.out]
              exact ⟨_, _, rfl, H8.out, HB8.out⟩
end Go.Proofs.YtbdgcfimbblncaaGreatDoor
end PkMC4_0
section PkMC4_1
/- Manifests: the document's Same, walked. Written by genmfsm.py. -/
namespace Go.Proofs.YtbdgcfimbblncaaGreatDoor
open Go.RowKit LabPlain
set_option linter.unusedVariables false

def sqE (x y : EntV) : Bool := (x.key.toList == y.key.toList && (x.win == y.win && (x.part.toList == y.part.toList && (x.fst == y.fst && (x.lst == y.lst && (x.rows == y.rows && (x.size == y.size && (x.sum == y.sum && x.born == y.born))))))))
def sqM (x y : Int × Int) : Bool := (x.1 == y.1 && x.2 == y.2)
def sqO (x y : Int × Int × Int) : Bool := (x.1 == y.1 && (x.2.1 == y.2.1 && x.2.2 == y.2.2))
theorem toList_eq9 (x y : ByteArray) : x.toList = y.toList ↔ x = y := by
  refine ⟨fun h => ?_, fun h => by rw [h]⟩
  rw [ByteArray.toList_eq, ByteArray.toList_eq] at h
  exact ByteArray.ext (Array.toList_inj.1 h)
theorem sqE_iff (x y : EntV) : sqE x y = true ↔ x = y := by
  cases x; cases y
  simp only [sqE, Bool.and_eq_true, beq_iff_eq, toList_eq9, EntV.mk.injEq]
theorem sqM_iff (x y : Int × Int) : sqM x y = true ↔ x = y := by
  cases x; cases y
  simp only [sqM, Bool.and_eq_true, beq_iff_eq, Prod.mk.injEq]
theorem sqO_iff (x y : Int × Int × Int) : sqO x y = true ↔ x = y := by
  obtain ⟨a, b, c⟩ := x
  obtain ⟨a2, b2, c2⟩ := y
  simp only [sqO, Bool.and_eq_true, beq_iff_eq, Prod.mk.injEq]

theorem eq9_E (x0 y0 : ByteArray) (x1 y1 : Int) (x2 y2 : ByteArray) (x3 y3 : Int) (x4 y4 : Int) (x5 y5 : Int) (x6 y6 : Int) (x7 y7 : Int) (x8 y8 : Int) (w : World) : (Op.equalIn 10000 53 (.agg #[.string x0, .int .i64 x1, .string x2, .int .i64 x3, .int .i64 x4, .int .i64 x5, .int .i64 x6, .int .u32 x7, .int .i64 x8]) (.agg #[.string y0, .int .i64 y1, .string y2, .int .i64 y3, .int .i64 y4, .int .i64 y5, .int .i64 y6, .int .u32 y7, .int .i64 y8])).run Tryz.prog w = .ok (sqE ⟨x0, x1, x2, x3, x4, x5, x6, x7, x8⟩ ⟨y0, y1, y2, y3, y4, y5, y6, y7, y8⟩) w := by
  show _ = Result.ok (((x0.toList == y0.toList) && ((x1 == y1) && ((x2.toList == y2.toList) && ((x3 == y3) && ((x4 == y4) && ((x5 == y5) && ((x6 == y6) && ((x7 == y7) && (x8 == y8)))))))))) w
  have us0 := Tryz.underlying3
  have ag0 := Tryz.isAgg3
  have zs0 := Tryz.sizeOf3
  have us1 := Tryz.underlying9
  have ag1 := Tryz.isAgg9
  have zs1 := Tryz.sizeOf9
  have us2 := Tryz.underlying51
  have ag2 := Tryz.isAgg51
  have zs2 := Tryz.sizeOf51
  have hS : Tryz.prog.underlying 53 = some (.struct (Tryz.prog.fieldsOf 53)) := by kernel_rfl
  have hp : Tryz.prog.stoodInHeld 53 = false := by kernel_rfl
  rw [show (10000 : Nat) = 9999 + 1 from rfl, run_equalIn_agg w 9999 53 _ _ hS hp]
  simp only [Program.fieldsOf, Tryz.underlying53]
  go_simp
  cases h0 : (x0.toList == y0.toList) with
  | false => first | rfl | simp_all
  | true =>
  cases h1 : (x1 == y1) with
  | false => first | rfl | simp_all
  | true =>
  cases h2 : (x2.toList == y2.toList) with
  | false => first | rfl | simp_all
  | true =>
  cases h3 : (x3 == y3) with
  | false => first | rfl | simp_all
  | true =>
  cases h4 : (x4 == y4) with
  | false => first | rfl | simp_all
  | true =>
  cases h5 : (x5 == y5) with
  | false => first | rfl | simp_all
  | true =>
  cases h6 : (x6 == y6) with
  | false => first | rfl | simp_all
  | true =>
  cases h7 : (x7 == y7) with
  | false => first | rfl | simp_all
  | true =>
  cases h8 : (x8 == y8) <;> simp_all
theorem guard9_E (x y : Operand) (xs ys : Array Value) (w : World) : (eqGuard .neq 53 x y (.agg xs) (.agg ys)).run Tryz.prog w = .ok () w := run_eqGuard_agg w .neq 53 x y xs ys (by kernel_rfl)
theorem neq9_E (x0 y0 : ByteArray) (x1 y1 : Int) (x2 y2 : ByteArray) (x3 y3 : Int) (x4 y4 : Int) (x5 y5 : Int) (x6 y6 : Int) (x7 y7 : Int) (x8 y8 : Int) (w : World) : (binOp .neq 53 (.agg #[.string x0, .int .i64 x1, .string x2, .int .i64 x3, .int .i64 x4, .int .i64 x5, .int .i64 x6, .int .u32 x7, .int .i64 x8]) (.agg #[.string y0, .int .i64 y1, .string y2, .int .i64 y3, .int .i64 y4, .int .i64 y5, .int .i64 y6, .int .u32 y7, .int .i64 y8])).run Tryz.prog w = .ok (.bool (!sqE ⟨x0, x1, x2, x3, x4, x5, x6, x7, x8⟩ ⟨y0, y1, y2, y3, y4, y5, y6, y7, y8⟩)) w := by
  rw [run_neq_struct, eq9_E]; rfl

theorem eq9_M (x0 y0 : Int) (x1 y1 : Int) (w : World) : (Op.equalIn 10000 43 (.agg #[.int .i64 x0, .int .i64 x1]) (.agg #[.int .i64 y0, .int .i64 y1])).run Tryz.prog w = .ok (sqM (x0, x1) (y0, y1)) w := by
  show _ = Result.ok (((x0 == y0) && (x1 == y1))) w
  have us0 := Tryz.underlying3
  have ag0 := Tryz.isAgg3
  have zs0 := Tryz.sizeOf3
  have hS : Tryz.prog.underlying 43 = some (.struct (Tryz.prog.fieldsOf 43)) := by kernel_rfl
  have hp : Tryz.prog.stoodInHeld 43 = false := by kernel_rfl
  rw [show (10000 : Nat) = 9999 + 1 from rfl, run_equalIn_agg w 9999 43 _ _ hS hp]
  simp only [Program.fieldsOf, Tryz.underlying43]
  go_simp
  cases h0 : (x0 == y0) with
  | false => first | rfl | simp_all
  | true =>
  cases h1 : (x1 == y1) <;> simp_all
theorem guard9_M (x y : Operand) (xs ys : Array Value) (w : World) : (eqGuard .neq 43 x y (.agg xs) (.agg ys)).run Tryz.prog w = .ok () w := run_eqGuard_agg w .neq 43 x y xs ys (by kernel_rfl)
theorem neq9_M (x0 y0 : Int) (x1 y1 : Int) (w : World) : (binOp .neq 43 (.agg #[.int .i64 x0, .int .i64 x1]) (.agg #[.int .i64 y0, .int .i64 y1])).run Tryz.prog w = .ok (.bool (!sqM (x0, x1) (y0, y1))) w := by
  rw [run_neq_struct, eq9_M]; rfl

theorem eq9_O (x0 y0 : Int) (x1 y1 : Int) (x2 y2 : Int) (w : World) : (Op.equalIn 10000 45 (.agg #[.int .i64 x0, .int .i64 x1, .int .i64 x2]) (.agg #[.int .i64 y0, .int .i64 y1, .int .i64 y2])).run Tryz.prog w = .ok (sqO (x0, x1, x2) (y0, y1, y2)) w := by
  show _ = Result.ok (((x0 == y0) && ((x1 == y1) && (x2 == y2)))) w
  have us0 := Tryz.underlying3
  have ag0 := Tryz.isAgg3
  have zs0 := Tryz.sizeOf3
  have hS : Tryz.prog.underlying 45 = some (.struct (Tryz.prog.fieldsOf 45)) := by kernel_rfl
  have hp : Tryz.prog.stoodInHeld 45 = false := by kernel_rfl
  rw [show (10000 : Nat) = 9999 + 1 from rfl, run_equalIn_agg w 9999 45 _ _ hS hp]
  simp only [Program.fieldsOf, Tryz.underlying45]
  go_simp
  cases h0 : (x0 == y0) with
  | false => first | rfl | simp_all
  | true =>
  cases h1 : (x1 == y1) with
  | false => first | rfl | simp_all
  | true =>
  cases h2 : (x2 == y2) <;> simp_all
theorem guard9_O (x y : Operand) (xs ys : Array Value) (w : World) : (eqGuard .neq 45 x y (.agg xs) (.agg ys)).run Tryz.prog w = .ok () w := run_eqGuard_agg w .neq 45 x y xs ys (by kernel_rfl)
theorem neq9_O (x0 y0 : Int) (x1 y1 : Int) (x2 y2 : Int) (w : World) : (binOp .neq 45 (.agg #[.int .i64 x0, .int .i64 x1, .int .i64 x2]) (.agg #[.int .i64 y0, .int .i64 y1, .int .i64 y2])).run Tryz.prog w = .ok (.bool (!sqO (x0, x1, x2) (y0, y1, y2))) w := by
  rw [run_neq_struct, eq9_O]; rfl

/-- two structs held against each other, in a region -/
theorem step_neq9 {o : Oper} {bb : Bool} {a : Act} {w : World} {K : Act → World → Prop} {Q : Exit → Act → World → Prop} {E : Prop} {t r : TypeId} {x y : Operand} {xs ys : Array Value} {b : Bool} (hgd : bb = true) (ho : o.op = .binOp .neq t x y r) (hx : a.eval x = .agg xs) (hy : a.eval y = .agg ys)
    (hg : (eqGuard .neq t x y (.agg xs) (.agg ys)).run Tryz.prog w = .ok () w) (hr : (binOp .neq t (.agg xs) (.agg ys)).run Tryz.prog w = .ok (.bool b) w) (h : K (a.put o.dst (.bool b)) w) : if bb = true then Oper.wp Tryz.prog o a w K Q else E := by
  rw [if_pos hgd]
  unfold Oper.wp execOp
  simp only [ho, hx, hy, Sem.run_bind, Sem.run_pure, Result.andThen_ok, hg, hr]
  exact h
theorem list_ext9 {α : Type} {l m : List α} (z : α) (hl : l.length = m.length) (h : ∀ i, i < l.length → l.getD i z = m.getD i z) : l = m := by
  refine List.ext_getElem hl fun i h1 h2 => ?_
  have := h i h1
  simpa [h1, h2] using this
theorem cell_blkS {w : World} {B : Nat} {cur : Array Value} {t : TypeId} (g : w.heap[B]? = some (.cells cur t (0, 0))) {i : Nat} {u : Value} (h : cur[i]? = some u) : w.cell? ⟨B, i, none⟩ = some u := by rw [cell_of_row w _ _ _ _ (0, 0) g]; exact h
def SameP (s s2 d d2 hz hz2 : Int) (le le2 : List EntV) (lm lm2 : List (Int × Int)) (lo lo2 : List (Int × Int × Int)) : Prop := s = s2 ∧ d = d2 ∧ hz = hz2 ∧ le = le2 ∧ lm = lm2 ∧ lo = lo2
def SameIs (s s2 d d2 hz hz2 : Int) (le le2 : List EntV) (lm lm2 : List (Int × Int)) (lo lo2 : List (Int × Int × Int)) (e : Ending) : Prop := ∃ b : Bool, e = .returned (.bool b) ∧ (b = true ↔ SameP s s2 d d2 hz hz2 le le2 lm lm2 lo lo2)
section
variable {s s2 d d2 hz hz2 : Int} {le le2 : List EntV} {lm lm2 : List (Int × Int)} {lo lo2 : List (Int × Int × Int)}
theorem SameIs.no (h : ¬ SameP s s2 d d2 hz hz2 le le2 lm lm2 lo lo2) : SameIs s s2 d d2 hz hz2 le le2 lm lm2 lo lo2 (.returned (.bool false)) := ⟨false, rfl, ⟨fun e => (by cases e), fun g => absurd g h⟩⟩
theorem SameIs.yes (h : SameP s s2 d d2 hz hz2 le le2 lm lm2 lo lo2) : SameIs s s2 d d2 hz hz2 le le2 lm lm2 lo lo2 (.returned (.bool true)) := ⟨true, rfl, ⟨fun _ => h, fun _ => rfl⟩⟩
end
set_option maxRecDepth 100000 in
set_option maxHeartbeats 16000000 in
theorem rsame13_any {w : World} {s s2 d d2 hz hz2 : Int} {ea eb ma mb oa ob : Option Addr} {en en2 ec ed mn mn2 mc md on on2 oc od : Nat} {le le2 : List EntV} {lm lm2 : List (Int × Int)} {lo lo2 : List (Int × Int × Int)} (hE : VecAt EntS w ea en ec le) (hM : VecAt MarkS w ma mn mc lm) (hO : VecAt OwnS w oa on oc lo) (hE2 : VecAt EntS w eb en2 ed le2) (hM2 : VecAt MarkS w mb mn2 md lm2) (hO2 : VecAt OwnS w ob on2 od lo2) :
    Calls Tryz.prog 12 #[.agg #[.int .i64 s, .int .i64 d, .int .i64 hz, .slice ea en ec, .slice ma mn mc, .slice oa on oc], .agg #[.int .i64 s2, .int .i64 d2, .int .i64 hz2, .slice eb en2 ed, .slice mb mn2 md, .slice ob on2 od]] w fun e w' => SameIs s s2 d d2 hz hz2 le le2 lm lm2 lo lo2 e ∧ Below w.heap.size w w' := by
  obtain ⟨wa, hwa⟩ : ∃ wa, wa = w.alloc (.cells #[.int .i64 s, .int .i64 d, .int .i64 hz, .slice ea en ec, .slice ma mn mc, .slice oa on oc] 26) := ⟨_, rfl⟩
  have ba : Below w.heap.size w wa := by rw [hwa]; exact (Below.refl _ _).alloc (Nat.le_refl _) _
  have ga : wa.heap[w.heap.size]? = some (.cells #[.int .i64 s, .int .i64 d, .int .i64 hz, .slice ea en ec, .slice ma mn mc, .slice oa on oc] 26 (0, 0)) := by rw [hwa]; exact heap_alloc_new _ _
  have sa : wa.heap.size = w.heap.size + 1 := by rw [hwa]; exact Array.size_push _
  obtain ⟨wx, hwx⟩ : ∃ wx, wx = wa.alloc (.cells #[.int .i64 s2, .int .i64 d2, .int .i64 hz2, .slice eb en2 ed, .slice mb mn2 md, .slice ob on2 od] 26) := ⟨_, rfl⟩
  have bx : Below wa.heap.size wa wx := by rw [hwx]; exact (Below.refl _ _).alloc (Nat.le_refl _) _
  have gx : wx.heap[w.heap.size + 1]? = some (.cells #[.int .i64 s2, .int .i64 d2, .int .i64 hz2, .slice eb en2 ed, .slice mb mn2 md, .slice ob on2 od] 26 (0, 0)) := by rw [hwx, ← sa]; exact heap_alloc_new _ _
  have ga2 : wx.heap[w.heap.size]? = some (.cells #[.int .i64 s, .int .i64 d, .int .i64 hz, .slice ea en ec, .slice ma mn mc, .slice oa on oc] 26 (0, 0)) := (bx.block w.heap.size (by omega)).trans ga
  have HBW := Lib.hid (ba.trans (bx.mono ba.size))
  have HG1 := Lib.hid ga2
  have HG2 := Lib.hid gx
  have HW1 := Lib.hid (Array.getElem?_eq_some_iff.1 ga2).1
  have HW2 := Lib.hid (Array.getElem?_eq_some_iff.1 gx).1
  have HWX := Lib.hid (show wx = (w.alloc (.cells #[.int .i64 s, .int .i64 d, .int .i64 hz, .slice ea en ec, .slice ma mn mc, .slice oa on oc] 26)).alloc (.cells #[.int .i64 s2, .int .i64 d2, .int .i64 hz2, .slice eb en2 ed, .slice mb mn2 md, .slice ob on2 od] 26) from by rw [hwx, hwa])
  have HVE := Lib.hid hE
  have HVM := Lib.hid hM
  have HVO := Lib.hid hO
  have HVE2 := Lib.hid hE2
  have HVM2 := Lib.hid hM2
  have HVO2 := Lib.hid hO2
  have Lle := Lib.hid hE.len
  have Llm := Lib.hid hM.len
  have Llo := Lib.hid hO.len
  have Lle2 := Lib.hid hE2.len
  have Llm2 := Lib.hid hM2.len
  have Llo2 := Lib.hid hO2.len
  have q1 := hE.cap
  have q2 := hE.capm
  have q3 := hM.cap
  have q4 := hM.capm
  have q5 := hO.cap
  have q6 := hO.capm
  have q7 := hE2.cap
  have q8 := hE2.capm
  have q9 := hM2.cap
  have q10 := hM2.capm
  have q11 := hO2.cap
  have q12 := hO2.capm
  clear hwa ba ga sa hwx bx gx ga2 hE hM hO hE2 hM2 hO2
  go_enter Tryz.func12, Tryz.ntmps12
  by_cases g0 : s = s2
  case neg =>
    have z0 : (s != s2) = true := by rw [bne_iff_ne]; omega
    have HNO := Lib.hid (SameIs.no (fun e => g0 (e.1)) : SameIs s s2 d d2 hz hz2 le le2 lm lm2 lo lo2 (.returned (.bool false)))
    clear g0
    go_wp2_with fail
    first | (go_ret; exact ⟨HNO.out, HBW.out⟩) | (rw [← HWX.out]; go_wp2_with fail; go_ret; exact ⟨HNO.out, HBW.out⟩) | (go_ret; rw [← HWX.out]; exact ⟨HNO.out, HBW.out⟩)
  subst g0
  by_cases g1 : d = d2
  case neg =>
    have z1 : (d != d2) = true := by rw [bne_iff_ne]; omega
    have HNO := Lib.hid (SameIs.no (fun e => g1 (e.2.1)) : SameIs s s d d2 hz hz2 le le2 lm lm2 lo lo2 (.returned (.bool false)))
    have z0 : (s != s) = false := by simp
    clear g1
    go_wp2_with fail
    first | (go_ret; exact ⟨HNO.out, HBW.out⟩) | (rw [← HWX.out]; go_wp2_with fail; go_ret; exact ⟨HNO.out, HBW.out⟩) | (go_ret; rw [← HWX.out]; exact ⟨HNO.out, HBW.out⟩)
  subst g1
  by_cases g2 : hz = hz2
  case neg =>
    have z2 : (hz != hz2) = true := by rw [bne_iff_ne]; omega
    have HNO := Lib.hid (SameIs.no (fun e => g2 (e.2.2.1)) : SameIs s s d d hz hz2 le le2 lm lm2 lo lo2 (.returned (.bool false)))
    have z0 : (s != s) = false := by simp
    have z1 : (d != d) = false := by simp
    clear g2
    go_wp2_with fail
    first | (go_ret; exact ⟨HNO.out, HBW.out⟩) | (rw [← HWX.out]; go_wp2_with fail; go_ret; exact ⟨HNO.out, HBW.out⟩) | (go_ret; rw [← HWX.out]; exact ⟨HNO.out, HBW.out⟩)
  subst g2
  by_cases g3 : en = en2
  case neg =>
    have z3 : ((en : Int) != (en2 : Int)) = true := by rw [bne_iff_ne]; omega
    have HNO := Lib.hid (SameIs.no (fun e => g3 (by rw [← Lle.out, ← Lle2.out, e.2.2.2.1])) : SameIs s s d d hz hz le le2 lm lm2 lo lo2 (.returned (.bool false)))
    have z0 : (s != s) = false := by simp
    have z1 : (d != d) = false := by simp
    have z2 : (hz != hz) = false := by simp
    clear g3
    go_wp2_with fail
    first | (go_ret; exact ⟨HNO.out, HBW.out⟩) | (rw [← HWX.out]; go_wp2_with fail; go_ret; exact ⟨HNO.out, HBW.out⟩) | (go_ret; rw [← HWX.out]; exact ⟨HNO.out, HBW.out⟩)
  subst g3
  by_cases g4 : mn = mn2
  case neg =>
    have z4 : ((mn : Int) != (mn2 : Int)) = true := by rw [bne_iff_ne]; omega
    have HNO := Lib.hid (SameIs.no (fun e => g4 (by rw [← Llm.out, ← Llm2.out, e.2.2.2.2.1])) : SameIs s s d d hz hz le le2 lm lm2 lo lo2 (.returned (.bool false)))
    have z0 : (s != s) = false := by simp
    have z1 : (d != d) = false := by simp
    have z2 : (hz != hz) = false := by simp
    have z3 : ((en : Int) != (en : Int)) = false := by simp
    clear g4
    go_wp2_with fail
    first | (go_ret; exact ⟨HNO.out, HBW.out⟩) | (rw [← HWX.out]; go_wp2_with fail; go_ret; exact ⟨HNO.out, HBW.out⟩) | (go_ret; rw [← HWX.out]; exact ⟨HNO.out, HBW.out⟩)
  subst g4
  by_cases g5 : on = on2
  case neg =>
    have z5 : ((on : Int) != (on2 : Int)) = true := by rw [bne_iff_ne]; omega
    have HNO := Lib.hid (SameIs.no (fun e => g5 (by rw [← Llo.out, ← Llo2.out, e.2.2.2.2.2])) : SameIs s s d d hz hz le le2 lm lm2 lo lo2 (.returned (.bool false)))
    have z0 : (s != s) = false := by simp
    have z1 : (d != d) = false := by simp
    have z2 : (hz != hz) = false := by simp
    have z3 : ((en : Int) != (en : Int)) = false := by simp
    have z4 : ((mn : Int) != (mn : Int)) = false := by simp
    clear g5
    go_wp2_with fail
    first | (go_ret; exact ⟨HNO.out, HBW.out⟩) | (rw [← HWX.out]; go_wp2_with fail; go_ret; exact ⟨HNO.out, HBW.out⟩) | (go_ret; rw [← HWX.out]; exact ⟨HNO.out, HBW.out⟩)
  subst g5
  have z0 : (s != s) = false := by simp
  have z1 : (d != d) = false := by simp
  have z2 : (hz != hz) = false := by simp
  have z3 : ((en : Int) != (en : Int)) = false := by simp
  have z4 : ((mn : Int) != (mn : Int)) = false := by simp
  have z5 : ((on : Int) != (on : Int)) = false := by simp

  go_wp2_with fail
  rw [← HWX.out]
  go_loopw [5, 57] (fun _ sI wr => ∃ j : Nat, j ≤ en ∧ sI = .int .i64 (j : Int) ∧ Hid (∀ i, i < j → le.getD i EntS.z = le2.getD i EntS.z) ∧ Hid (Below wx.heap.size wx wr)) (fun _ sI _ => en - (intOf sI).toNat)
  case atStart => exact ⟨0, by omega, rfl, Lib.hid (fun i hi => absurd hi (Nat.not_lt_zero _)), Lib.hid (Below.refl _ _)⟩
  case round =>
    obtain ⟨j, hj, rfl, HU, HB⟩ := hrel
    rename World => wr
    by_cases hjn : j < en
    · have hji : (j : Int) < (en : Int) := by omega
      obtain ⟨sb, so, rfl, hsl, _, hsx⟩ := (HVE.out.kept (HBW.out.trans (HB.out.mono HBW.out.size))).get hjn
      obtain ⟨tb, to, rfl, htl, _, hsy⟩ := (HVE2.out.kept (HBW.out.trans (HB.out.mono HBW.out.size))).get hjn
      obtain ⟨x, hx⟩ : ∃ x, x = le.getD j EntS.z := ⟨_, rfl⟩
      obtain ⟨y, hy⟩ : ∃ y, y = le2.getD j EntS.z := ⟨_, rfl⟩
      rw [← hx] at hsx
      rw [← hy] at hsy
      have HX := Lib.hid hx
      have HY := Lib.hid hy
      have HSX := Lib.hid hsx
      have HSY := Lib.hid hsy
      have HSL := Lib.hid hsl
      have HTL := Lib.hid htl
      have HJN := Lib.hid hjn
      have HK1 := Lib.hid ((HB.out.block w.heap.size HW1.out).trans HG1.out)
      have HK2 := Lib.hid ((HB.out.block (w.heap.size + 1) HW2.out).trans HG2.out)
      have HL1 := Lib.hid (Nat.lt_of_lt_of_le HW1.out HB.out.size)
      have HL2 := Lib.hid (Nat.lt_of_lt_of_le HW2.out HB.out.size)
      obtain ⟨x0, x1, x2, x3, x4, x5, x6, x7, x8⟩ := x
      obtain ⟨y0, y1, y2, y3, y4, y5, y6, y7, y8⟩ := y
      clear hx hy hsx hsy hsl htl
      go_wp2_with fail
      cases hq : sqE ⟨x0, x1, x2, x3, x4, x5, x6, x7, x8⟩ ⟨y0, y1, y2, y3, y4, y5, y6, y7, y8⟩ with
      | false =>
        have HQ := Lib.hid hq
        have HNO := Lib.hid (SameIs.no (fun e => by
          have e9 : le = le2 := e.2.2.2.1
          have h1 : ⟨x0, x1, x2, x3, x4, x5, x6, x7, x8⟩ = le.getD j EntS.z := HX.out
          have h2 : ⟨y0, y1, y2, y3, y4, y5, y6, y7, y8⟩ = le2.getD j EntS.z := HY.out
          rw [e9, ← h2] at h1
          rw [(sqE_iff ⟨x0, x1, x2, x3, x4, x5, x6, x7, x8⟩ ⟨y0, y1, y2, y3, y4, y5, y6, y7, y8⟩).2 h1] at hq
          cases hq) : SameIs s s d d hz hz le le2 lm lm2 lo lo2 (.returned (.bool false)))
        clear hq
        refine wp_region_fill (by kernel_rfl) (by kernel_rfl) (by kernel_rfl) (Below wr.heap.size wr) (FV (fun j_9 => match j_9 with | 0 => some (.pointer (some ⟨w.heap.size, 3, none⟩)) | 1 => some (.slice (some ⟨sb, so, none⟩) en ec) | 2 => some (.int .i64 (j : Int)) | 3 => some (.pointer (some ⟨sb, so + j * 9, none⟩)) | 4 => some (.agg #[.string x0, .int .i64 x1, .string x2, .int .i64 x3, .int .i64 x4, .int .i64 x5, .int .i64 x6, .int .u32 x7, .int .i64 x8]) | 5 => some (.pointer (some ⟨w.heap.size + 1, 3, none⟩)) | 6 => some (.slice (some ⟨tb, to, none⟩) en ed) | 7 => some (.int .i64 (j : Int)) | 8 => some (.pointer (some ⟨tb, to + j * 9, none⟩)) | 9 => some (.agg #[.string y0, .int .i64 y1, .string y2, .int .i64 y3, .int .i64 y4, .int .i64 y5, .int .i64 y6, .int .u32 y7, .int .i64 y8]) | 10 => some (.bool true) | _ => none) (fun _ _ => True)) (Below.refl _ _).drew ?_ ?_
        · intro i9 o ho V w9 K hJ hdep hK
          have HJ := Lib.hid hJ
          simp only [fill, slotOf, List.size_toArray, List.length_cons, List.length_nil, Nat.reduceAdd, List.getElem?_toArray, List.getElem?_cons_zero, List.getElem?_cons_succ, Option.bind_some, Act.put, List.setIfInBounds_toArray, List.set_cons_zero, List.set_cons_succ] at hK ⊢
          have hin : i9 < 11 := (Array.getElem?_eq_some_iff.1 ho).1
          have hcs : i9 = 0 ∨ i9 = 1 ∨ i9 = 2 ∨ i9 = 3 ∨ i9 = 4 ∨ i9 = 5 ∨ i9 = 6 ∨ i9 = 7 ∨ i9 = 8 ∨ i9 = 9 ∨ i9 = 10 := by omega
          clear hin
          rcases hcs with rfl | rfl | rfl | rfl | rfl | rfl | rfl | rfl | rfl | rfl | rfl
          · obtain rfl := Option.some.inj ho.symm
            clear hdep ho hJ
            try simp only [fill, slotOf, List.size_toArray, List.length_cons, List.length_nil, Nat.reduceAdd, List.getElem?_toArray, List.getElem?_cons_zero, List.getElem?_cons_succ, Option.bind_some, Act.put, List.setIfInBounds_toArray, List.set_cons_zero, List.set_cons_succ] at hK ⊢
            go_simp
            exact hK (.pointer (some ⟨w.heap.size, 3, none⟩)) _ HJ.out rfl (fun j y h => h) _ rfl
          · obtain rfl := Option.some.inj ho.symm
            have d0 : V 0 = .pointer (some ⟨w.heap.size, 3, none⟩) := hdep ⟨0, .data⟩ (by simp) rfl
            have q1 : w9.cell? ⟨w.heap.size, 3, none⟩ = some (.slice (some ⟨sb, so, none⟩) en ec) := (hJ.cell (p := ⟨w.heap.size, 3, none⟩) HL1.out).trans (cell_blkS HK1.out rfl)
            clear hdep ho hJ
            try simp only [fill, slotOf, List.size_toArray, List.length_cons, List.length_nil, Nat.reduceAdd, List.getElem?_toArray, List.getElem?_cons_zero, List.getElem?_cons_succ, Option.bind_some, Act.put, List.setIfInBounds_toArray, List.set_cons_zero, List.set_cons_succ] at hK ⊢
            rw [d0] at hK ⊢
            go_simp
            exact hK (.slice (some ⟨sb, so, none⟩) en ec) _ HJ.out rfl (fun j y h => h) _ rfl
          · obtain rfl := Option.some.inj ho.symm
            clear hdep ho hJ
            try simp only [fill, slotOf, List.size_toArray, List.length_cons, List.length_nil, Nat.reduceAdd, List.getElem?_toArray, List.getElem?_cons_zero, List.getElem?_cons_succ, Option.bind_some, Act.put, List.setIfInBounds_toArray, List.set_cons_zero, List.set_cons_succ] at hK ⊢
            go_simp
            exact hK (.int .i64 (j : Int)) _ HJ.out rfl (fun j y h => h) _ rfl
          · obtain rfl := Option.some.inj ho.symm
            have d1 : V 1 = .slice (some ⟨sb, so, none⟩) en ec := hdep ⟨1, .data⟩ (by simp) rfl
            have d2 : V 2 = .int .i64 (j : Int) := hdep ⟨2, .data⟩ (by simp) rfl
            have hb9 : j < en := HJN.out
            have hb8 : (j : Int) < (en : Int) := by omega
            clear hdep ho hJ
            try simp only [fill, slotOf, List.size_toArray, List.length_cons, List.length_nil, Nat.reduceAdd, List.getElem?_toArray, List.getElem?_cons_zero, List.getElem?_cons_succ, Option.bind_some, Act.put, List.setIfInBounds_toArray, List.set_cons_zero, List.set_cons_succ] at hK ⊢
            rw [d1, d2] at hK ⊢
            go_simp
            exact hK (.pointer (some ⟨sb, so + j * 9, none⟩)) _ HJ.out rfl (fun j y h => h) _ rfl
          · obtain rfl := Option.some.inj ho.symm
            have d3 : V 3 = .pointer (some ⟨sb, so + j * 9, none⟩) := hdep ⟨3, .data⟩ (by simp) rfl
            have e0 : w9.cell? ⟨sb, so + j * 9, none⟩ = some (.string x0) := (hJ.cell (p := ⟨sb, so + j * 9 + 0, none⟩) HSL.out).trans (HSX.out 0 _ rfl)
            have e1 : w9.cell? ⟨sb, so + j * 9 + 1, none⟩ = some (.int .i64 x1) := (hJ.cell (p := ⟨sb, so + j * 9 + 1, none⟩) HSL.out).trans (HSX.out 1 _ rfl)
            have e2 : w9.cell? ⟨sb, so + j * 9 + 2, none⟩ = some (.string x2) := (hJ.cell (p := ⟨sb, so + j * 9 + 2, none⟩) HSL.out).trans (HSX.out 2 _ rfl)
            have e3 : w9.cell? ⟨sb, so + j * 9 + 3, none⟩ = some (.int .i64 x3) := (hJ.cell (p := ⟨sb, so + j * 9 + 3, none⟩) HSL.out).trans (HSX.out 3 _ rfl)
            have e4 : w9.cell? ⟨sb, so + j * 9 + 4, none⟩ = some (.int .i64 x4) := (hJ.cell (p := ⟨sb, so + j * 9 + 4, none⟩) HSL.out).trans (HSX.out 4 _ rfl)
            have e5 : w9.cell? ⟨sb, so + j * 9 + 5, none⟩ = some (.int .i64 x5) := (hJ.cell (p := ⟨sb, so + j * 9 + 5, none⟩) HSL.out).trans (HSX.out 5 _ rfl)
            have e6 : w9.cell? ⟨sb, so + j * 9 + 6, none⟩ = some (.int .i64 x6) := (hJ.cell (p := ⟨sb, so + j * 9 + 6, none⟩) HSL.out).trans (HSX.out 6 _ rfl)
            have e7 : w9.cell? ⟨sb, so + j * 9 + 7, none⟩ = some (.int .u32 x7) := (hJ.cell (p := ⟨sb, so + j * 9 + 7, none⟩) HSL.out).trans (HSX.out 7 _ rfl)
            have e8 : w9.cell? ⟨sb, so + j * 9 + 8, none⟩ = some (.int .i64 x8) := (hJ.cell (p := ⟨sb, so + j * 9 + 8, none⟩) HSL.out).trans (HSX.out 8 _ rfl)
            clear hdep ho hJ
            try simp only [fill, slotOf, List.size_toArray, List.length_cons, List.length_nil, Nat.reduceAdd, List.getElem?_toArray, List.getElem?_cons_zero, List.getElem?_cons_succ, Option.bind_some, Act.put, List.setIfInBounds_toArray, List.set_cons_zero, List.set_cons_succ] at hK ⊢
            rw [d3] at hK ⊢
            go_simp
            exact hK (.agg #[.string x0, .int .i64 x1, .string x2, .int .i64 x3, .int .i64 x4, .int .i64 x5, .int .i64 x6, .int .u32 x7, .int .i64 x8]) _ HJ.out rfl (fun j y h => h) _ rfl
          · obtain rfl := Option.some.inj ho.symm
            clear hdep ho hJ
            try simp only [fill, slotOf, List.size_toArray, List.length_cons, List.length_nil, Nat.reduceAdd, List.getElem?_toArray, List.getElem?_cons_zero, List.getElem?_cons_succ, Option.bind_some, Act.put, List.setIfInBounds_toArray, List.set_cons_zero, List.set_cons_succ] at hK ⊢
            go_simp
            exact hK (.pointer (some ⟨w.heap.size + 1, 3, none⟩)) _ HJ.out rfl (fun j y h => h) _ rfl
          · obtain rfl := Option.some.inj ho.symm
            have d5 : V 5 = .pointer (some ⟨w.heap.size + 1, 3, none⟩) := hdep ⟨5, .data⟩ (by simp) rfl
            have q2 : w9.cell? ⟨w.heap.size + 1, 3, none⟩ = some (.slice (some ⟨tb, to, none⟩) en ed) := (hJ.cell (p := ⟨w.heap.size + 1, 3, none⟩) HL2.out).trans (cell_blkS HK2.out rfl)
            clear hdep ho hJ
            try simp only [fill, slotOf, List.size_toArray, List.length_cons, List.length_nil, Nat.reduceAdd, List.getElem?_toArray, List.getElem?_cons_zero, List.getElem?_cons_succ, Option.bind_some, Act.put, List.setIfInBounds_toArray, List.set_cons_zero, List.set_cons_succ] at hK ⊢
            rw [d5] at hK ⊢
            go_simp
            exact hK (.slice (some ⟨tb, to, none⟩) en ed) _ HJ.out rfl (fun j y h => h) _ rfl
          · obtain rfl := Option.some.inj ho.symm
            clear hdep ho hJ
            try simp only [fill, slotOf, List.size_toArray, List.length_cons, List.length_nil, Nat.reduceAdd, List.getElem?_toArray, List.getElem?_cons_zero, List.getElem?_cons_succ, Option.bind_some, Act.put, List.setIfInBounds_toArray, List.set_cons_zero, List.set_cons_succ] at hK ⊢
            go_simp
            exact hK (.int .i64 (j : Int)) _ HJ.out rfl (fun j y h => h) _ rfl
          · obtain rfl := Option.some.inj ho.symm
            have d6 : V 6 = .slice (some ⟨tb, to, none⟩) en ed := hdep ⟨6, .data⟩ (by simp) rfl
            have d7 : V 7 = .int .i64 (j : Int) := hdep ⟨7, .data⟩ (by simp) rfl
            have hb9 : j < en := HJN.out
            have hb8 : (j : Int) < (en : Int) := by omega
            clear hdep ho hJ
            try simp only [fill, slotOf, List.size_toArray, List.length_cons, List.length_nil, Nat.reduceAdd, List.getElem?_toArray, List.getElem?_cons_zero, List.getElem?_cons_succ, Option.bind_some, Act.put, List.setIfInBounds_toArray, List.set_cons_zero, List.set_cons_succ] at hK ⊢
            rw [d6, d7] at hK ⊢
            go_simp
            exact hK (.pointer (some ⟨tb, to + j * 9, none⟩)) _ HJ.out rfl (fun j y h => h) _ rfl
          · obtain rfl := Option.some.inj ho.symm
            have d8 : V 8 = .pointer (some ⟨tb, to + j * 9, none⟩) := hdep ⟨8, .data⟩ (by simp) rfl
            have e0 : w9.cell? ⟨tb, to + j * 9, none⟩ = some (.string y0) := (hJ.cell (p := ⟨tb, to + j * 9 + 0, none⟩) HTL.out).trans (HSY.out 0 _ rfl)
            have e1 : w9.cell? ⟨tb, to + j * 9 + 1, none⟩ = some (.int .i64 y1) := (hJ.cell (p := ⟨tb, to + j * 9 + 1, none⟩) HTL.out).trans (HSY.out 1 _ rfl)
            have e2 : w9.cell? ⟨tb, to + j * 9 + 2, none⟩ = some (.string y2) := (hJ.cell (p := ⟨tb, to + j * 9 + 2, none⟩) HTL.out).trans (HSY.out 2 _ rfl)
            have e3 : w9.cell? ⟨tb, to + j * 9 + 3, none⟩ = some (.int .i64 y3) := (hJ.cell (p := ⟨tb, to + j * 9 + 3, none⟩) HTL.out).trans (HSY.out 3 _ rfl)
            have e4 : w9.cell? ⟨tb, to + j * 9 + 4, none⟩ = some (.int .i64 y4) := (hJ.cell (p := ⟨tb, to + j * 9 + 4, none⟩) HTL.out).trans (HSY.out 4 _ rfl)
            have e5 : w9.cell? ⟨tb, to + j * 9 + 5, none⟩ = some (.int .i64 y5) := (hJ.cell (p := ⟨tb, to + j * 9 + 5, none⟩) HTL.out).trans (HSY.out 5 _ rfl)
            have e6 : w9.cell? ⟨tb, to + j * 9 + 6, none⟩ = some (.int .i64 y6) := (hJ.cell (p := ⟨tb, to + j * 9 + 6, none⟩) HTL.out).trans (HSY.out 6 _ rfl)
            have e7 : w9.cell? ⟨tb, to + j * 9 + 7, none⟩ = some (.int .u32 y7) := (hJ.cell (p := ⟨tb, to + j * 9 + 7, none⟩) HTL.out).trans (HSY.out 7 _ rfl)
            have e8 : w9.cell? ⟨tb, to + j * 9 + 8, none⟩ = some (.int .i64 y8) := (hJ.cell (p := ⟨tb, to + j * 9 + 8, none⟩) HTL.out).trans (HSY.out 8 _ rfl)
            clear hdep ho hJ
            try simp only [fill, slotOf, List.size_toArray, List.length_cons, List.length_nil, Nat.reduceAdd, List.getElem?_toArray, List.getElem?_cons_zero, List.getElem?_cons_succ, Option.bind_some, Act.put, List.setIfInBounds_toArray, List.set_cons_zero, List.set_cons_succ] at hK ⊢
            rw [d8] at hK ⊢
            go_simp
            exact hK (.agg #[.string y0, .int .i64 y1, .string y2, .int .i64 y3, .int .i64 y4, .int .i64 y5, .int .i64 y6, .int .u32 y7, .int .i64 y8]) _ HJ.out rfl (fun j y h => h) _ rfl
          · obtain rfl := Option.some.inj ho.symm
            have d4 : V 4 = .agg #[.string x0, .int .i64 x1, .string x2, .int .i64 x3, .int .i64 x4, .int .i64 x5, .int .i64 x6, .int .u32 x7, .int .i64 x8] := hdep ⟨4, .data⟩ (by simp) rfl
            have d9 : V 9 = .agg #[.string y0, .int .i64 y1, .string y2, .int .i64 y3, .int .i64 y4, .int .i64 y5, .int .i64 y6, .int .u32 y7, .int .i64 y8] := hdep ⟨9, .data⟩ (by simp) rfl
            have hq9 : sqE ⟨x0, x1, x2, x3, x4, x5, x6, x7, x8⟩ ⟨y0, y1, y2, y3, y4, y5, y6, y7, y8⟩ = false := HQ.out
            clear hdep ho hJ
            try simp only [fill, slotOf, List.size_toArray, List.length_cons, List.length_nil, Nat.reduceAdd, List.getElem?_toArray, List.getElem?_cons_zero, List.getElem?_cons_succ, Option.bind_some, Act.put, List.setIfInBounds_toArray, List.set_cons_zero, List.set_cons_succ] at hK ⊢
            rw [d4, d9] at hK ⊢
            refine step_neq9 (b := true) (by rfl) (by rfl) (by rfl) (by rfl) (guard9_E _ _ _ _ _) (by rw [neq9_E, hq9]; rfl) ?_
            exact hK (.bool true) _ HJ.out rfl (fun j y h => h) _ rfl
        · intro V w9 hJ hall
          have dL : V 10 = .bool true := hall 10 (by decide)
          have HJ9 := Lib.hid hJ
          clear hall hJ
          simp only [fill, slotOf, List.size_toArray, List.length_cons, List.length_nil, Nat.reduceAdd, List.getElem?_toArray, List.getElem?_cons_zero, List.getElem?_cons_succ, Option.bind_some, Act.put, List.setIfInBounds_toArray, List.set_cons_zero, List.set_cons_succ]
          rw [dL]
          clear dL
          have HBZ := Lib.hid (HBW.out.trans ((HB.out.trans (HJ9.out.mono HB.out.size)).mono HBW.out.size))
          go_wp2_with fail
          go_ret
          exact ⟨HNO.out, HBZ.out⟩
      | true =>
        have HQ := Lib.hid hq
        have HU2 := Lib.hid (show ∀ i, i < j + 1 → le.getD i EntS.z = le2.getD i EntS.z from fun i hi => by
          rcases Nat.lt_or_ge i j with g | g
          · exact HU.out i g
          · obtain rfl : i = j := by omega
            rw [← HX.out, ← HY.out]
            exact (sqE_iff ⟨x0, x1, x2, x3, x4, x5, x6, x7, x8⟩ ⟨y0, y1, y2, y3, y4, y5, y6, y7, y8⟩).1 hq)
        clear hq
        refine wp_region_fill (by kernel_rfl) (by kernel_rfl) (by kernel_rfl) (Below wr.heap.size wr) (FV (fun j_9 => match j_9 with | 0 => some (.pointer (some ⟨w.heap.size, 3, none⟩)) | 1 => some (.slice (some ⟨sb, so, none⟩) en ec) | 2 => some (.int .i64 (j : Int)) | 3 => some (.pointer (some ⟨sb, so + j * 9, none⟩)) | 4 => some (.agg #[.string x0, .int .i64 x1, .string x2, .int .i64 x3, .int .i64 x4, .int .i64 x5, .int .i64 x6, .int .u32 x7, .int .i64 x8]) | 5 => some (.pointer (some ⟨w.heap.size + 1, 3, none⟩)) | 6 => some (.slice (some ⟨tb, to, none⟩) en ed) | 7 => some (.int .i64 (j : Int)) | 8 => some (.pointer (some ⟨tb, to + j * 9, none⟩)) | 9 => some (.agg #[.string y0, .int .i64 y1, .string y2, .int .i64 y3, .int .i64 y4, .int .i64 y5, .int .i64 y6, .int .u32 y7, .int .i64 y8]) | 10 => some (.bool false) | _ => none) (fun _ _ => True)) (Below.refl _ _).drew ?_ ?_
        · intro i9 o ho V w9 K hJ hdep hK
          have HJ := Lib.hid hJ
          simp only [fill, slotOf, List.size_toArray, List.length_cons, List.length_nil, Nat.reduceAdd, List.getElem?_toArray, List.getElem?_cons_zero, List.getElem?_cons_succ, Option.bind_some, Act.put, List.setIfInBounds_toArray, List.set_cons_zero, List.set_cons_succ] at hK ⊢
          have hin : i9 < 11 := (Array.getElem?_eq_some_iff.1 ho).1
          have hcs : i9 = 0 ∨ i9 = 1 ∨ i9 = 2 ∨ i9 = 3 ∨ i9 = 4 ∨ i9 = 5 ∨ i9 = 6 ∨ i9 = 7 ∨ i9 = 8 ∨ i9 = 9 ∨ i9 = 10 := by omega
          clear hin
          rcases hcs with rfl | rfl | rfl | rfl | rfl | rfl | rfl | rfl | rfl | rfl | rfl
          · obtain rfl := Option.some.inj ho.symm
            clear hdep ho hJ
            try simp only [fill, slotOf, List.size_toArray, List.length_cons, List.length_nil, Nat.reduceAdd, List.getElem?_toArray, List.getElem?_cons_zero, List.getElem?_cons_succ, Option.bind_some, Act.put, List.setIfInBounds_toArray, List.set_cons_zero, List.set_cons_succ] at hK ⊢
            go_simp
            exact hK (.pointer (some ⟨w.heap.size, 3, none⟩)) _ HJ.out rfl (fun j y h => h) _ rfl
          · obtain rfl := Option.some.inj ho.symm
            have d0 : V 0 = .pointer (some ⟨w.heap.size, 3, none⟩) := hdep ⟨0, .data⟩ (by simp) rfl
            have q1 : w9.cell? ⟨w.heap.size, 3, none⟩ = some (.slice (some ⟨sb, so, none⟩) en ec) := (hJ.cell (p := ⟨w.heap.size, 3, none⟩) HL1.out).trans (cell_blkS HK1.out rfl)
            clear hdep ho hJ
            try simp only [fill, slotOf, List.size_toArray, List.length_cons, List.length_nil, Nat.reduceAdd, List.getElem?_toArray, List.getElem?_cons_zero, List.getElem?_cons_succ, Option.bind_some, Act.put, List.setIfInBounds_toArray, List.set_cons_zero, List.set_cons_succ] at hK ⊢
            rw [d0] at hK ⊢
            go_simp
            exact hK (.slice (some ⟨sb, so, none⟩) en ec) _ HJ.out rfl (fun j y h => h) _ rfl
          · obtain rfl := Option.some.inj ho.symm
            clear hdep ho hJ
            try simp only [fill, slotOf, List.size_toArray, List.length_cons, List.length_nil, Nat.reduceAdd, List.getElem?_toArray, List.getElem?_cons_zero, List.getElem?_cons_succ, Option.bind_some, Act.put, List.setIfInBounds_toArray, List.set_cons_zero, List.set_cons_succ] at hK ⊢
            go_simp
            exact hK (.int .i64 (j : Int)) _ HJ.out rfl (fun j y h => h) _ rfl
          · obtain rfl := Option.some.inj ho.symm
            have d1 : V 1 = .slice (some ⟨sb, so, none⟩) en ec := hdep ⟨1, .data⟩ (by simp) rfl
            have d2 : V 2 = .int .i64 (j : Int) := hdep ⟨2, .data⟩ (by simp) rfl
            have hb9 : j < en := HJN.out
            have hb8 : (j : Int) < (en : Int) := by omega
            clear hdep ho hJ
            try simp only [fill, slotOf, List.size_toArray, List.length_cons, List.length_nil, Nat.reduceAdd, List.getElem?_toArray, List.getElem?_cons_zero, List.getElem?_cons_succ, Option.bind_some, Act.put, List.setIfInBounds_toArray, List.set_cons_zero, List.set_cons_succ] at hK ⊢
            rw [d1, d2] at hK ⊢
            go_simp
            exact hK (.pointer (some ⟨sb, so + j * 9, none⟩)) _ HJ.out rfl (fun j y h => h) _ rfl
          · obtain rfl := Option.some.inj ho.symm
            have d3 : V 3 = .pointer (some ⟨sb, so + j * 9, none⟩) := hdep ⟨3, .data⟩ (by simp) rfl
            have e0 : w9.cell? ⟨sb, so + j * 9, none⟩ = some (.string x0) := (hJ.cell (p := ⟨sb, so + j * 9 + 0, none⟩) HSL.out).trans (HSX.out 0 _ rfl)
            have e1 : w9.cell? ⟨sb, so + j * 9 + 1, none⟩ = some (.int .i64 x1) := (hJ.cell (p := ⟨sb, so + j * 9 + 1, none⟩) HSL.out).trans (HSX.out 1 _ rfl)
            have e2 : w9.cell? ⟨sb, so + j * 9 + 2, none⟩ = some (.string x2) := (hJ.cell (p := ⟨sb, so + j * 9 + 2, none⟩) HSL.out).trans (HSX.out 2 _ rfl)
            have e3 : w9.cell? ⟨sb, so + j * 9 + 3, none⟩ = some (.int .i64 x3) := (hJ.cell (p := ⟨sb, so + j * 9 + 3, none⟩) HSL.out).trans (HSX.out 3 _ rfl)
            have e4 : w9.cell? ⟨sb, so + j * 9 + 4, none⟩ = some (.int .i64 x4) := (hJ.cell (p := ⟨sb, so + j * 9 + 4, none⟩) HSL.out).trans (HSX.out 4 _ rfl)
            have e5 : w9.cell? ⟨sb, so + j * 9 + 5, none⟩ = some (.int .i64 x5) := (hJ.cell (p := ⟨sb, so + j * 9 + 5, none⟩) HSL.out).trans (HSX.out 5 _ rfl)
            have e6 : w9.cell? ⟨sb, so + j * 9 + 6, none⟩ = some (.int .i64 x6) := (hJ.cell (p := ⟨sb, so + j * 9 + 6, none⟩) HSL.out).trans (HSX.out 6 _ rfl)
            have e7 : w9.cell? ⟨sb, so + j * 9 + 7, none⟩ = some (.int .u32 x7) := (hJ.cell (p := ⟨sb, so + j * 9 + 7, none⟩) HSL.out).trans (HSX.out 7 _ rfl)
            have e8 : w9.cell? ⟨sb, so + j * 9 + 8, none⟩ = some (.int .i64 x8) := (hJ.cell (p := ⟨sb, so + j * 9 + 8, none⟩) HSL.out).trans (HSX.out 8 _ rfl)
            clear hdep ho hJ
            try simp only [fill, slotOf, List.size_toArray, List.length_cons, List.length_nil, Nat.reduceAdd, List.getElem?_toArray, List.getElem?_cons_zero, List.getElem?_cons_succ, Option.bind_some, Act.put, List.setIfInBounds_toArray, List.set_cons_zero, List.set_cons_succ] at hK ⊢
            rw [d3] at hK ⊢
            go_simp
            exact hK (.agg #[.string x0, .int .i64 x1, .string x2, .int .i64 x3, .int .i64 x4, .int .i64 x5, .int .i64 x6, .int .u32 x7, .int .i64 x8]) _ HJ.out rfl (fun j y h => h) _ rfl
          · obtain rfl := Option.some.inj ho.symm
            clear hdep ho hJ
            try simp only [fill, slotOf, List.size_toArray, List.length_cons, List.length_nil, Nat.reduceAdd, List.getElem?_toArray, List.getElem?_cons_zero, List.getElem?_cons_succ, Option.bind_some, Act.put, List.setIfInBounds_toArray, List.set_cons_zero, List.set_cons_succ] at hK ⊢
            go_simp
            exact hK (.pointer (some ⟨w.heap.size + 1, 3, none⟩)) _ HJ.out rfl (fun j y h => h) _ rfl
          · obtain rfl := Option.some.inj ho.symm
            have d5 : V 5 = .pointer (some ⟨w.heap.size + 1, 3, none⟩) := hdep ⟨5, .data⟩ (by simp) rfl
            have q2 : w9.cell? ⟨w.heap.size + 1, 3, none⟩ = some (.slice (some ⟨tb, to, none⟩) en ed) := (hJ.cell (p := ⟨w.heap.size + 1, 3, none⟩) HL2.out).trans (cell_blkS HK2.out rfl)
            clear hdep ho hJ
            try simp only [fill, slotOf, List.size_toArray, List.length_cons, List.length_nil, Nat.reduceAdd, List.getElem?_toArray, List.getElem?_cons_zero, List.getElem?_cons_succ, Option.bind_some, Act.put, List.setIfInBounds_toArray, List.set_cons_zero, List.set_cons_succ] at hK ⊢
            rw [d5] at hK ⊢
            go_simp
            exact hK (.slice (some ⟨tb, to, none⟩) en ed) _ HJ.out rfl (fun j y h => h) _ rfl
          · obtain rfl := Option.some.inj ho.symm
            clear hdep ho hJ
            try simp only [fill, slotOf, List.size_toArray, List.length_cons, List.length_nil, Nat.reduceAdd, List.getElem?_toArray, List.getElem?_cons_zero, List.getElem?_cons_succ, Option.bind_some, Act.put, List.setIfInBounds_toArray, List.set_cons_zero, List.set_cons_succ] at hK ⊢
            go_simp
            exact hK (.int .i64 (j : Int)) _ HJ.out rfl (fun j y h => h) _ rfl
          · obtain rfl := Option.some.inj ho.symm
            have d6 : V 6 = .slice (some ⟨tb, to, none⟩) en ed := hdep ⟨6, .data⟩ (by simp) rfl
            have d7 : V 7 = .int .i64 (j : Int) := hdep ⟨7, .data⟩ (by simp) rfl
            have hb9 : j < en := HJN.out
            have hb8 : (j : Int) < (en : Int) := by omega
            clear hdep ho hJ
            try simp only [fill, slotOf, List.size_toArray, List.length_cons, List.length_nil, Nat.reduceAdd, List.getElem?_toArray, List.getElem?_cons_zero, List.getElem?_cons_succ, Option.bind_some, Act.put, List.setIfInBounds_toArray, List.set_cons_zero, List.set_cons_succ] at hK ⊢
            rw [d6, d7] at hK ⊢
            go_simp
            exact hK (.pointer (some ⟨tb, to + j * 9, none⟩)) _ HJ.out rfl (fun j y h => h) _ rfl
          · obtain rfl := Option.some.inj ho.symm
            have d8 : V 8 = .pointer (some ⟨tb, to + j * 9, none⟩) := hdep ⟨8, .data⟩ (by simp) rfl
            have e0 : w9.cell? ⟨tb, to + j * 9, none⟩ = some (.string y0) := (hJ.cell (p := ⟨tb, to + j * 9 + 0, none⟩) HTL.out).trans (HSY.out 0 _ rfl)
            have e1 : w9.cell? ⟨tb, to + j * 9 + 1, none⟩ = some (.int .i64 y1) := (hJ.cell (p := ⟨tb, to + j * 9 + 1, none⟩) HTL.out).trans (HSY.out 1 _ rfl)
            have e2 : w9.cell? ⟨tb, to + j * 9 + 2, none⟩ = some (.string y2) := (hJ.cell (p := ⟨tb, to + j * 9 + 2, none⟩) HTL.out).trans (HSY.out 2 _ rfl)
            have e3 : w9.cell? ⟨tb, to + j * 9 + 3, none⟩ = some (.int .i64 y3) := (hJ.cell (p := ⟨tb, to + j * 9 + 3, none⟩) HTL.out).trans (HSY.out 3 _ rfl)
            have e4 : w9.cell? ⟨tb, to + j * 9 + 4, none⟩ = some (.int .i64 y4) := (hJ.cell (p := ⟨tb, to + j * 9 + 4, none⟩) HTL.out).trans (HSY.out 4 _ rfl)
            have e5 : w9.cell? ⟨tb, to + j * 9 + 5, none⟩ = some (.int .i64 y5) := (hJ.cell (p := ⟨tb, to + j * 9 + 5, none⟩) HTL.out).trans (HSY.out 5 _ rfl)
            have e6 : w9.cell? ⟨tb, to + j * 9 + 6, none⟩ = some (.int .i64 y6) := (hJ.cell (p := ⟨tb, to + j * 9 + 6, none⟩) HTL.out).trans (HSY.out 6 _ rfl)
            have e7 : w9.cell? ⟨tb, to + j * 9 + 7, none⟩ = some (.int .u32 y7) := (hJ.cell (p := ⟨tb, to + j * 9 + 7, none⟩) HTL.out).trans (HSY.out 7 _ rfl)
            have e8 : w9.cell? ⟨tb, to + j * 9 + 8, none⟩ = some (.int .i64 y8) := (hJ.cell (p := ⟨tb, to + j * 9 + 8, none⟩) HTL.out).trans (HSY.out 8 _ rfl)
            clear hdep ho hJ
            try simp only [fill, slotOf, List.size_toArray, List.length_cons, List.length_nil, Nat.reduceAdd, List.getElem?_toArray, List.getElem?_cons_zero, List.getElem?_cons_succ, Option.bind_some, Act.put, List.setIfInBounds_toArray, List.set_cons_zero, List.set_cons_succ] at hK ⊢
            rw [d8] at hK ⊢
            go_simp
            exact hK (.agg #[.string y0, .int .i64 y1, .string y2, .int .i64 y3, .int .i64 y4, .int .i64 y5, .int .i64 y6, .int .u32 y7, .int .i64 y8]) _ HJ.out rfl (fun j y h => h) _ rfl
          · obtain rfl := Option.some.inj ho.symm
            have d4 : V 4 = .agg #[.string x0, .int .i64 x1, .string x2, .int .i64 x3, .int .i64 x4, .int .i64 x5, .int .i64 x6, .int .u32 x7, .int .i64 x8] := hdep ⟨4, .data⟩ (by simp) rfl
            have d9 : V 9 = .agg #[.string y0, .int .i64 y1, .string y2, .int .i64 y3, .int .i64 y4, .int .i64 y5, .int .i64 y6, .int .u32 y7, .int .i64 y8] := hdep ⟨9, .data⟩ (by simp) rfl
            have hq9 : sqE ⟨x0, x1, x2, x3, x4, x5, x6, x7, x8⟩ ⟨y0, y1, y2, y3, y4, y5, y6, y7, y8⟩ = true := HQ.out
            clear hdep ho hJ
            try simp only [fill, slotOf, List.size_toArray, List.length_cons, List.length_nil, Nat.reduceAdd, List.getElem?_toArray, List.getElem?_cons_zero, List.getElem?_cons_succ, Option.bind_some, Act.put, List.setIfInBounds_toArray, List.set_cons_zero, List.set_cons_succ] at hK ⊢
            rw [d4, d9] at hK ⊢
            refine step_neq9 (b := false) (by rfl) (by rfl) (by rfl) (by rfl) (guard9_E _ _ _ _ _) (by rw [neq9_E, hq9]; rfl) ?_
            exact hK (.bool false) _ HJ.out rfl (fun j y h => h) _ rfl
        · intro V w9 hJ hall
          have dL : V 10 = .bool false := hall 10 (by decide)
          have HJ9 := Lib.hid hJ
          clear hall hJ
          simp only [fill, slotOf, List.size_toArray, List.length_cons, List.length_nil, Nat.reduceAdd, List.getElem?_toArray, List.getElem?_cons_zero, List.getElem?_cons_succ, Option.bind_some, Act.put, List.setIfInBounds_toArray, List.set_cons_zero, List.set_cons_succ]
          rw [dL]
          clear dL
          have HBZ := Lib.hid (HB.out.trans (HJ9.out.mono HB.out.size))
          go_wp2_with fail
          go_roundw
          case rel => exact ⟨j + 1, by omega, by go_num, HU2, HBZ⟩
          case measure => simp [intOf]; omega
    · obtain rfl : en = j := by omega
      clear hjn
      have HZE := Lib.hid (show le = le2 from list_ext9 EntS.z (by rw [Lle.out, Lle2.out]) (by rw [Lle.out]; exact HU.out))
      have HK1 := Lib.hid ((HB.out.block w.heap.size HW1.out).trans HG1.out)
      have f1 : wr.cell? ⟨w.heap.size, 4, none⟩ = some (.slice ma mn mc) := cell_blkS HK1.out rfl
      clear HU HK1
      go_wp2_with fail
      clear f1
      go_loopw [6, 75] (fun _ sI wr => ∃ j : Nat, j ≤ mn ∧ sI = .int .i64 (j : Int) ∧ Hid (∀ i, i < j → lm.getD i MarkS.z = lm2.getD i MarkS.z) ∧ Hid (Below wx.heap.size wx wr)) (fun _ sI _ => mn - (intOf sI).toNat)
      case atStart => exact ⟨0, by omega, rfl, Lib.hid (fun i hi => absurd hi (Nat.not_lt_zero _)), HB⟩
      case round =>
        obtain ⟨j, hj, rfl, HU, HB⟩ := hrel
        rename World => wr
        by_cases hjn : j < mn
        · have hji : (j : Int) < (mn : Int) := by omega
          obtain ⟨sb, so, rfl, hsl, _, hsx⟩ := (HVM.out.kept (HBW.out.trans (HB.out.mono HBW.out.size))).get hjn
          obtain ⟨tb, to, rfl, htl, _, hsy⟩ := (HVM2.out.kept (HBW.out.trans (HB.out.mono HBW.out.size))).get hjn
          obtain ⟨x, hx⟩ : ∃ x, x = lm.getD j MarkS.z := ⟨_, rfl⟩
          obtain ⟨y, hy⟩ : ∃ y, y = lm2.getD j MarkS.z := ⟨_, rfl⟩
          rw [← hx] at hsx
          rw [← hy] at hsy
          have HX := Lib.hid hx
          have HY := Lib.hid hy
          have HSX := Lib.hid hsx
          have HSY := Lib.hid hsy
          have HSL := Lib.hid hsl
          have HTL := Lib.hid htl
          have HJN := Lib.hid hjn
          have HK1 := Lib.hid ((HB.out.block w.heap.size HW1.out).trans HG1.out)
          have HK2 := Lib.hid ((HB.out.block (w.heap.size + 1) HW2.out).trans HG2.out)
          have HL1 := Lib.hid (Nat.lt_of_lt_of_le HW1.out HB.out.size)
          have HL2 := Lib.hid (Nat.lt_of_lt_of_le HW2.out HB.out.size)
          obtain ⟨x0, x1⟩ := x
          obtain ⟨y0, y1⟩ := y
          clear hx hy hsx hsy hsl htl
          go_wp2_with fail
          cases hq : sqM (x0, x1) (y0, y1) with
          | false =>
            have HQ := Lib.hid hq
            have HNO := Lib.hid (SameIs.no (fun e => by
              have e9 : lm = lm2 := e.2.2.2.2.1
              have h1 : (x0, x1) = lm.getD j MarkS.z := HX.out
              have h2 : (y0, y1) = lm2.getD j MarkS.z := HY.out
              rw [e9, ← h2] at h1
              rw [(sqM_iff (x0, x1) (y0, y1)).2 h1] at hq
              cases hq) : SameIs s s d d hz hz le le2 lm lm2 lo lo2 (.returned (.bool false)))
            clear hq
            refine wp_region_fill (by kernel_rfl) (by kernel_rfl) (by kernel_rfl) (Below wr.heap.size wr) (FV (fun j_9 => match j_9 with | 0 => some (.pointer (some ⟨w.heap.size, 4, none⟩)) | 1 => some (.slice (some ⟨sb, so, none⟩) mn mc) | 2 => some (.int .i64 (j : Int)) | 3 => some (.pointer (some ⟨sb, so + j * 2, none⟩)) | 4 => some (.agg #[.int .i64 x0, .int .i64 x1]) | 5 => some (.pointer (some ⟨w.heap.size + 1, 4, none⟩)) | 6 => some (.slice (some ⟨tb, to, none⟩) mn md) | 7 => some (.int .i64 (j : Int)) | 8 => some (.pointer (some ⟨tb, to + j * 2, none⟩)) | 9 => some (.agg #[.int .i64 y0, .int .i64 y1]) | 10 => some (.bool true) | _ => none) (fun _ _ => True)) (Below.refl _ _).drew ?_ ?_
            · intro i9 o ho V w9 K hJ hdep hK
              have HJ := Lib.hid hJ
              simp only [fill, slotOf, List.size_toArray, List.length_cons, List.length_nil, Nat.reduceAdd, List.getElem?_toArray, List.getElem?_cons_zero, List.getElem?_cons_succ, Option.bind_some, Act.put, List.setIfInBounds_toArray, List.set_cons_zero, List.set_cons_succ] at hK ⊢
              have hin : i9 < 11 := (Array.getElem?_eq_some_iff.1 ho).1
              have hcs : i9 = 0 ∨ i9 = 1 ∨ i9 = 2 ∨ i9 = 3 ∨ i9 = 4 ∨ i9 = 5 ∨ i9 = 6 ∨ i9 = 7 ∨ i9 = 8 ∨ i9 = 9 ∨ i9 = 10 := by omega
              clear hin
              rcases hcs with rfl | rfl | rfl | rfl | rfl | rfl | rfl | rfl | rfl | rfl | rfl
              · obtain rfl := Option.some.inj ho.symm
                clear hdep ho hJ
                try simp only [fill, slotOf, List.size_toArray, List.length_cons, List.length_nil, Nat.reduceAdd, List.getElem?_toArray, List.getElem?_cons_zero, List.getElem?_cons_succ, Option.bind_some, Act.put, List.setIfInBounds_toArray, List.set_cons_zero, List.set_cons_succ] at hK ⊢
                go_simp
                exact hK (.pointer (some ⟨w.heap.size, 4, none⟩)) _ HJ.out rfl (fun j y h => h) _ rfl
              · obtain rfl := Option.some.inj ho.symm
                have d0 : V 0 = .pointer (some ⟨w.heap.size, 4, none⟩) := hdep ⟨0, .data⟩ (by simp) rfl
                have q1 : w9.cell? ⟨w.heap.size, 4, none⟩ = some (.slice (some ⟨sb, so, none⟩) mn mc) := (hJ.cell (p := ⟨w.heap.size, 4, none⟩) HL1.out).trans (cell_blkS HK1.out rfl)
                clear hdep ho hJ
                try simp only [fill, slotOf, List.size_toArray, List.length_cons, List.length_nil, Nat.reduceAdd, List.getElem?_toArray, List.getElem?_cons_zero, List.getElem?_cons_succ, Option.bind_some, Act.put, List.setIfInBounds_toArray, List.set_cons_zero, List.set_cons_succ] at hK ⊢
                rw [d0] at hK ⊢
                go_simp
                exact hK (.slice (some ⟨sb, so, none⟩) mn mc) _ HJ.out rfl (fun j y h => h) _ rfl
              · obtain rfl := Option.some.inj ho.symm
                clear hdep ho hJ
                try simp only [fill, slotOf, List.size_toArray, List.length_cons, List.length_nil, Nat.reduceAdd, List.getElem?_toArray, List.getElem?_cons_zero, List.getElem?_cons_succ, Option.bind_some, Act.put, List.setIfInBounds_toArray, List.set_cons_zero, List.set_cons_succ] at hK ⊢
                go_simp
                exact hK (.int .i64 (j : Int)) _ HJ.out rfl (fun j y h => h) _ rfl
              · obtain rfl := Option.some.inj ho.symm
                have d1 : V 1 = .slice (some ⟨sb, so, none⟩) mn mc := hdep ⟨1, .data⟩ (by simp) rfl
                have d2 : V 2 = .int .i64 (j : Int) := hdep ⟨2, .data⟩ (by simp) rfl
                have hb9 : j < mn := HJN.out
                have hb8 : (j : Int) < (mn : Int) := by omega
                clear hdep ho hJ
                try simp only [fill, slotOf, List.size_toArray, List.length_cons, List.length_nil, Nat.reduceAdd, List.getElem?_toArray, List.getElem?_cons_zero, List.getElem?_cons_succ, Option.bind_some, Act.put, List.setIfInBounds_toArray, List.set_cons_zero, List.set_cons_succ] at hK ⊢
                rw [d1, d2] at hK ⊢
                go_simp
                exact hK (.pointer (some ⟨sb, so + j * 2, none⟩)) _ HJ.out rfl (fun j y h => h) _ rfl
              · obtain rfl := Option.some.inj ho.symm
                have d3 : V 3 = .pointer (some ⟨sb, so + j * 2, none⟩) := hdep ⟨3, .data⟩ (by simp) rfl
                have e0 : w9.cell? ⟨sb, so + j * 2, none⟩ = some (.int .i64 x0) := (hJ.cell (p := ⟨sb, so + j * 2 + 0, none⟩) HSL.out).trans (HSX.out 0 _ rfl)
                have e1 : w9.cell? ⟨sb, so + j * 2 + 1, none⟩ = some (.int .i64 x1) := (hJ.cell (p := ⟨sb, so + j * 2 + 1, none⟩) HSL.out).trans (HSX.out 1 _ rfl)
                clear hdep ho hJ
                try simp only [fill, slotOf, List.size_toArray, List.length_cons, List.length_nil, Nat.reduceAdd, List.getElem?_toArray, List.getElem?_cons_zero, List.getElem?_cons_succ, Option.bind_some, Act.put, List.setIfInBounds_toArray, List.set_cons_zero, List.set_cons_succ] at hK ⊢
                rw [d3] at hK ⊢
                go_simp
                exact hK (.agg #[.int .i64 x0, .int .i64 x1]) _ HJ.out rfl (fun j y h => h) _ rfl
              · obtain rfl := Option.some.inj ho.symm
                clear hdep ho hJ
                try simp only [fill, slotOf, List.size_toArray, List.length_cons, List.length_nil, Nat.reduceAdd, List.getElem?_toArray, List.getElem?_cons_zero, List.getElem?_cons_succ, Option.bind_some, Act.put, List.setIfInBounds_toArray, List.set_cons_zero, List.set_cons_succ] at hK ⊢
                go_simp
                exact hK (.pointer (some ⟨w.heap.size + 1, 4, none⟩)) _ HJ.out rfl (fun j y h => h) _ rfl
              · obtain rfl := Option.some.inj ho.symm
                have d5 : V 5 = .pointer (some ⟨w.heap.size + 1, 4, none⟩) := hdep ⟨5, .data⟩ (by simp) rfl
                have q2 : w9.cell? ⟨w.heap.size + 1, 4, none⟩ = some (.slice (some ⟨tb, to, none⟩) mn md) := (hJ.cell (p := ⟨w.heap.size + 1, 4, none⟩) HL2.out).trans (cell_blkS HK2.out rfl)
                clear hdep ho hJ
                try simp only [fill, slotOf, List.size_toArray, List.length_cons, List.length_nil, Nat.reduceAdd, List.getElem?_toArray, List.getElem?_cons_zero, List.getElem?_cons_succ, Option.bind_some, Act.put, List.setIfInBounds_toArray, List.set_cons_zero, List.set_cons_succ] at hK ⊢
                rw [d5] at hK ⊢
                go_simp
                exact hK (.slice (some ⟨tb, to, none⟩) mn md) _ HJ.out rfl (fun j y h => h) _ rfl
              · obtain rfl := Option.some.inj ho.symm
                clear hdep ho hJ
                try simp only [fill, slotOf, List.size_toArray, List.length_cons, List.length_nil, Nat.reduceAdd, List.getElem?_toArray, List.getElem?_cons_zero, List.getElem?_cons_succ, Option.bind_some, Act.put, List.setIfInBounds_toArray, List.set_cons_zero, List.set_cons_succ] at hK ⊢
                go_simp
                exact hK (.int .i64 (j : Int)) _ HJ.out rfl (fun j y h => h) _ rfl
              · obtain rfl := Option.some.inj ho.symm
                have d6 : V 6 = .slice (some ⟨tb, to, none⟩) mn md := hdep ⟨6, .data⟩ (by simp) rfl
                have d7 : V 7 = .int .i64 (j : Int) := hdep ⟨7, .data⟩ (by simp) rfl
                have hb9 : j < mn := HJN.out
                have hb8 : (j : Int) < (mn : Int) := by omega
                clear hdep ho hJ
                try simp only [fill, slotOf, List.size_toArray, List.length_cons, List.length_nil, Nat.reduceAdd, List.getElem?_toArray, List.getElem?_cons_zero, List.getElem?_cons_succ, Option.bind_some, Act.put, List.setIfInBounds_toArray, List.set_cons_zero, List.set_cons_succ] at hK ⊢
                rw [d6, d7] at hK ⊢
                go_simp
                exact hK (.pointer (some ⟨tb, to + j * 2, none⟩)) _ HJ.out rfl (fun j y h => h) _ rfl
              · obtain rfl := Option.some.inj ho.symm
                have d8 : V 8 = .pointer (some ⟨tb, to + j * 2, none⟩) := hdep ⟨8, .data⟩ (by simp) rfl
                have e0 : w9.cell? ⟨tb, to + j * 2, none⟩ = some (.int .i64 y0) := (hJ.cell (p := ⟨tb, to + j * 2 + 0, none⟩) HTL.out).trans (HSY.out 0 _ rfl)
                have e1 : w9.cell? ⟨tb, to + j * 2 + 1, none⟩ = some (.int .i64 y1) := (hJ.cell (p := ⟨tb, to + j * 2 + 1, none⟩) HTL.out).trans (HSY.out 1 _ rfl)
                clear hdep ho hJ
                try simp only [fill, slotOf, List.size_toArray, List.length_cons, List.length_nil, Nat.reduceAdd, List.getElem?_toArray, List.getElem?_cons_zero, List.getElem?_cons_succ, Option.bind_some, Act.put, List.setIfInBounds_toArray, List.set_cons_zero, List.set_cons_succ] at hK ⊢
                rw [d8] at hK ⊢
                go_simp
                exact hK (.agg #[.int .i64 y0, .int .i64 y1]) _ HJ.out rfl (fun j y h => h) _ rfl
              · obtain rfl := Option.some.inj ho.symm
                have d4 : V 4 = .agg #[.int .i64 x0, .int .i64 x1] := hdep ⟨4, .data⟩ (by simp) rfl
                have d9 : V 9 = .agg #[.int .i64 y0, .int .i64 y1] := hdep ⟨9, .data⟩ (by simp) rfl
                have hq9 : sqM (x0, x1) (y0, y1) = false := HQ.out
                clear hdep ho hJ
                try simp only [fill, slotOf, List.size_toArray, List.length_cons, List.length_nil, Nat.reduceAdd, List.getElem?_toArray, List.getElem?_cons_zero, List.getElem?_cons_succ, Option.bind_some, Act.put, List.setIfInBounds_toArray, List.set_cons_zero, List.set_cons_succ] at hK ⊢
                rw [d4, d9] at hK ⊢
                refine step_neq9 (b := true) (by rfl) (by rfl) (by rfl) (by rfl) (guard9_M _ _ _ _ _) (by rw [neq9_M, hq9]; rfl) ?_
                exact hK (.bool true) _ HJ.out rfl (fun j y h => h) _ rfl
            · intro V w9 hJ hall
              have dL : V 10 = .bool true := hall 10 (by decide)
              have HJ9 := Lib.hid hJ
              clear hall hJ
              simp only [fill, slotOf, List.size_toArray, List.length_cons, List.length_nil, Nat.reduceAdd, List.getElem?_toArray, List.getElem?_cons_zero, List.getElem?_cons_succ, Option.bind_some, Act.put, List.setIfInBounds_toArray, List.set_cons_zero, List.set_cons_succ]
              rw [dL]
              clear dL
              have HBZ := Lib.hid (HBW.out.trans ((HB.out.trans (HJ9.out.mono HB.out.size)).mono HBW.out.size))
              go_wp2_with fail
              go_ret
              exact ⟨HNO.out, HBZ.out⟩
          | true =>
            have HQ := Lib.hid hq
            have HU2 := Lib.hid (show ∀ i, i < j + 1 → lm.getD i MarkS.z = lm2.getD i MarkS.z from fun i hi => by
              rcases Nat.lt_or_ge i j with g | g
              · exact HU.out i g
              · obtain rfl : i = j := by omega
                rw [← HX.out, ← HY.out]
                exact (sqM_iff (x0, x1) (y0, y1)).1 hq)
            clear hq
            refine wp_region_fill (by kernel_rfl) (by kernel_rfl) (by kernel_rfl) (Below wr.heap.size wr) (FV (fun j_9 => match j_9 with | 0 => some (.pointer (some ⟨w.heap.size, 4, none⟩)) | 1 => some (.slice (some ⟨sb, so, none⟩) mn mc) | 2 => some (.int .i64 (j : Int)) | 3 => some (.pointer (some ⟨sb, so + j * 2, none⟩)) | 4 => some (.agg #[.int .i64 x0, .int .i64 x1]) | 5 => some (.pointer (some ⟨w.heap.size + 1, 4, none⟩)) | 6 => some (.slice (some ⟨tb, to, none⟩) mn md) | 7 => some (.int .i64 (j : Int)) | 8 => some (.pointer (some ⟨tb, to + j * 2, none⟩)) | 9 => some (.agg #[.int .i64 y0, .int .i64 y1]) | 10 => some (.bool false) | _ => none) (fun _ _ => True)) (Below.refl _ _).drew ?_ ?_
            · intro i9 o ho V w9 K hJ hdep hK
              have HJ := Lib.hid hJ
              simp only [fill, slotOf, List.size_toArray, List.length_cons, List.length_nil, Nat.reduceAdd, List.getElem?_toArray, List.getElem?_cons_zero, List.getElem?_cons_succ, Option.bind_some, Act.put, List.setIfInBounds_toArray, List.set_cons_zero, List.set_cons_succ] at hK ⊢
              have hin : i9 < 11 := (Array.getElem?_eq_some_iff.1 ho).1
              have hcs : i9 = 0 ∨ i9 = 1 ∨ i9 = 2 ∨ i9 = 3 ∨ i9 = 4 ∨ i9 = 5 ∨ i9 = 6 ∨ i9 = 7 ∨ i9 = 8 ∨ i9 = 9 ∨ i9 = 10 := by omega
              clear hin
              rcases hcs with rfl | rfl | rfl | rfl | rfl | rfl | rfl | rfl | rfl | rfl | rfl
              · obtain rfl := Option.some.inj ho.symm
                clear hdep ho hJ
                try simp only [fill, slotOf, List.size_toArray, List.length_cons, List.length_nil, Nat.reduceAdd, List.getElem?_toArray, List.getElem?_cons_zero, List.getElem?_cons_succ, Option.bind_some, Act.put, List.setIfInBounds_toArray, List.set_cons_zero, List.set_cons_succ] at hK ⊢
                go_simp
                exact hK (.pointer (some ⟨w.heap.size, 4, none⟩)) _ HJ.out rfl (fun j y h => h) _ rfl
              · obtain rfl := Option.some.inj ho.symm
                have d0 : V 0 = .pointer (some ⟨w.heap.size, 4, none⟩) := hdep ⟨0, .data⟩ (by simp) rfl
                have q1 : w9.cell? ⟨w.heap.size, 4, none⟩ = some (.slice (some ⟨sb, so, none⟩) mn mc) := (hJ.cell (p := ⟨w.heap.size, 4, none⟩) HL1.out).trans (cell_blkS HK1.out rfl)
                clear hdep ho hJ
                try simp only [fill, slotOf, List.size_toArray, List.length_cons, List.length_nil, Nat.reduceAdd, List.getElem?_toArray, List.getElem?_cons_zero, List.getElem?_cons_succ, Option.bind_some, Act.put, List.setIfInBounds_toArray, List.set_cons_zero, List.set_cons_succ] at hK ⊢
                rw [d0] at hK ⊢
                go_simp
                exact hK (.slice (some ⟨sb, so, none⟩) mn mc) _ HJ.out rfl (fun j y h => h) _ rfl
              · obtain rfl := Option.some.inj ho.symm
                clear hdep ho hJ
                try simp only [fill, slotOf, List.size_toArray, List.length_cons, List.length_nil, Nat.reduceAdd, List.getElem?_toArray, List.getElem?_cons_zero, List.getElem?_cons_succ, Option.bind_some, Act.put, List.setIfInBounds_toArray, List.set_cons_zero, List.set_cons_succ] at hK ⊢
                go_simp
                exact hK (.int .i64 (j : Int)) _ HJ.out rfl (fun j y h => h) _ rfl
              · obtain rfl := Option.some.inj ho.symm
                have d1 : V 1 = .slice (some ⟨sb, so, none⟩) mn mc := hdep ⟨1, .data⟩ (by simp) rfl
                have d2 : V 2 = .int .i64 (j : Int) := hdep ⟨2, .data⟩ (by simp) rfl
                have hb9 : j < mn := HJN.out
                have hb8 : (j : Int) < (mn : Int) := by omega
                clear hdep ho hJ
                try simp only [fill, slotOf, List.size_toArray, List.length_cons, List.length_nil, Nat.reduceAdd, List.getElem?_toArray, List.getElem?_cons_zero, List.getElem?_cons_succ, Option.bind_some, Act.put, List.setIfInBounds_toArray, List.set_cons_zero, List.set_cons_succ] at hK ⊢
                rw [d1, d2] at hK ⊢
                go_simp
                exact hK (.pointer (some ⟨sb, so + j * 2, none⟩)) _ HJ.out rfl (fun j y h => h) _ rfl
              · obtain rfl := Option.some.inj ho.symm
                have d3 : V 3 = .pointer (some ⟨sb, so + j * 2, none⟩) := hdep ⟨3, .data⟩ (by simp) rfl
                have e0 : w9.cell? ⟨sb, so + j * 2, none⟩ = some (.int .i64 x0) := (hJ.cell (p := ⟨sb, so + j * 2 + 0, none⟩) HSL.out).trans (HSX.out 0 _ rfl)
                have e1 : w9.cell? ⟨sb, so + j * 2 + 1, none⟩ = some (.int .i64 x1) := (hJ.cell (p := ⟨sb, so + j * 2 + 1, none⟩) HSL.out).trans (HSX.out 1 _ rfl)
                clear hdep ho hJ
                try simp only [fill, slotOf, List.size_toArray, List.length_cons, List.length_nil, Nat.reduceAdd, List.getElem?_toArray, List.getElem?_cons_zero, List.getElem?_cons_succ, Option.bind_some, Act.put, List.setIfInBounds_toArray, List.set_cons_zero, List.set_cons_succ] at hK ⊢
                rw [d3] at hK ⊢
                go_simp
                exact hK (.agg #[.int .i64 x0, .int .i64 x1]) _ HJ.out rfl (fun j y h => h) _ rfl
              · obtain rfl := Option.some.inj ho.symm
                clear hdep ho hJ
                try simp only [fill, slotOf, List.size_toArray, List.length_cons, List.length_nil, Nat.reduceAdd, List.getElem?_toArray, List.getElem?_cons_zero, List.getElem?_cons_succ, Option.bind_some, Act.put, List.setIfInBounds_toArray, List.set_cons_zero, List.set_cons_succ] at hK ⊢
                go_simp
                exact hK (.pointer (some ⟨w.heap.size + 1, 4, none⟩)) _ HJ.out rfl (fun j y h => h) _ rfl
              · obtain rfl := Option.some.inj ho.symm
                have d5 : V 5 = .pointer (some ⟨w.heap.size + 1, 4, none⟩) := hdep ⟨5, .data⟩ (by simp) rfl
                have q2 : w9.cell? ⟨w.heap.size + 1, 4, none⟩ = some (.slice (some ⟨tb, to, none⟩) mn md) := (hJ.cell (p := ⟨w.heap.size + 1, 4, none⟩) HL2.out).trans (cell_blkS HK2.out rfl)
                clear hdep ho hJ
                try simp only [fill, slotOf, List.size_toArray, List.length_cons, List.length_nil, Nat.reduceAdd, List.getElem?_toArray, List.getElem?_cons_zero, List.getElem?_cons_succ, Option.bind_some, Act.put, List.setIfInBounds_toArray, List.set_cons_zero, List.set_cons_succ] at hK ⊢
                rw [d5] at hK ⊢
                go_simp
                exact hK (.slice (some ⟨tb, to, none⟩) mn md) _ HJ.out rfl (fun j y h => h) _ rfl
              · obtain rfl := Option.some.inj ho.symm
                clear hdep ho hJ
                try simp only [fill, slotOf, List.size_toArray, List.length_cons, List.length_nil, Nat.reduceAdd, List.getElem?_toArray, List.getElem?_cons_zero, List.getElem?_cons_succ, Option.bind_some, Act.put, List.setIfInBounds_toArray, List.set_cons_zero, List.set_cons_succ] at hK ⊢
                go_simp
                exact hK (.int .i64 (j : Int)) _ HJ.out rfl (fun j y h => h) _ rfl
              · obtain rfl := Option.some.inj ho.symm
                have d6 : V 6 = .slice (some ⟨tb, to, none⟩) mn md := hdep ⟨6, .data⟩ (by simp) rfl
                have d7 : V 7 = .int .i64 (j : Int) := hdep ⟨7, .data⟩ (by simp) rfl
                have hb9 : j < mn := HJN.out
                have hb8 : (j : Int) < (mn : Int) := by omega
                clear hdep ho hJ
                try simp only [fill, slotOf, List.size_toArray, List.length_cons, List.length_nil, Nat.reduceAdd, List.getElem?_toArray, List.getElem?_cons_zero, List.getElem?_cons_succ, Option.bind_some, Act.put, List.setIfInBounds_toArray, List.set_cons_zero, List.set_cons_succ] at hK ⊢
                rw [d6, d7] at hK ⊢
                go_simp
                exact hK (.pointer (some ⟨tb, to + j * 2, none⟩)) _ HJ.out rfl (fun j y h => h) _ rfl
              · obtain rfl := Option.some.inj ho.symm
                have d8 : V 8 = .pointer (some ⟨tb, to + j * 2, none⟩) := hdep ⟨8, .data⟩ (by simp) rfl
                have e0 : w9.cell? ⟨tb, to + j * 2, none⟩ = some (.int .i64 y0) := (hJ.cell (p := ⟨tb, to + j * 2 + 0, none⟩) HTL.out).trans (HSY.out 0 _ rfl)
                have e1 : w9.cell? ⟨tb, to + j * 2 + 1, none⟩ = some (.int .i64 y1) := (hJ.cell (p := ⟨tb, to + j * 2 + 1, none⟩) HTL.out).trans (HSY.out 1 _ rfl)
                clear hdep ho hJ
                try simp only [fill, slotOf, List.size_toArray, List.length_cons, List.length_nil, Nat.reduceAdd, List.getElem?_toArray, List.getElem?_cons_zero, List.getElem?_cons_succ, Option.bind_some, Act.put, List.setIfInBounds_toArray, List.set_cons_zero, List.set_cons_succ] at hK ⊢
                rw [d8] at hK ⊢
                go_simp
                exact hK (.agg #[.int .i64 y0, .int .i64 y1]) _ HJ.out rfl (fun j y h => h) _ rfl
              · obtain rfl := Option.some.inj ho.symm
                have d4 : V 4 = .agg #[.int .i64 x0, .int .i64 x1] := hdep ⟨4, .data⟩ (by simp) rfl
                have d9 : V 9 = .agg #[.int .i64 y0, .int .i64 y1] := hdep ⟨9, .data⟩ (by simp) rfl
                have hq9 : sqM (x0, x1) (y0, y1) = true := HQ.out
                clear hdep ho hJ
                try simp only [fill, slotOf, List.size_toArray, List.length_cons, List.length_nil, Nat.reduceAdd, List.getElem?_toArray, List.getElem?_cons_zero, List.getElem?_cons_succ, Option.bind_some, Act.put, List.setIfInBounds_toArray, List.set_cons_zero, List.set_cons_succ] at hK ⊢
                rw [d4, d9] at hK ⊢
                refine step_neq9 (b := false) (by rfl) (by rfl) (by rfl) (by rfl) (guard9_M _ _ _ _ _) (by rw [neq9_M, hq9]; rfl) ?_
                exact hK (.bool false) _ HJ.out rfl (fun j y h => h) _ rfl
            · intro V w9 hJ hall
              have dL : V 10 = .bool false := hall 10 (by decide)
              have HJ9 := Lib.hid hJ
              clear hall hJ
              simp only [fill, slotOf, List.size_toArray, List.length_cons, List.length_nil, Nat.reduceAdd, List.getElem?_toArray, List.getElem?_cons_zero, List.getElem?_cons_succ, Option.bind_some, Act.put, List.setIfInBounds_toArray, List.set_cons_zero, List.set_cons_succ]
              rw [dL]
              clear dL
              have HBZ := Lib.hid (HB.out.trans (HJ9.out.mono HB.out.size))
              go_wp2_with fail
              go_roundw
              case rel => exact ⟨j + 1, by omega, by go_num, HU2, HBZ⟩
              case measure => simp [intOf]; omega
        · obtain rfl : mn = j := by omega
          clear hjn
          have HZM := Lib.hid (show lm = lm2 from list_ext9 MarkS.z (by rw [Llm.out, Llm2.out]) (by rw [Llm.out]; exact HU.out))
          have HK1 := Lib.hid ((HB.out.block w.heap.size HW1.out).trans HG1.out)
          have f1 : wr.cell? ⟨w.heap.size, 5, none⟩ = some (.slice oa on oc) := cell_blkS HK1.out rfl
          clear HU HK1
          go_wp2_with fail
          clear f1
          go_loopw [7, 93] (fun _ sI wr => ∃ j : Nat, j ≤ on ∧ sI = .int .i64 (j : Int) ∧ Hid (∀ i, i < j → lo.getD i OwnS.z = lo2.getD i OwnS.z) ∧ Hid (Below wx.heap.size wx wr)) (fun _ sI _ => on - (intOf sI).toNat)
          case atStart => exact ⟨0, by omega, rfl, Lib.hid (fun i hi => absurd hi (Nat.not_lt_zero _)), HB⟩
          case round =>
            obtain ⟨j, hj, rfl, HU, HB⟩ := hrel
            rename World => wr
            by_cases hjn : j < on
            · have hji : (j : Int) < (on : Int) := by omega
              obtain ⟨sb, so, rfl, hsl, _, hsx⟩ := (HVO.out.kept (HBW.out.trans (HB.out.mono HBW.out.size))).get hjn
              obtain ⟨tb, to, rfl, htl, _, hsy⟩ := (HVO2.out.kept (HBW.out.trans (HB.out.mono HBW.out.size))).get hjn
              obtain ⟨x, hx⟩ : ∃ x, x = lo.getD j OwnS.z := ⟨_, rfl⟩
              obtain ⟨y, hy⟩ : ∃ y, y = lo2.getD j OwnS.z := ⟨_, rfl⟩
              rw [← hx] at hsx
              rw [← hy] at hsy
              have HX := Lib.hid hx
              have HY := Lib.hid hy
              have HSX := Lib.hid hsx
              have HSY := Lib.hid hsy
              have HSL := Lib.hid hsl
              have HTL := Lib.hid htl
              have HJN := Lib.hid hjn
              have HK1 := Lib.hid ((HB.out.block w.heap.size HW1.out).trans HG1.out)
              have HK2 := Lib.hid ((HB.out.block (w.heap.size + 1) HW2.out).trans HG2.out)
              have HL1 := Lib.hid (Nat.lt_of_lt_of_le HW1.out HB.out.size)
              have HL2 := Lib.hid (Nat.lt_of_lt_of_le HW2.out HB.out.size)
              obtain ⟨x0, x1, x2⟩ := x
              obtain ⟨y0, y1, y2⟩ := y
              clear hx hy hsx hsy hsl htl
              go_wp2_with fail
              cases hq : sqO (x0, x1, x2) (y0, y1, y2) with
              | false =>
                have HQ := Lib.hid hq
                have HNO := Lib.hid (SameIs.no (fun e => by
                  have e9 : lo = lo2 := e.2.2.2.2.2
                  have h1 : (x0, x1, x2) = lo.getD j OwnS.z := HX.out
                  have h2 : (y0, y1, y2) = lo2.getD j OwnS.z := HY.out
                  rw [e9, ← h2] at h1
                  rw [(sqO_iff (x0, x1, x2) (y0, y1, y2)).2 h1] at hq
                  cases hq) : SameIs s s d d hz hz le le2 lm lm2 lo lo2 (.returned (.bool false)))
                clear hq
                refine wp_region_fill (by kernel_rfl) (by kernel_rfl) (by kernel_rfl) (Below wr.heap.size wr) (FV (fun j_9 => match j_9 with | 0 => some (.pointer (some ⟨w.heap.size, 5, none⟩)) | 1 => some (.slice (some ⟨sb, so, none⟩) on oc) | 2 => some (.int .i64 (j : Int)) | 3 => some (.pointer (some ⟨sb, so + j * 3, none⟩)) | 4 => some (.agg #[.int .i64 x0, .int .i64 x1, .int .i64 x2]) | 5 => some (.pointer (some ⟨w.heap.size + 1, 5, none⟩)) | 6 => some (.slice (some ⟨tb, to, none⟩) on od) | 7 => some (.int .i64 (j : Int)) | 8 => some (.pointer (some ⟨tb, to + j * 3, none⟩)) | 9 => some (.agg #[.int .i64 y0, .int .i64 y1, .int .i64 y2]) | 10 => some (.bool true) | _ => none) (fun _ _ => True)) (Below.refl _ _).drew ?_ ?_
                · intro i9 o ho V w9 K hJ hdep hK
                  have HJ := Lib.hid hJ
                  simp only [fill, slotOf, List.size_toArray, List.length_cons, List.length_nil, Nat.reduceAdd, List.getElem?_toArray, List.getElem?_cons_zero, List.getElem?_cons_succ, Option.bind_some, Act.put, List.setIfInBounds_toArray, List.set_cons_zero, List.set_cons_succ] at hK ⊢
                  have hin : i9 < 11 := (Array.getElem?_eq_some_iff.1 ho).1
                  have hcs : i9 = 0 ∨ i9 = 1 ∨ i9 = 2 ∨ i9 = 3 ∨ i9 = 4 ∨ i9 = 5 ∨ i9 = 6 ∨ i9 = 7 ∨ i9 = 8 ∨ i9 = 9 ∨ i9 = 10 := by omega
                  clear hin
                  rcases hcs with rfl | rfl | rfl | rfl | rfl | rfl | rfl | rfl | rfl | rfl | rfl
                  · obtain rfl := Option.some.inj ho.symm
                    clear hdep ho hJ
                    try simp only [fill, slotOf, List.size_toArray, List.length_cons, List.length_nil, Nat.reduceAdd, List.getElem?_toArray, List.getElem?_cons_zero, List.getElem?_cons_succ, Option.bind_some, Act.put, List.setIfInBounds_toArray, List.set_cons_zero, List.set_cons_succ] at hK ⊢
                    go_simp
                    exact hK (.pointer (some ⟨w.heap.size, 5, none⟩)) _ HJ.out rfl (fun j y h => h) _ rfl
                  · obtain rfl := Option.some.inj ho.symm
                    have d0 : V 0 = .pointer (some ⟨w.heap.size, 5, none⟩) := hdep ⟨0, .data⟩ (by simp) rfl
                    have q1 : w9.cell? ⟨w.heap.size, 5, none⟩ = some (.slice (some ⟨sb, so, none⟩) on oc) := (hJ.cell (p := ⟨w.heap.size, 5, none⟩) HL1.out).trans (cell_blkS HK1.out rfl)
                    clear hdep ho hJ
                    try simp only [fill, slotOf, List.size_toArray, List.length_cons, List.length_nil, Nat.reduceAdd, List.getElem?_toArray, List.getElem?_cons_zero, List.getElem?_cons_succ, Option.bind_some, Act.put, List.setIfInBounds_toArray, List.set_cons_zero, List.set_cons_succ] at hK ⊢
                    rw [d0] at hK ⊢
                    go_simp
                    exact hK (.slice (some ⟨sb, so, none⟩) on oc) _ HJ.out rfl (fun j y h => h) _ rfl
                  · obtain rfl := Option.some.inj ho.symm
                    clear hdep ho hJ
                    try simp only [fill, slotOf, List.size_toArray, List.length_cons, List.length_nil, Nat.reduceAdd, List.getElem?_toArray, List.getElem?_cons_zero, List.getElem?_cons_succ, Option.bind_some, Act.put, List.setIfInBounds_toArray, List.set_cons_zero, List.set_cons_succ] at hK ⊢
                    go_simp
                    exact hK (.int .i64 (j : Int)) _ HJ.out rfl (fun j y h => h) _ rfl
                  · obtain rfl := Option.some.inj ho.symm
                    have d1 : V 1 = .slice (some ⟨sb, so, none⟩) on oc := hdep ⟨1, .data⟩ (by simp) rfl
                    have d2 : V 2 = .int .i64 (j : Int) := hdep ⟨2, .data⟩ (by simp) rfl
                    have hb9 : j < on := HJN.out
                    have hb8 : (j : Int) < (on : Int) := by omega
                    clear hdep ho hJ
                    try simp only [fill, slotOf, List.size_toArray, List.length_cons, List.length_nil, Nat.reduceAdd, List.getElem?_toArray, List.getElem?_cons_zero, List.getElem?_cons_succ, Option.bind_some, Act.put, List.setIfInBounds_toArray, List.set_cons_zero, List.set_cons_succ] at hK ⊢
                    rw [d1, d2] at hK ⊢
                    go_simp
                    exact hK (.pointer (some ⟨sb, so + j * 3, none⟩)) _ HJ.out rfl (fun j y h => h) _ rfl
                  · obtain rfl := Option.some.inj ho.symm
                    have d3 : V 3 = .pointer (some ⟨sb, so + j * 3, none⟩) := hdep ⟨3, .data⟩ (by simp) rfl
                    have e0 : w9.cell? ⟨sb, so + j * 3, none⟩ = some (.int .i64 x0) := (hJ.cell (p := ⟨sb, so + j * 3 + 0, none⟩) HSL.out).trans (HSX.out 0 _ rfl)
                    have e1 : w9.cell? ⟨sb, so + j * 3 + 1, none⟩ = some (.int .i64 x1) := (hJ.cell (p := ⟨sb, so + j * 3 + 1, none⟩) HSL.out).trans (HSX.out 1 _ rfl)
                    have e2 : w9.cell? ⟨sb, so + j * 3 + 2, none⟩ = some (.int .i64 x2) := (hJ.cell (p := ⟨sb, so + j * 3 + 2, none⟩) HSL.out).trans (HSX.out 2 _ rfl)
                    clear hdep ho hJ
                    try simp only [fill, slotOf, List.size_toArray, List.length_cons, List.length_nil, Nat.reduceAdd, List.getElem?_toArray, List.getElem?_cons_zero, List.getElem?_cons_succ, Option.bind_some, Act.put, List.setIfInBounds_toArray, List.set_cons_zero, List.set_cons_succ] at hK ⊢
                    rw [d3] at hK ⊢
                    go_simp
                    exact hK (.agg #[.int .i64 x0, .int .i64 x1, .int .i64 x2]) _ HJ.out rfl (fun j y h => h) _ rfl
                  · obtain rfl := Option.some.inj ho.symm
                    clear hdep ho hJ
                    try simp only [fill, slotOf, List.size_toArray, List.length_cons, List.length_nil, Nat.reduceAdd, List.getElem?_toArray, List.getElem?_cons_zero, List.getElem?_cons_succ, Option.bind_some, Act.put, List.setIfInBounds_toArray, List.set_cons_zero, List.set_cons_succ] at hK ⊢
                    go_simp
                    exact hK (.pointer (some ⟨w.heap.size + 1, 5, none⟩)) _ HJ.out rfl (fun j y h => h) _ rfl
                  · obtain rfl := Option.some.inj ho.symm
                    have d5 : V 5 = .pointer (some ⟨w.heap.size + 1, 5, none⟩) := hdep ⟨5, .data⟩ (by simp) rfl
                    have q2 : w9.cell? ⟨w.heap.size + 1, 5, none⟩ = some (.slice (some ⟨tb, to, none⟩) on od) := (hJ.cell (p := ⟨w.heap.size + 1, 5, none⟩) HL2.out).trans (cell_blkS HK2.out rfl)
                    clear hdep ho hJ
                    try simp only [fill, slotOf, List.size_toArray, List.length_cons, List.length_nil, Nat.reduceAdd, List.getElem?_toArray, List.getElem?_cons_zero, List.getElem?_cons_succ, Option.bind_some, Act.put, List.setIfInBounds_toArray, List.set_cons_zero, List.set_cons_succ] at hK ⊢
                    rw [d5] at hK ⊢
                    go_simp
                    exact hK (.slice (some ⟨tb, to, none⟩) on od) _ HJ.out rfl (fun j y h => h) _ rfl
                  · obtain rfl := Option.some.inj ho.symm
                    clear hdep ho hJ
                    try simp only [fill, slotOf, List.size_toArray, List.length_cons, List.length_nil, Nat.reduceAdd, List.getElem?_toArray, List.getElem?_cons_zero, List.getElem?_cons_succ, Option.bind_some, Act.put, List.setIfInBounds_toArray, List.set_cons_zero, List.set_cons_succ] at hK ⊢
                    go_simp
                    exact hK (.int .i64 (j : Int)) _ HJ.out rfl (fun j y h => h) _ rfl
                  · obtain rfl := Option.some.inj ho.symm
                    have d6 : V 6 = .slice (some ⟨tb, to, none⟩) on od := hdep ⟨6, .data⟩ (by simp) rfl
                    have d7 : V 7 = .int .i64 (j : Int) := hdep ⟨7, .data⟩ (by simp) rfl
                    have hb9 : j < on := HJN.out
                    have hb8 : (j : Int) < (on : Int) := by omega
                    clear hdep ho hJ
                    try simp only [fill, slotOf, List.size_toArray, List.length_cons, List.length_nil, Nat.reduceAdd, List.getElem?_toArray, List.getElem?_cons_zero, List.getElem?_cons_succ, Option.bind_some, Act.put, List.setIfInBounds_toArray, List.set_cons_zero, List.set_cons_succ] at hK ⊢
                    rw [d6, d7] at hK ⊢
                    go_simp
                    exact hK (.pointer (some ⟨tb, to + j * 3, none⟩)) _ HJ.out rfl (fun j y h => h) _ rfl
                  · obtain rfl := Option.some.inj ho.symm
                    have d8 : V 8 = .pointer (some ⟨tb, to + j * 3, none⟩) := hdep ⟨8, .data⟩ (by simp) rfl
                    have e0 : w9.cell? ⟨tb, to + j * 3, none⟩ = some (.int .i64 y0) := (hJ.cell (p := ⟨tb, to + j * 3 + 0, none⟩) HTL.out).trans (HSY.out 0 _ rfl)
                    have e1 : w9.cell? ⟨tb, to + j * 3 + 1, none⟩ = some (.int .i64 y1) := (hJ.cell (p := ⟨tb, to + j * 3 + 1, none⟩) HTL.out).trans (HSY.out 1 _ rfl)
                    have e2 : w9.cell? ⟨tb, to + j * 3 + 2, none⟩ = some (.int .i64 y2) := (hJ.cell (p := ⟨tb, to + j * 3 + 2, none⟩) HTL.out).trans (HSY.out 2 _ rfl)
                    clear hdep ho hJ
                    try simp only [fill, slotOf, List.size_toArray, List.length_cons, List.length_nil, Nat.reduceAdd, List.getElem?_toArray, List.getElem?_cons_zero, List.getElem?_cons_succ, Option.bind_some, Act.put, List.setIfInBounds_toArray, List.set_cons_zero, List.set_cons_succ] at hK ⊢
                    rw [d8] at hK ⊢
                    go_simp
                    exact hK (.agg #[.int .i64 y0, .int .i64 y1, .int .i64 y2]) _ HJ.out rfl (fun j y h => h) _ rfl
                  · obtain rfl := Option.some.inj ho.symm
                    have d4 : V 4 = .agg #[.int .i64 x0, .int .i64 x1, .int .i64 x2] := hdep ⟨4, .data⟩ (by simp) rfl
                    have d9 : V 9 = .agg #[.int .i64 y0, .int .i64 y1, .int .i64 y2] := hdep ⟨9, .data⟩ (by simp) rfl
                    have hq9 : sqO (x0, x1, x2) (y0, y1, y2) = false := HQ.out
                    clear hdep ho hJ
                    try simp only [fill, slotOf, List.size_toArray, List.length_cons, List.length_nil, Nat.reduceAdd, List.getElem?_toArray, List.getElem?_cons_zero, List.getElem?_cons_succ, Option.bind_some, Act.put, List.setIfInBounds_toArray, List.set_cons_zero, List.set_cons_succ] at hK ⊢
                    rw [d4, d9] at hK ⊢
                    refine step_neq9 (b := true) (by rfl) (by rfl) (by rfl) (by rfl) (guard9_O _ _ _ _ _) (by rw [neq9_O, hq9]; rfl) ?_
                    exact hK (.bool true) _ HJ.out rfl (fun j y h => h) _ rfl
                · intro V w9 hJ hall
                  have dL : V 10 = .bool true := hall 10 (by decide)
                  have HJ9 := Lib.hid hJ
                  clear hall hJ
                  simp only [fill, slotOf, List.size_toArray, List.length_cons, List.length_nil, Nat.reduceAdd, List.getElem?_toArray, List.getElem?_cons_zero, List.getElem?_cons_succ, Option.bind_some, Act.put, List.setIfInBounds_toArray, List.set_cons_zero, List.set_cons_succ]
                  rw [dL]
                  clear dL
                  have HBZ := Lib.hid (HBW.out.trans ((HB.out.trans (HJ9.out.mono HB.out.size)).mono HBW.out.size))
                  go_wp2_with fail
                  go_ret
                  exact ⟨HNO.out, HBZ.out⟩
              | true =>
                have HQ := Lib.hid hq
                have HU2 := Lib.hid (show ∀ i, i < j + 1 → lo.getD i OwnS.z = lo2.getD i OwnS.z from fun i hi => by
                  rcases Nat.lt_or_ge i j with g | g
                  · exact HU.out i g
                  · obtain rfl : i = j := by omega
                    rw [← HX.out, ← HY.out]
                    exact (sqO_iff (x0, x1, x2) (y0, y1, y2)).1 hq)
                clear hq
                refine wp_region_fill (by kernel_rfl) (by kernel_rfl) (by kernel_rfl) (Below wr.heap.size wr) (FV (fun j_9 => match j_9 with | 0 => some (.pointer (some ⟨w.heap.size, 5, none⟩)) | 1 => some (.slice (some ⟨sb, so, none⟩) on oc) | 2 => some (.int .i64 (j : Int)) | 3 => some (.pointer (some ⟨sb, so + j * 3, none⟩)) | 4 => some (.agg #[.int .i64 x0, .int .i64 x1, .int .i64 x2]) | 5 => some (.pointer (some ⟨w.heap.size + 1, 5, none⟩)) | 6 => some (.slice (some ⟨tb, to, none⟩) on od) | 7 => some (.int .i64 (j : Int)) | 8 => some (.pointer (some ⟨tb, to + j * 3, none⟩)) | 9 => some (.agg #[.int .i64 y0, .int .i64 y1, .int .i64 y2]) | 10 => some (.bool false) | _ => none) (fun _ _ => True)) (Below.refl _ _).drew ?_ ?_
                · intro i9 o ho V w9 K hJ hdep hK
                  have HJ := Lib.hid hJ
                  simp only [fill, slotOf, List.size_toArray, List.length_cons, List.length_nil, Nat.reduceAdd, List.getElem?_toArray, List.getElem?_cons_zero, List.getElem?_cons_succ, Option.bind_some, Act.put, List.setIfInBounds_toArray, List.set_cons_zero, List.set_cons_succ] at hK ⊢
                  have hin : i9 < 11 := (Array.getElem?_eq_some_iff.1 ho).1
                  have hcs : i9 = 0 ∨ i9 = 1 ∨ i9 = 2 ∨ i9 = 3 ∨ i9 = 4 ∨ i9 = 5 ∨ i9 = 6 ∨ i9 = 7 ∨ i9 = 8 ∨ i9 = 9 ∨ i9 = 10 := by omega
                  clear hin
                  rcases hcs with rfl | rfl | rfl | rfl | rfl | rfl | rfl | rfl | rfl | rfl | rfl
                  · obtain rfl := Option.some.inj ho.symm
                    clear hdep ho hJ
                    try simp only [fill, slotOf, List.size_toArray, List.length_cons, List.length_nil, Nat.reduceAdd, List.getElem?_toArray, List.getElem?_cons_zero, List.getElem?_cons_succ, Option.bind_some, Act.put, List.setIfInBounds_toArray, List.set_cons_zero, List.set_cons_succ] at hK ⊢
                    go_simp
                    exact hK (.pointer (some ⟨w.heap.size, 5, none⟩)) _ HJ.out rfl (fun j y h => h) _ rfl
                  · obtain rfl := Option.some.inj ho.symm
                    have d0 : V 0 = .pointer (some ⟨w.heap.size, 5, none⟩) := hdep ⟨0, .data⟩ (by simp) rfl
                    have q1 : w9.cell? ⟨w.heap.size, 5, none⟩ = some (.slice (some ⟨sb, so, none⟩) on oc) := (hJ.cell (p := ⟨w.heap.size, 5, none⟩) HL1.out).trans (cell_blkS HK1.out rfl)
                    clear hdep ho hJ
                    try simp only [fill, slotOf, List.size_toArray, List.length_cons, List.length_nil, Nat.reduceAdd, List.getElem?_toArray, List.getElem?_cons_zero, List.getElem?_cons_succ, Option.bind_some, Act.put, List.setIfInBounds_toArray, List.set_cons_zero, List.set_cons_succ] at hK ⊢
                    rw [d0] at hK ⊢
                    go_simp
                    exact hK (.slice (some ⟨sb, so, none⟩) on oc) _ HJ.out rfl (fun j y h => h) _ rfl
                  · obtain rfl := Option.some.inj ho.symm
                    clear hdep ho hJ
                    try simp only [fill, slotOf, List.size_toArray, List.length_cons, List.length_nil, Nat.reduceAdd, List.getElem?_toArray, List.getElem?_cons_zero, List.getElem?_cons_succ, Option.bind_some, Act.put, List.setIfInBounds_toArray, List.set_cons_zero, List.set_cons_succ] at hK ⊢
                    go_simp
                    exact hK (.int .i64 (j : Int)) _ HJ.out rfl (fun j y h => h) _ rfl
                  · obtain rfl := Option.some.inj ho.symm
                    have d1 : V 1 = .slice (some ⟨sb, so, none⟩) on oc := hdep ⟨1, .data⟩ (by simp) rfl
                    have d2 : V 2 = .int .i64 (j : Int) := hdep ⟨2, .data⟩ (by simp) rfl
                    have hb9 : j < on := HJN.out
                    have hb8 : (j : Int) < (on : Int) := by omega
                    clear hdep ho hJ
                    try simp only [fill, slotOf, List.size_toArray, List.length_cons, List.length_nil, Nat.reduceAdd, List.getElem?_toArray, List.getElem?_cons_zero, List.getElem?_cons_succ, Option.bind_some, Act.put, List.setIfInBounds_toArray, List.set_cons_zero, List.set_cons_succ] at hK ⊢
                    rw [d1, d2] at hK ⊢
                    go_simp
                    exact hK (.pointer (some ⟨sb, so + j * 3, none⟩)) _ HJ.out rfl (fun j y h => h) _ rfl
                  · obtain rfl := Option.some.inj ho.symm
                    have d3 : V 3 = .pointer (some ⟨sb, so + j * 3, none⟩) := hdep ⟨3, .data⟩ (by simp) rfl
                    have e0 : w9.cell? ⟨sb, so + j * 3, none⟩ = some (.int .i64 x0) := (hJ.cell (p := ⟨sb, so + j * 3 + 0, none⟩) HSL.out).trans (HSX.out 0 _ rfl)
                    have e1 : w9.cell? ⟨sb, so + j * 3 + 1, none⟩ = some (.int .i64 x1) := (hJ.cell (p := ⟨sb, so + j * 3 + 1, none⟩) HSL.out).trans (HSX.out 1 _ rfl)
                    have e2 : w9.cell? ⟨sb, so + j * 3 + 2, none⟩ = some (.int .i64 x2) := (hJ.cell (p := ⟨sb, so + j * 3 + 2, none⟩) HSL.out).trans (HSX.out 2 _ rfl)
                    clear hdep ho hJ
                    try simp only [fill, slotOf, List.size_toArray, List.length_cons, List.length_nil, Nat.reduceAdd, List.getElem?_toArray, List.getElem?_cons_zero, List.getElem?_cons_succ, Option.bind_some, Act.put, List.setIfInBounds_toArray, List.set_cons_zero, List.set_cons_succ] at hK ⊢
                    rw [d3] at hK ⊢
                    go_simp
                    exact hK (.agg #[.int .i64 x0, .int .i64 x1, .int .i64 x2]) _ HJ.out rfl (fun j y h => h) _ rfl
                  · obtain rfl := Option.some.inj ho.symm
                    clear hdep ho hJ
                    try simp only [fill, slotOf, List.size_toArray, List.length_cons, List.length_nil, Nat.reduceAdd, List.getElem?_toArray, List.getElem?_cons_zero, List.getElem?_cons_succ, Option.bind_some, Act.put, List.setIfInBounds_toArray, List.set_cons_zero, List.set_cons_succ] at hK ⊢
                    go_simp
                    exact hK (.pointer (some ⟨w.heap.size + 1, 5, none⟩)) _ HJ.out rfl (fun j y h => h) _ rfl
                  · obtain rfl := Option.some.inj ho.symm
                    have d5 : V 5 = .pointer (some ⟨w.heap.size + 1, 5, none⟩) := hdep ⟨5, .data⟩ (by simp) rfl
                    have q2 : w9.cell? ⟨w.heap.size + 1, 5, none⟩ = some (.slice (some ⟨tb, to, none⟩) on od) := (hJ.cell (p := ⟨w.heap.size + 1, 5, none⟩) HL2.out).trans (cell_blkS HK2.out rfl)
                    clear hdep ho hJ
                    try simp only [fill, slotOf, List.size_toArray, List.length_cons, List.length_nil, Nat.reduceAdd, List.getElem?_toArray, List.getElem?_cons_zero, List.getElem?_cons_succ, Option.bind_some, Act.put, List.setIfInBounds_toArray, List.set_cons_zero, List.set_cons_succ] at hK ⊢
                    rw [d5] at hK ⊢
                    go_simp
                    exact hK (.slice (some ⟨tb, to, none⟩) on od) _ HJ.out rfl (fun j y h => h) _ rfl
                  · obtain rfl := Option.some.inj ho.symm
                    clear hdep ho hJ
                    try simp only [fill, slotOf, List.size_toArray, List.length_cons, List.length_nil, Nat.reduceAdd, List.getElem?_toArray, List.getElem?_cons_zero, List.getElem?_cons_succ, Option.bind_some, Act.put, List.setIfInBounds_toArray, List.set_cons_zero, List.set_cons_succ] at hK ⊢
                    go_simp
                    exact hK (.int .i64 (j : Int)) _ HJ.out rfl (fun j y h => h) _ rfl
                  · obtain rfl := Option.some.inj ho.symm
                    have d6 : V 6 = .slice (some ⟨tb, to, none⟩) on od := hdep ⟨6, .data⟩ (by simp) rfl
                    have d7 : V 7 = .int .i64 (j : Int) := hdep ⟨7, .data⟩ (by simp) rfl
                    have hb9 : j < on := HJN.out
                    have hb8 : (j : Int) < (on : Int) := by omega
                    clear hdep ho hJ
                    try simp only [fill, slotOf, List.size_toArray, List.length_cons, List.length_nil, Nat.reduceAdd, List.getElem?_toArray, List.getElem?_cons_zero, List.getElem?_cons_succ, Option.bind_some, Act.put, List.setIfInBounds_toArray, List.set_cons_zero, List.set_cons_succ] at hK ⊢
                    rw [d6, d7] at hK ⊢
                    go_simp
                    exact hK (.pointer (some ⟨tb, to + j * 3, none⟩)) _ HJ.out rfl (fun j y h => h) _ rfl
                  · obtain rfl := Option.some.inj ho.symm
                    have d8 : V 8 = .pointer (some ⟨tb, to + j * 3, none⟩) := hdep ⟨8, .data⟩ (by simp) rfl
                    have e0 : w9.cell? ⟨tb, to + j * 3, none⟩ = some (.int .i64 y0) := (hJ.cell (p := ⟨tb, to + j * 3 + 0, none⟩) HTL.out).trans (HSY.out 0 _ rfl)
                    have e1 : w9.cell? ⟨tb, to + j * 3 + 1, none⟩ = some (.int .i64 y1) := (hJ.cell (p := ⟨tb, to + j * 3 + 1, none⟩) HTL.out).trans (HSY.out 1 _ rfl)
                    have e2 : w9.cell? ⟨tb, to + j * 3 + 2, none⟩ = some (.int .i64 y2) := (hJ.cell (p := ⟨tb, to + j * 3 + 2, none⟩) HTL.out).trans (HSY.out 2 _ rfl)
                    clear hdep ho hJ
                    try simp only [fill, slotOf, List.size_toArray, List.length_cons, List.length_nil, Nat.reduceAdd, List.getElem?_toArray, List.getElem?_cons_zero, List.getElem?_cons_succ, Option.bind_some, Act.put, List.setIfInBounds_toArray, List.set_cons_zero, List.set_cons_succ] at hK ⊢
                    rw [d8] at hK ⊢
                    go_simp
                    exact hK (.agg #[.int .i64 y0, .int .i64 y1, .int .i64 y2]) _ HJ.out rfl (fun j y h => h) _ rfl
                  · obtain rfl := Option.some.inj ho.symm
                    have d4 : V 4 = .agg #[.int .i64 x0, .int .i64 x1, .int .i64 x2] := hdep ⟨4, .data⟩ (by simp) rfl
                    have d9 : V 9 = .agg #[.int .i64 y0, .int .i64 y1, .int .i64 y2] := hdep ⟨9, .data⟩ (by simp) rfl
                    have hq9 : sqO (x0, x1, x2) (y0, y1, y2) = true := HQ.out
                    clear hdep ho hJ
                    try simp only [fill, slotOf, List.size_toArray, List.length_cons, List.length_nil, Nat.reduceAdd, List.getElem?_toArray, List.getElem?_cons_zero, List.getElem?_cons_succ, Option.bind_some, Act.put, List.setIfInBounds_toArray, List.set_cons_zero, List.set_cons_succ] at hK ⊢
                    rw [d4, d9] at hK ⊢
                    refine step_neq9 (b := false) (by rfl) (by rfl) (by rfl) (by rfl) (guard9_O _ _ _ _ _) (by rw [neq9_O, hq9]; rfl) ?_
                    exact hK (.bool false) _ HJ.out rfl (fun j y h => h) _ rfl
                · intro V w9 hJ hall
                  have dL : V 10 = .bool false := hall 10 (by decide)
                  have HJ9 := Lib.hid hJ
                  clear hall hJ
                  simp only [fill, slotOf, List.size_toArray, List.length_cons, List.length_nil, Nat.reduceAdd, List.getElem?_toArray, List.getElem?_cons_zero, List.getElem?_cons_succ, Option.bind_some, Act.put, List.setIfInBounds_toArray, List.set_cons_zero, List.set_cons_succ]
                  rw [dL]
                  clear dL
                  have HBZ := Lib.hid (HB.out.trans (HJ9.out.mono HB.out.size))
                  go_wp2_with fail
                  go_roundw
                  case rel => exact ⟨j + 1, by omega, by go_num, HU2, HBZ⟩
                  case measure => simp [intOf]; omega
            · obtain rfl : on = j := by omega
              clear hjn
              have HZO := Lib.hid (show lo = lo2 from list_ext9 OwnS.z (by rw [Llo.out, Llo2.out]) (by rw [Llo.out]; exact HU.out))
              have HK1 := Lib.hid ((HB.out.block w.heap.size HW1.out).trans HG1.out)
              have HY9 := Lib.hid (SameIs.yes ⟨rfl, rfl, rfl, HZE.out, HZM.out, HZO.out⟩ : SameIs s s d d hz hz le le2 lm lm2 lo lo2 (.returned (.bool true)))
              have HBZ := Lib.hid (HBW.out.trans (HB.out.mono HBW.out.size))
              clear HU HK1
              go_wp2_with fail
              go_ret
              exact ⟨HY9.out, HBZ.out⟩
end Go.Proofs.YtbdgcfimbblncaaGreatDoor
end PkMC4_1
section PkMC4_2
/- Sequences and maps of nothing: what the library makes of them, walked. Written by genmfc.py. -/
namespace Go.Proofs.YtbdgcfimbblncaaGreatDoor
open Go.RowKit Go.Shelf
open Go.Maps (Keyed)
set_option linter.unusedVariables false
attribute [local go_sem] Oper.semAt_some

def R0 : Value → Option (DataW Unit × List MemPlace) := fun _ => none
theorem lawS : Keyed Tryz.prog 9 := Keyed.of_law (Go.WideMaps.string_law Tryz.underlying9)
/-- a map without anything -/
def NoMap (w : World) (b : Nat) : Prop := w.ownsMap Tryz.prog 9 R0 b 0 (.map [])
theorem NoMap.made (w : World) : NoMap (w.alloc (.map #[] 0)) w.heap.size := World.ownsMap_made w _ _ _
theorem NoMap.lt {w : World} {b : Nat} (h : NoMap w b) : b < w.heap.size := World.ownsMap.lt h
theorem grown_b {w w' : World} (h : w.grownBy w' none) : Below w.heap.size w w' := ⟨h.os, h.tape, h.output, h.size, fun k hk => h.block k hk (by simp)⟩
theorem NoMap.kept {w w' : World} {b : Nat} (h : NoMap w b) (hb : Below w.heap.size w w') : NoMap w' b := World.ownsMap.kept h (row := none) ⟨hb.os, hb.tape, hb.output, hb.size, fun k hk _ => hb.block k hk⟩ (by simp)

set_option maxRecDepth 100000 in
theorem deletefunc_nil {w : World} {b : Nat} (h : NoMap w b) (fv : Value) :
    Calls Tryz.prog 66 #[.map (some b), fv] w fun e w' => e = .returned (.tuple #[]) ∧ Below w.heap.size w w' := by
  have h' : w.ownsMap Tryz.prog 9 R0 b 0 (.map []) := h
  go_enter Tryz.func66, Tryz.ntmps66
  go_wp2_with (first
    | (at_range; refine wpList_range_own _ rfl _ 92 rfl 9 53 lawS Tryz.underlying92 R0 b 0 _ rfl h' ?_; intro w0 hrg0 hg0 hs0)
    | go_in)
  go_frame
  refine wp_loop_rounds 1 ?_
  rw [rounds_succ]
  go_wp2_with (first
    | (at_next; refine wpList_next_ranges (α := ByteArray) (β := Unit) _ rfl _ rfl 9 lawS R0 Value.string (fun _ => undef) (fun _ _ hk => Maps.keyOf_string_inv Tryz.underlying9 hk) (fun _ _ hR => by cases hR) b w.heap.size 0 _ _ _ rfl hrg0 ?_ ?_)
    | go_in)
  · intro _ _
    go_wp2
    go_end0
    exact ⟨rfl, grown_b hg0⟩
  · intro x c kl y w' cnt' _ _ hR
    cases hR
theorem mvalues_any {w : World} (b : Nat) :
    Calls Tryz.prog 69 #[.map (some b)] w fun e w' => e = .returned (.func (.func 103) #[] #[.pointer (some ⟨w.heap.size, 0, none⟩)]) ∧ w' = w.alloc (.cells #[.map (some b)] 92) := by
  go_enter Tryz.func69, Tryz.ntmps69
  go_wp2_with fail
  go_ret
  exact ⟨rfl, rfl⟩
/-- nothing comes -/
def noEnc : Empty → Array Value := fun x => x.elim
set_option maxRecDepth 100000 in
set_option maxHeartbeats 2000000 in
theorem mseq_stops (n : Nat) (Bs b : Nat) (w : World) (hBs : Bs < w.heap.size) (hc : w.cell? ⟨Bs, 0, none⟩ = some (.map (some b))) (h : NoMap w b) (n₀ : Nat) (hn₀ : n₀ ≤ w.heap.size) :
    SeqStopsK Fence.wide n Tryz.prog 103 #[.pointer (some ⟨Bs, 0, none⟩)] noEnc (Below n₀) (fun _ => True) (fun _ => True) 0 w := by
  intro l J Jx W hW hJ hJx hY h0
  have hBW : W.cell? ⟨Bs, 0, none⟩ = some (.map (some b)) := (hW.cell (p := ⟨Bs, 0, none⟩) hBs).trans hc
  have h' : W.ownsMap Tryz.prog 9 R0 b 0 (.map []) := h.kept hW
  refine callsIn_of_wp Tryz.func103 rfl trivial ?_ rfl
  simp only [Tryz.ntmps103, List.size_toArray, List.length_cons, List.length_nil, Nat.reduceAdd, Nat.reduceSub, Array.replicate_succ, Array.replicate_zero, List.push_toArray, List.append_toArray, List.nil_append, List.cons_append]
  gi_wp2_with (gi_at_range; refine wpListIn_range_own _ rfl _ 92 rfl 9 53 lawS Tryz.underlying92 R0 b 0 _ rfl h' ?_; intro w0 hrg0 hg0 hs0)
  go_frame
  have hJ0 : J [] w0 := hJ [] W w0 none h0 hg0 (by simp)
  refine wpIn_loop_rounds 1 ?_
  rw [roundsIn_succ]
  gi_wp2_with (gi_at_next; refine wpListIn_next_ranges (α := ByteArray) (β := Unit) _ rfl _ rfl 9 lawS R0 Value.string (fun _ => undef) (fun _ _ hk => Maps.keyOf_string_inv Tryz.underlying9 hk) (fun _ _ hR => by cases hR) b W.heap.size 0 _ _ _ rfl hrg0 ?_ ?_)
  · intro _ _
    gi_wp2
    go_end0
    exact ⟨⟨_, rfl⟩, .inl ⟨[], trivial, hJ0⟩⟩
  · intro x c kl y w' cnt' _ _ hR
    cases hR

theorem svaluesE {w : World} (a : Option Addr) (n c : Nat) :
    Calls Tryz.prog 95 #[.slice a n c] w fun e w' => e = .returned (.func (.func 121) #[] #[.pointer (some ⟨w.heap.size, 0, none⟩)]) ∧ w' = w.alloc (.cells #[.slice a n c] 22) := by
  go_enter Tryz.func95, Tryz.ntmps95
  go_wp2_with fail
  go_ret
  exact ⟨rfl, rfl⟩
set_option maxRecDepth 100000 in
set_option maxHeartbeats 2000000 in
theorem sseqE (n : Nat) (Bs : Nat) (sa : Option Addr) (cap : Nat) (w : World) (hBs : Bs < w.heap.size) (hc : w.cell? ⟨Bs, 0, none⟩ = some (.slice sa 0 cap)) (n₀ : Nat) :
    SeqStopsK Fence.wide n Tryz.prog 121 #[.pointer (some ⟨Bs, 0, none⟩)] noEnc (Below n₀) (fun _ => True) (fun _ => True) 0 w := by
  intro l J Jx W hW hJ hJx hY h0
  have hBW : W.cell? ⟨Bs, 0, none⟩ = some (.slice sa 0 cap) := (hW.cell (p := ⟨Bs, 0, none⟩) hBs).trans hc
  refine callsIn_of_wp Tryz.func121 rfl trivial ?_ rfl
  simp only [Tryz.ntmps121, List.size_toArray, List.length_cons, List.length_nil, Nat.reduceAdd, Nat.reduceSub, Array.replicate_succ, Array.replicate_zero, List.push_toArray, List.append_toArray, List.nil_append, List.cons_append]
  gi_wp2
  gi_loopw [7] (fun i wr => i = .int .i64 0 ∧ J [] wr) (fun _ _ => 0)
  case atStart => exact ⟨rfl, h0⟩
  case round =>
    obtain ⟨rfl, hJs⟩ := hrel
    gi_wp2
    go_end0
    exact ⟨⟨_, rfl⟩, .inl ⟨[], trivial, hJs⟩⟩
set_option maxRecDepth 100000 in
set_option maxHeartbeats 2000000 in
theorem append0E (n : Nat) (hn : 3 ≤ n) {w : World} {gf : Nat} {lb : Array Value} (eg : ∀ args w, (callFunc gf args).run Tryz.prog w = .ok (.enter gf args) w)
    (hseq : ∀ m, 1 ≤ m → SeqStopsK Fence.wide m Tryz.prog gf lb noEnc (Below w.heap.size) (fun _ => True) (fun _ => True) 0 w) :
    CallsIn Fence.wide n Tryz.prog 126 #[.slice none 0 0, .func (.func gf) #[] lb] w fun e W' => (∃ a c, e = .returned (.slice a 0 c)) ∧ Below w.heap.size w W' := by
  have h1 : 1 ≤ n := by omega
  refine callsIn_of_wp_marks Tryz.func126 rfl trivial ?_ rfl
  simp only [Tryz.ntmps126, List.size_toArray, List.length_cons, List.length_nil, Nat.reduceAdd, Nat.reduceSub, Array.replicate_succ, Array.replicate_zero, List.push_toArray, List.append_toArray, List.nil_append, List.cons_append]
  gi_wp2
  have bO := Boxed.new w 22 (.slice none 0 0)
  have hB0 : Below w.heap.size w (w.alloc (.cells #[.slice none 0 0] 22)) := (Below.refl _ w).alloc (Nat.le_refl _) _
  refine wpIn_rangeFunc_ownF (α := Empty) rfl h1 (gf := gf) (lb := lb) rfl trivial eg
    (hseq (n - 1) (by omega)) belowK_t (belowK_b (by simp)) hB0 (fun x => x.elim)
    (fun pre W => (∃ v, Boxed W w.heap.size 22 v ∧ W.ownsRow w.heap.size 53 9 v 0 [] ∧ True) ∧ Below w.heap.size w W)
    (fun _ _ _ => False)
    (OwnFrom.and (Own.from (holdsRow_own w.heap.size w.heap.size 22 53 9 (fun pre : List Empty => 0) (fun pre => []) (fun pre v => True)) _) (ownFrom_below (Nat.le_refl _) (by simp)))
    (fun _ _ _ _ _ hs _ _ => hs)
    ⟨⟨_, bO, World.ownsRow_nil _ _ _ _, trivial⟩, hB0⟩
    (fun x => x.elim) (fun _ x => x.elim) (fun _ _ x => x.elim) ?done ?stop
  case done =>
    rintro D ys W hD _ ⟨⟨v, hv, hrow, _⟩, hB⟩ hK
    have hc := hv.cell
    have hvs : ∃ a c, v = .slice a 0 c := by
      rcases hrow.2 with ⟨rfl, _⟩ | ⟨g, cap, cur, rfl, _⟩
      · exact ⟨_, _, rfl⟩
      · exact ⟨_, _, rfl⟩
    gi_wp2
    refine ⟨by simp, .inl ⟨_, _, rfl, run_takeDeferred hK, ?_⟩⟩
    obtain ⟨a, c, rfl⟩ := hvs
    exact ⟨_, results_tmp rfl _ _ _, ⟨a, c, rfl⟩, hB.trans (belowK_b (w := w) (Nat.le_refl _) W D _ _ (by simp at hD; omega) hK rfl rfl)⟩
  case stop =>
    rintro D c pre W _ _ h _
    exact h.elim
theorem collect0E {w : World} {gf : Nat} {lb : Array Value} (eg : ∀ args w, (callFunc gf args).run Tryz.prog w = .ok (.enter gf args) w)
    (hseq : ∀ m, 1 ≤ m → SeqStopsK Fence.wide m Tryz.prog gf lb noEnc (Below w.heap.size) (fun _ => True) (fun _ => True) 0 w) :
    Calls Tryz.prog 101 #[.func (.func gf) #[] lb] w fun e W' => (∃ a c, e = .returned (.slice a 0 c)) ∧ Below w.heap.size w W' := by
  have HA := Lib.hid (callsIn_wide.1 (append0E 3 (by omega) eg hseq))
  clear hseq
  go_enter Tryz.func101, Tryz.ntmps101
  go_wp2_with fail
  refine HA.out.mono ?_
  rintro e w1 ⟨⟨a, c, rfl⟩, hb⟩
  have HB := Lib.hid hb
  clear hb
  go_wp2_with fail
  go_ret
  exact ⟨⟨_, _, rfl⟩, HB.out⟩

theorem svaluesS {w : World} (a : Option Addr) (n c : Nat) :
    Calls Tryz.prog 97 #[.slice a n c] w fun e w' => e = .returned (.func (.func 124) #[] #[.pointer (some ⟨w.heap.size, 0, none⟩)]) ∧ w' = w.alloc (.cells #[.slice a n c] 46) := by
  go_enter Tryz.func97, Tryz.ntmps97
  go_wp2_with fail
  go_ret
  exact ⟨rfl, rfl⟩
set_option maxRecDepth 100000 in
set_option maxHeartbeats 2000000 in
theorem sseqS (n : Nat) (Bs : Nat) (sa : Option Addr) (cap : Nat) (w : World) (hBs : Bs < w.heap.size) (hc : w.cell? ⟨Bs, 0, none⟩ = some (.slice sa 0 cap)) (n₀ : Nat) :
    SeqStopsK Fence.wide n Tryz.prog 124 #[.pointer (some ⟨Bs, 0, none⟩)] noEnc (Below n₀) (fun _ => True) (fun _ => True) 0 w := by
  intro l J Jx W hW hJ hJx hY h0
  have hBW : W.cell? ⟨Bs, 0, none⟩ = some (.slice sa 0 cap) := (hW.cell (p := ⟨Bs, 0, none⟩) hBs).trans hc
  refine callsIn_of_wp Tryz.func124 rfl trivial ?_ rfl
  simp only [Tryz.ntmps124, List.size_toArray, List.length_cons, List.length_nil, Nat.reduceAdd, Nat.reduceSub, Array.replicate_succ, Array.replicate_zero, List.push_toArray, List.append_toArray, List.nil_append, List.cons_append]
  gi_wp2
  gi_loopw [7] (fun i wr => i = .int .i64 0 ∧ J [] wr) (fun _ _ => 0)
  case atStart => exact ⟨rfl, h0⟩
  case round =>
    obtain ⟨rfl, hJs⟩ := hrel
    gi_wp2
    go_end0
    exact ⟨⟨_, rfl⟩, .inl ⟨[], trivial, hJs⟩⟩
set_option maxRecDepth 100000 in
set_option maxHeartbeats 2000000 in
theorem append0S (n : Nat) (hn : 3 ≤ n) {w : World} {gf : Nat} {lb : Array Value} (eg : ∀ args w, (callFunc gf args).run Tryz.prog w = .ok (.enter gf args) w)
    (hseq : ∀ m, 1 ≤ m → SeqStopsK Fence.wide m Tryz.prog gf lb noEnc (Below w.heap.size) (fun _ => True) (fun _ => True) 0 w) :
    CallsIn Fence.wide n Tryz.prog 141 #[.slice none 0 0, .func (.func gf) #[] lb] w fun e W' => (∃ a c, e = .returned (.slice a 0 c)) ∧ Below w.heap.size w W' := by
  have h1 : 1 ≤ n := by omega
  refine callsIn_of_wp_marks Tryz.func141 rfl trivial ?_ rfl
  simp only [Tryz.ntmps141, List.size_toArray, List.length_cons, List.length_nil, Nat.reduceAdd, Nat.reduceSub, Array.replicate_succ, Array.replicate_zero, List.push_toArray, List.append_toArray, List.nil_append, List.cons_append]
  gi_wp2
  have bO := Boxed.new w 46 (.slice none 0 0)
  have hB0 : Below w.heap.size w (w.alloc (.cells #[.slice none 0 0] 46)) := (Below.refl _ w).alloc (Nat.le_refl _) _
  refine wpIn_rangeFunc_ownF (α := Empty) rfl h1 (gf := gf) (lb := lb) rfl trivial eg
    (hseq (n - 1) (by omega)) belowK_t (belowK_b (by simp)) hB0 (fun x => x.elim)
    (fun pre W => (∃ v, Boxed W w.heap.size 46 v ∧ W.ownsRow w.heap.size 9 1 v 0 [] ∧ True) ∧ Below w.heap.size w W)
    (fun _ _ _ => False)
    (OwnFrom.and (Own.from (holdsRow_own w.heap.size w.heap.size 46 9 1 (fun pre : List Empty => 0) (fun pre => []) (fun pre v => True)) _) (ownFrom_below (Nat.le_refl _) (by simp)))
    (fun _ _ _ _ _ hs _ _ => hs)
    ⟨⟨_, bO, World.ownsRow_nil _ _ _ _, trivial⟩, hB0⟩
    (fun x => x.elim) (fun _ x => x.elim) (fun _ _ x => x.elim) ?done ?stop
  case done =>
    rintro D ys W hD _ ⟨⟨v, hv, hrow, _⟩, hB⟩ hK
    have hc := hv.cell
    have hvs : ∃ a c, v = .slice a 0 c := by
      rcases hrow.2 with ⟨rfl, _⟩ | ⟨g, cap, cur, rfl, _⟩
      · exact ⟨_, _, rfl⟩
      · exact ⟨_, _, rfl⟩
    gi_wp2
    refine ⟨by simp, .inl ⟨_, _, rfl, run_takeDeferred hK, ?_⟩⟩
    obtain ⟨a, c, rfl⟩ := hvs
    exact ⟨_, results_tmp rfl _ _ _, ⟨a, c, rfl⟩, hB.trans (belowK_b (w := w) (Nat.le_refl _) W D _ _ (by simp at hD; omega) hK rfl rfl)⟩
  case stop =>
    rintro D c pre W _ _ h _
    exact h.elim
theorem collect0S {w : World} {gf : Nat} {lb : Array Value} (eg : ∀ args w, (callFunc gf args).run Tryz.prog w = .ok (.enter gf args) w)
    (hseq : ∀ m, 1 ≤ m → SeqStopsK Fence.wide m Tryz.prog gf lb noEnc (Below w.heap.size) (fun _ => True) (fun _ => True) 0 w) :
    Calls Tryz.prog 122 #[.func (.func gf) #[] lb] w fun e W' => (∃ a c, e = .returned (.slice a 0 c)) ∧ Below w.heap.size w W' := by
  have HA := Lib.hid (callsIn_wide.1 (append0S 3 (by omega) eg hseq))
  clear hseq
  go_enter Tryz.func122, Tryz.ntmps122
  go_wp2_with fail
  refine HA.out.mono ?_
  rintro e w1 ⟨⟨a, c, rfl⟩, hb⟩
  have HB := Lib.hid hb
  clear hb
  go_wp2_with fail
  go_ret
  exact ⟨⟨_, _, rfl⟩, HB.out⟩

set_option maxRecDepth 100000 in
theorem len64_0 (w : World) : Calls Tryz.prog 152 #[.int .u64 0] w fun e w' => (∃ z : Int, e = .returned (.int .i64 z)) ∧ w' = w := by
  go_enter Tryz.func152, Tryz.ntmps152
  go_wp2_with fail
  go_ret
  exact ⟨⟨_, rfl⟩, rfl⟩
set_option maxRecDepth 100000 in
theorem blen_0 (w : World) : Calls Tryz.prog 128 #[.int .u64 0] w fun e w' => (∃ z : Int, e = .returned (.int .i64 z)) ∧ w' = w := by
  go_enter Tryz.func128, Tryz.ntmps128
  go_wp2_with fail
  refine (len64_0 w).mono ?_
  rintro e w1 ⟨⟨z, rfl⟩, rfl⟩
  go_wp2_with fail
  go_ret
  exact ⟨⟨_, rfl⟩, rfl⟩

set_option maxRecDepth 100000 in
theorem ins0E (a : Option Addr) (c : Nat) (cf : Value) (w : World) : Calls Tryz.prog 143 #[.slice a 0 c, .int .i64 0, .int .i64 0, cf] w fun e w' => e = .returned (.tuple #[]) ∧ w' = w := by
  go_enter Tryz.func143, Tryz.ntmps143
  go_wp2_with fail
  refine wp_loop_rounds 1 ?_
  rw [rounds_succ]
  go_wp2_with fail
  go_end0
  exact ⟨rfl, rfl⟩
set_option maxRecDepth 100000 in
theorem pdq0E (a : Option Addr) (c : Nat) (z : Int) (cf : Value) (w : World) : Calls Tryz.prog 127 #[.slice a 0 c, .int .i64 0, .int .i64 0, .int .i64 z, cf] w fun e w' => e = .returned (.tuple #[]) ∧ w' = w := by
  have HI := Lib.hid (ins0E a c cf w)
  go_enter Tryz.func127, Tryz.ntmps127
  go_wp2_with fail
  refine wp_loop_rounds 1 ?_
  rw [rounds_succ]
  go_wp2_with fail
  refine HI.out.mono ?_
  rintro e w1 ⟨rfl, rfl⟩
  go_wp2_with fail
  refine bodyPost_ret (results_none rfl _ _ _) rfl ?_
  exact ⟨rfl, rfl⟩
set_option maxRecDepth 100000 in
theorem sort0E (a : Option Addr) (c : Nat) (cf : Value) (w : World) : Calls Tryz.prog 102 #[.slice a 0 c, cf] w fun e w' => e = .returned (.tuple #[]) ∧ w' = w := by
  have HL := Lib.hid (blen_0 w)
  go_enter Tryz.func102, Tryz.ntmps102
  go_wp2_with fail
  refine HL.out.mono ?_
  rintro e w1 ⟨⟨z, rfl⟩, rfl⟩
  have HP := Lib.hid (pdq0E a c z cf w1)
  go_wp2_with fail
  refine HP.out.mono ?_
  rintro e w2 ⟨rfl, rfl⟩
  go_wp2_with fail
  go_end0
  exact ⟨rfl, rfl⟩

set_option maxRecDepth 100000 in
theorem ins0S (a : Option Addr) (c : Nat) (w : World) : Calls Tryz.prog 159 #[.slice a 0 c, .int .i64 0, .int .i64 0] w fun e w' => e = .returned (.tuple #[]) ∧ w' = w := by
  go_enter Tryz.func159, Tryz.ntmps159
  go_wp2_with fail
  refine wp_loop_rounds 1 ?_
  rw [rounds_succ]
  go_wp2_with fail
  go_end0
  exact ⟨rfl, rfl⟩
set_option maxRecDepth 100000 in
theorem pdq0S (a : Option Addr) (c : Nat) (z : Int) (w : World) : Calls Tryz.prog 142 #[.slice a 0 c, .int .i64 0, .int .i64 0, .int .i64 z] w fun e w' => e = .returned (.tuple #[]) ∧ w' = w := by
  have HI := Lib.hid (ins0S a c w)
  go_enter Tryz.func142, Tryz.ntmps142
  go_wp2_with fail
  refine wp_loop_rounds 1 ?_
  rw [rounds_succ]
  go_wp2_with fail
  refine HI.out.mono ?_
  rintro e w1 ⟨rfl, rfl⟩
  go_wp2_with fail
  refine bodyPost_ret (results_none rfl _ _ _) rfl ?_
  exact ⟨rfl, rfl⟩
set_option maxRecDepth 100000 in
theorem sort0S (a : Option Addr) (c : Nat) (w : World) : Calls Tryz.prog 123 #[.slice a 0 c] w fun e w' => e = .returned (.tuple #[]) ∧ w' = w := by
  have HL := Lib.hid (blen_0 w)
  go_enter Tryz.func123, Tryz.ntmps123
  go_wp2_with fail
  refine HL.out.mono ?_
  rintro e w1 ⟨⟨z, rfl⟩, rfl⟩
  have HP := Lib.hid (pdq0S a c z w1)
  go_wp2_with fail
  refine HP.out.mono ?_
  rintro e w2 ⟨rfl, rfl⟩
  go_wp2_with fail
  go_end0
  exact ⟨rfl, rfl⟩

set_option maxRecDepth 100000 in
theorem sorted0E {w : World} {gf : Nat} {lb : Array Value} (eg : ∀ args w, (callFunc gf args).run Tryz.prog w = .ok (.enter gf args) w)
    (hseq : ∀ m, 1 ≤ m → SeqStopsK Fence.wide m Tryz.prog gf lb noEnc (Below w.heap.size) (fun _ => True) (fun _ => True) 0 w) (cf : Value) :
    Calls Tryz.prog 68 #[.func (.func gf) #[] lb, cf] w fun e W' => (∃ a c, e = .returned (.slice a 0 c)) ∧ Below w.heap.size w W' := by
  have HA := Lib.hid (collect0E eg hseq)
  clear hseq
  go_enter Tryz.func68, Tryz.ntmps68
  go_wp2_with fail
  refine HA.out.mono ?_
  rintro e w1 ⟨⟨a, c, rfl⟩, hb⟩
  have HB := Lib.hid hb
  have HS := Lib.hid (sort0E a c cf w1)
  clear hb
  go_wp2_with fail
  refine HS.out.mono ?_
  rintro e w2 ⟨rfl, rfl⟩
  go_wp2_with fail
  go_ret
  exact ⟨⟨_, _, rfl⟩, HB.out⟩

set_option maxRecDepth 100000 in
theorem sorted0S {w : World} {gf : Nat} {lb : Array Value} (eg : ∀ args w, (callFunc gf args).run Tryz.prog w = .ok (.enter gf args) w)
    (hseq : ∀ m, 1 ≤ m → SeqStopsK Fence.wide m Tryz.prog gf lb noEnc (Below w.heap.size) (fun _ => True) (fun _ => True) 0 w) :
    Calls Tryz.prog 96 #[.func (.func gf) #[] lb] w fun e W' => (∃ a c, e = .returned (.slice a 0 c)) ∧ Below w.heap.size w W' := by
  have HA := Lib.hid (collect0S eg hseq)
  clear hseq
  go_enter Tryz.func96, Tryz.ntmps96
  go_wp2_with fail
  refine HA.out.mono ?_
  rintro e w1 ⟨⟨a, c, rfl⟩, hb⟩
  have HB := Lib.hid hb
  have HS := Lib.hid (sort0S a c w1)
  clear hb
  go_wp2_with fail
  refine HS.out.mono ?_
  rintro e w2 ⟨rfl, rfl⟩
  go_wp2_with fail
  go_ret
  exact ⟨⟨_, _, rfl⟩, HB.out⟩

end Go.Proofs.YtbdgcfimbblncaaGreatDoor
end PkMC4_2
section PkMC4_3
/- Manifests: what layer 13's fixed edit meets ahead of its making, walked. Written by genmfd.py. -/
namespace Go.Proofs.YtbdgcfimbblncaaGreatDoor
open Go.RowKit LabPlain
set_option linter.unusedVariables false

theorem mark_info : (Tryz.prog.info? 43).map (fun i => (i.zero, i.size, i.bytes)) = some (some (.agg #[.int .i64 0, .int .i64 0]), 2, 16) := by kernel_rfl
theorem own_info : (Tryz.prog.info? 45).map (fun i => (i.zero, i.size, i.bytes)) = some (some (.agg #[.int .i64 0, .int .i64 0, .int .i64 0]), 3, 24) := by kernel_rfl

set_option maxRecDepth 100000 in
set_option maxHeartbeats 4000000 in
theorem rising_one {w : World} {a : Option Addr} {c : Nat} {x y : Int} (h : VecAt MarkS w a 1 c [(x, y)]) (h1 : 1 ≤ x ∧ x ≤ 64) (h2 : 1 ≤ y ∧ y ≤ 1099511627775) (cf : Value) :
    Calls Tryz.prog 39 #[.slice a 1 c, cf, .func (.func 41) #[] #[]] w fun e w' => e = .returned (.bool true) ∧ Below w.heap.size w w' := by
  have hcap := h.cap
  have hcm := h.capm
  have HR1 := Lib.hid h1
  have HR2 := Lib.hid h2
  have HH := Lib.hid h
  clear h h1 h2
  go_enter Tryz.func39, Tryz.ntmps39
  go_wp2_with fail
  go_loopw [7, 8, 11] (fun _ _ s11 wr => ∃ k : Nat, k ≤ 1 ∧ s11 = .int .i64 (k : Int) ∧ Hid (Below w.heap.size w wr)) (fun _ _ s11 _ => 1 - (intOf s11).toNat)
  case atStart => exact ⟨0, by omega, rfl, Lib.hid (Below.refl _ _)⟩
  case round =>
    obtain ⟨k, hk, rfl, HB⟩ := hrel
    rename World => wr
    by_cases hkn : k = 0
    · subst hkn
      obtain ⟨sb, so, rfl, hsl, _, hsc9⟩ := (HH.out.kept HB.out).get (show 0 < 1 by omega)
      have d0 : wr.cell? ⟨sb, so, none⟩ = some (.int .i64 x) := by simpa using hsc9 0 _ rfl
      have d1 : wr.cell? ⟨sb, so + 1, none⟩ = some (.int .i64 y) := by simpa using hsc9 1 _ rfl
      have HXA := Lib.hid (heap_alloc_new wr (.cells #[.int .i64 x, .int .i64 y] 43))
      have HXL := Lib.hid ((Array.getElem?_eq_some_iff.1 (heap_alloc_new wr (.cells #[.int .i64 x, .int .i64 y] 43))).1)
      have HAL := Lib.hid (show Below w.heap.size w (wr.alloc (.cells #[.int .i64 x, .int .i64 y] 43)) from HB.out.alloc HB.out.size _)
      clear hsc9 hsl
      go_wp2_with fail
      refine wp_region_fill (by kernel_rfl) (by kernel_rfl) (by kernel_rfl) (Below (wr.alloc (.cells #[.int .i64 x, .int .i64 y] 43)).heap.size (wr.alloc (.cells #[.int .i64 x, .int .i64 y] 43))) (FV (fun j_9 => match j_9 with | 0 => some (.func (.func 41) #[] #[]) | 1 => some (.agg #[.int .i64 x, .int .i64 y]) | 2 => some (.bool true) | 3 => some (.bool false) | 4 => some (.bool false) | 5 => some (.int .i64 0) | 6 => some (.bool false) | 7 => some (.bool false) | 8 => some (undef) | 9 => some (undef) | 10 => some (undef) | 11 => some (undef) | 12 => some (undef) | 13 => some (undef) | 14 => some (undef) | 15 => some (undef) | 16 => some (undef) | 17 => some (.bool false) | 18 => some (.bool false) | _ => none) (fun _ _ => True)) (Below.refl _ _).drew ?_ ?_
      · intro i9 o ho V w9 K hJ hdep hK
        have HJ := Lib.hid hJ
        simp only [fill, slotOf, List.size_toArray, List.length_cons, List.length_nil, Nat.reduceAdd, List.getElem?_toArray, List.getElem?_cons_zero, List.getElem?_cons_succ, Option.bind_some, Act.put, List.setIfInBounds_toArray, List.set_cons_zero, List.set_cons_succ] at hK ⊢
        have hin : i9 < 19 := (Array.getElem?_eq_some_iff.1 ho).1
        have hcs : i9 = 0 ∨ i9 = 1 ∨ i9 = 2 ∨ i9 = 3 ∨ i9 = 4 ∨ i9 = 5 ∨ i9 = 6 ∨ i9 = 7 ∨ i9 = 8 ∨ i9 = 9 ∨ i9 = 10 ∨ i9 = 11 ∨ i9 = 12 ∨ i9 = 13 ∨ i9 = 14 ∨ i9 = 15 ∨ i9 = 16 ∨ i9 = 17 ∨ i9 = 18 := by omega
        clear hin
        rcases hcs with rfl | rfl | rfl | rfl | rfl | rfl | rfl | rfl | rfl | rfl | rfl | rfl | rfl | rfl | rfl | rfl | rfl | rfl | rfl
        · obtain rfl := Option.some.inj ho.symm
          clear hdep ho hJ
          try simp only [fill, slotOf, List.size_toArray, List.length_cons, List.length_nil, Nat.reduceAdd, List.getElem?_toArray, List.getElem?_cons_zero, List.getElem?_cons_succ, Option.bind_some, Act.put, List.setIfInBounds_toArray, List.set_cons_zero, List.set_cons_succ] at hK ⊢
          go_simp
          exact hK (.func (.func 41) #[] #[]) _ HJ.out rfl (fun j y h => h) _ rfl
        · obtain rfl := Option.some.inj ho.symm
          have e0 : w9.cell? ⟨wr.heap.size, 0, none⟩ = some (.int .i64 x) := (hJ.cell (p := ⟨wr.heap.size, 0, none⟩) HXL.out).trans (cell_blk HXA.out rfl)
          have e1 : w9.cell? ⟨wr.heap.size, 1, none⟩ = some (.int .i64 y) := (hJ.cell (p := ⟨wr.heap.size, 1, none⟩) HXL.out).trans (cell_blk HXA.out rfl)
          clear hdep ho hJ
          try simp only [fill, slotOf, List.size_toArray, List.length_cons, List.length_nil, Nat.reduceAdd, List.getElem?_toArray, List.getElem?_cons_zero, List.getElem?_cons_succ, Option.bind_some, Act.put, List.setIfInBounds_toArray, List.set_cons_zero, List.set_cons_succ] at hK ⊢
          go_simp
          exact hK (.agg #[.int .i64 x, .int .i64 y]) _ HJ.out rfl (fun j y h => h) _ rfl
        · obtain rfl := Option.some.inj ho.symm
          have d0 : V 0 = .func (.func 41) #[] #[] := hdep ⟨0, .data⟩ (by simp) rfl
          have d1 : V 1 = .agg #[.int .i64 x, .int .i64 y] := hdep ⟨1, .data⟩ (by simp) rfl
          clear hdep ho hJ
          try simp only [fill, slotOf, List.size_toArray, List.length_cons, List.length_nil, Nat.reduceAdd, List.getElem?_toArray, List.getElem?_cons_zero, List.getElem?_cons_succ, Option.bind_some, Act.put, List.setIfInBounds_toArray, List.set_cons_zero, List.set_cons_succ] at hK ⊢
          rw [d0, d1] at hK ⊢
          go_simp
          refine (rightMark_yes HR1.out HR2.out w9).mono ?_
          rintro e w8 ⟨rfl, hb8⟩
          exact hK (.bool true) _ (HJ.out.trans (hb8.mono HJ.out.size)) rfl (FV.mono ((fun _ _ _ => trivial) hb8)) _ rfl
        · obtain rfl := Option.some.inj ho.symm
          have d2 : V 2 = .bool true := hdep ⟨2, .data⟩ (by simp) rfl
          clear hdep ho hJ
          try simp only [fill, slotOf, List.size_toArray, List.length_cons, List.length_nil, Nat.reduceAdd, List.getElem?_toArray, List.getElem?_cons_zero, List.getElem?_cons_succ, Option.bind_some, Act.put, List.setIfInBounds_toArray, List.set_cons_zero, List.set_cons_succ] at hK ⊢
          rw [d2] at hK ⊢
          go_simp
          exact hK (.bool false) _ HJ.out rfl (fun j y h => h) _ rfl
        · obtain rfl := Option.some.inj ho.symm
          have d3 : V 3 = .bool false := hdep ⟨3, .data⟩ (by simp) rfl
          clear hdep ho hJ
          try simp only [fill, slotOf, List.size_toArray, List.length_cons, List.length_nil, Nat.reduceAdd, List.getElem?_toArray, List.getElem?_cons_zero, List.getElem?_cons_succ, Option.bind_some, Act.put, List.setIfInBounds_toArray, List.set_cons_zero, List.set_cons_succ] at hK ⊢
          rw [d3] at hK ⊢
          go_simp
          exact hK (.bool false) _ HJ.out rfl (fun j y h => h) _ rfl
        · obtain rfl := Option.some.inj ho.symm
          have d4 : V 4 = .bool false := hdep ⟨4, .guard⟩ (by simp) rfl
          clear hdep ho hJ
          try simp only [fill, slotOf, List.size_toArray, List.length_cons, List.length_nil, Nat.reduceAdd, List.getElem?_toArray, List.getElem?_cons_zero, List.getElem?_cons_succ, Option.bind_some, Act.put, List.setIfInBounds_toArray, List.set_cons_zero, List.set_cons_succ] at hK ⊢
          rw [d4] at hK ⊢
          go_simp
          exact hK (.int .i64 0) _ HJ.out rfl (fun j y h => h) _ rfl
        · obtain rfl := Option.some.inj ho.symm
          have d5 : V 5 = .int .i64 0 := hdep ⟨5, .data⟩ (by simp) rfl
          have d4 : V 4 = .bool false := hdep ⟨4, .guard⟩ (by simp) rfl
          clear hdep ho hJ
          try simp only [fill, slotOf, List.size_toArray, List.length_cons, List.length_nil, Nat.reduceAdd, List.getElem?_toArray, List.getElem?_cons_zero, List.getElem?_cons_succ, Option.bind_some, Act.put, List.setIfInBounds_toArray, List.set_cons_zero, List.set_cons_succ] at hK ⊢
          rw [d5, d4] at hK ⊢
          go_simp
          exact hK (.bool false) _ HJ.out rfl (fun j y h => h) _ rfl
        · obtain rfl := Option.some.inj ho.symm
          have d6 : V 6 = .bool false := hdep ⟨6, .data⟩ (by simp) rfl
          have d4 : V 4 = .bool false := hdep ⟨4, .guard⟩ (by simp) rfl
          clear hdep ho hJ
          try simp only [fill, slotOf, List.size_toArray, List.length_cons, List.length_nil, Nat.reduceAdd, List.getElem?_toArray, List.getElem?_cons_zero, List.getElem?_cons_succ, Option.bind_some, Act.put, List.setIfInBounds_toArray, List.set_cons_zero, List.set_cons_succ] at hK ⊢
          rw [d6, d4] at hK ⊢
          go_simp
          exact hK (.bool false) _ HJ.out rfl (fun j y h => h) _ rfl
        · obtain rfl := Option.some.inj ho.symm
          have d7 : V 7 = .bool false := hdep ⟨7, .guard⟩ (by simp) rfl
          clear hdep ho hJ
          try simp only [fill, slotOf, List.size_toArray, List.length_cons, List.length_nil, Nat.reduceAdd, List.getElem?_toArray, List.getElem?_cons_zero, List.getElem?_cons_succ, Option.bind_some, Act.put, List.setIfInBounds_toArray, List.set_cons_zero, List.set_cons_succ] at hK ⊢
          rw [d7] at hK ⊢
          go_simp
          exact hK (undef) _ HJ.out rfl (fun j y h => h) _ rfl
        · obtain rfl := Option.some.inj ho.symm
          have d7 : V 7 = .bool false := hdep ⟨7, .guard⟩ (by simp) rfl
          clear hdep ho hJ
          try simp only [fill, slotOf, List.size_toArray, List.length_cons, List.length_nil, Nat.reduceAdd, List.getElem?_toArray, List.getElem?_cons_zero, List.getElem?_cons_succ, Option.bind_some, Act.put, List.setIfInBounds_toArray, List.set_cons_zero, List.set_cons_succ] at hK ⊢
          rw [d7] at hK ⊢
          go_simp
          exact hK (undef) _ HJ.out rfl (fun j y h => h) _ rfl
        · obtain rfl := Option.some.inj ho.symm
          have d7 : V 7 = .bool false := hdep ⟨7, .guard⟩ (by simp) rfl
          clear hdep ho hJ
          try simp only [fill, slotOf, List.size_toArray, List.length_cons, List.length_nil, Nat.reduceAdd, List.getElem?_toArray, List.getElem?_cons_zero, List.getElem?_cons_succ, Option.bind_some, Act.put, List.setIfInBounds_toArray, List.set_cons_zero, List.set_cons_succ] at hK ⊢
          rw [d7] at hK ⊢
          go_simp
          exact hK (undef) _ HJ.out rfl (fun j y h => h) _ rfl
        · obtain rfl := Option.some.inj ho.symm
          have d7 : V 7 = .bool false := hdep ⟨7, .guard⟩ (by simp) rfl
          clear hdep ho hJ
          try simp only [fill, slotOf, List.size_toArray, List.length_cons, List.length_nil, Nat.reduceAdd, List.getElem?_toArray, List.getElem?_cons_zero, List.getElem?_cons_succ, Option.bind_some, Act.put, List.setIfInBounds_toArray, List.set_cons_zero, List.set_cons_succ] at hK ⊢
          rw [d7] at hK ⊢
          go_simp
          exact hK (undef) _ HJ.out rfl (fun j y h => h) _ rfl
        · obtain rfl := Option.some.inj ho.symm
          have d7 : V 7 = .bool false := hdep ⟨7, .guard⟩ (by simp) rfl
          clear hdep ho hJ
          try simp only [fill, slotOf, List.size_toArray, List.length_cons, List.length_nil, Nat.reduceAdd, List.getElem?_toArray, List.getElem?_cons_zero, List.getElem?_cons_succ, Option.bind_some, Act.put, List.setIfInBounds_toArray, List.set_cons_zero, List.set_cons_succ] at hK ⊢
          rw [d7] at hK ⊢
          go_simp
          exact hK (undef) _ HJ.out rfl (fun j y h => h) _ rfl
        · obtain rfl := Option.some.inj ho.symm
          have d7 : V 7 = .bool false := hdep ⟨7, .guard⟩ (by simp) rfl
          clear hdep ho hJ
          try simp only [fill, slotOf, List.size_toArray, List.length_cons, List.length_nil, Nat.reduceAdd, List.getElem?_toArray, List.getElem?_cons_zero, List.getElem?_cons_succ, Option.bind_some, Act.put, List.setIfInBounds_toArray, List.set_cons_zero, List.set_cons_succ] at hK ⊢
          rw [d7] at hK ⊢
          go_simp
          exact hK (undef) _ HJ.out rfl (fun j y h => h) _ rfl
        · obtain rfl := Option.some.inj ho.symm
          have d7 : V 7 = .bool false := hdep ⟨7, .guard⟩ (by simp) rfl
          clear hdep ho hJ
          try simp only [fill, slotOf, List.size_toArray, List.length_cons, List.length_nil, Nat.reduceAdd, List.getElem?_toArray, List.getElem?_cons_zero, List.getElem?_cons_succ, Option.bind_some, Act.put, List.setIfInBounds_toArray, List.set_cons_zero, List.set_cons_succ] at hK ⊢
          rw [d7] at hK ⊢
          go_simp
          exact hK (undef) _ HJ.out rfl (fun j y h => h) _ rfl
        · obtain rfl := Option.some.inj ho.symm
          have d7 : V 7 = .bool false := hdep ⟨7, .guard⟩ (by simp) rfl
          clear hdep ho hJ
          try simp only [fill, slotOf, List.size_toArray, List.length_cons, List.length_nil, Nat.reduceAdd, List.getElem?_toArray, List.getElem?_cons_zero, List.getElem?_cons_succ, Option.bind_some, Act.put, List.setIfInBounds_toArray, List.set_cons_zero, List.set_cons_succ] at hK ⊢
          rw [d7] at hK ⊢
          go_simp
          exact hK (undef) _ HJ.out rfl (fun j y h => h) _ rfl
        · obtain rfl := Option.some.inj ho.symm
          have d7 : V 7 = .bool false := hdep ⟨7, .guard⟩ (by simp) rfl
          clear hdep ho hJ
          try simp only [fill, slotOf, List.size_toArray, List.length_cons, List.length_nil, Nat.reduceAdd, List.getElem?_toArray, List.getElem?_cons_zero, List.getElem?_cons_succ, Option.bind_some, Act.put, List.setIfInBounds_toArray, List.set_cons_zero, List.set_cons_succ] at hK ⊢
          rw [d7] at hK ⊢
          go_simp
          exact hK (undef) _ HJ.out rfl (fun j y h => h) _ rfl
        · obtain rfl := Option.some.inj ho.symm
          have d7 : V 7 = .bool false := hdep ⟨7, .data⟩ (by simp) rfl
          have d16 : V 16 = undef := hdep ⟨16, .data⟩ (by simp) rfl
          have d4 : V 4 = .bool false := hdep ⟨4, .guard⟩ (by simp) rfl
          clear hdep ho hJ
          try simp only [fill, slotOf, List.size_toArray, List.length_cons, List.length_nil, Nat.reduceAdd, List.getElem?_toArray, List.getElem?_cons_zero, List.getElem?_cons_succ, Option.bind_some, Act.put, List.setIfInBounds_toArray, List.set_cons_zero, List.set_cons_succ] at hK ⊢
          rw [d7, d16, d4] at hK ⊢
          go_simp
          exact hK (.bool false) _ HJ.out rfl (fun j y h => h) _ rfl
        · obtain rfl := Option.some.inj ho.symm
          have d4 : V 4 = .bool false := hdep ⟨4, .data⟩ (by simp) rfl
          have d17 : V 17 = .bool false := hdep ⟨17, .data⟩ (by simp) rfl
          clear hdep ho hJ
          try simp only [fill, slotOf, List.size_toArray, List.length_cons, List.length_nil, Nat.reduceAdd, List.getElem?_toArray, List.getElem?_cons_zero, List.getElem?_cons_succ, Option.bind_some, Act.put, List.setIfInBounds_toArray, List.set_cons_zero, List.set_cons_succ] at hK ⊢
          rw [d4, d17] at hK ⊢
          go_simp
          exact hK (.bool false) _ HJ.out rfl (fun j y h => h) _ rfl
      · intro V w9 hJ hall
        have dL : V 18 = .bool false := hall 18 (by decide)
        have HJ9 := Lib.hid hJ
        clear hall hJ
        simp only [fill, slotOf, List.size_toArray, List.length_cons, List.length_nil, Nat.reduceAdd, List.getElem?_toArray, List.getElem?_cons_zero, List.getElem?_cons_succ, Option.bind_some, Act.put, List.setIfInBounds_toArray, List.set_cons_zero, List.set_cons_succ]
        rw [dL]
        clear dL
        have HBZ := Lib.hid (HAL.out.trans (HJ9.out.mono HAL.out.size))
        go_wp2_with fail
        go_roundw
        case rel => exact ⟨1, by omega, rfl, HBZ⟩
        case measure => simp [intOf]
    · obtain rfl : k = 1 := by omega
      go_wp2_with fail
      go_ret
      exact ⟨rfl, HB.out⟩
set_option maxRecDepth 100000 in
theorem right_zero (w : World) : Calls Tryz.prog 11 #[.agg #[.int .i64 0, .int .i64 0, .int .i64 0, .slice none 0 0, .slice none 0 0, .slice none 0 0]] w fun e w' => e = .returned (.bool true) ∧ Below w.heap.size w w' := by
  have HB := Lib.hid ((Below.refl w.heap.size w).alloc (Nat.le_refl _) (.cells #[.int .i64 0, .int .i64 0, .int .i64 0, .slice none 0 0, .slice none 0 0, .slice none 0 0] 26))
  go_enter Tryz.func11, Tryz.ntmps11
  go_wp2_with fail
  refine (within_yes (by omega) (by omega) _).mono ?_
  rintro e w1 ⟨rfl, rfl⟩
  go_wp2_with fail
  refine (within_yes (by omega) (by omega) _).mono ?_
  rintro e w1 ⟨rfl, rfl⟩
  go_wp2_with fail
  refine (within_yes (by omega) (by omega) _).mono ?_
  rintro e w1 ⟨rfl, rfl⟩
  go_wp2_with fail
  refine (rising_nilE none 0 _ _ _).mono ?_
  rintro e w1 ⟨rfl, rfl⟩
  go_wp2_with fail
  refine (rising_nilM none 0 _ _ _).mono ?_
  rintro e w1 ⟨rfl, rfl⟩
  go_wp2_with fail
  refine (rising_nilO none 0 _ _ _).mono ?_
  rintro e w1 ⟨rfl, rfl⟩
  go_wp2_with fail
  go_ret
  exact ⟨rfl, HB.out⟩

@[go_sem] theorem eql_nilM (w : World) (n c n' c' : Nat) : (binOp .eql 23 (.slice none n c) (.slice none n' c')).run Tryz.prog w = .ok (.bool true) w := Lib.run_eql_slice_nil w _ _ none n c n' c' Tryz.underlying23
set_option maxRecDepth 100000 in
theorem clone_nilM (w : World) : Calls Tryz.prog 70 #[.slice none 0 0] w fun e w' => e = .returned (.slice none 0 0) ∧ w' = w := by
  go_enter Tryz.func70, Tryz.ntmps70
  go_wp2_with fail
  go_ret
  exact ⟨rfl, rfl⟩
set_option maxRecDepth 100000 in
theorem bsf_nilM (x y : Int) (f : Value) (w : World) : Calls Tryz.prog 104 #[.slice none 0 0, .agg #[.int .i64 x, .int .i64 y], f] w fun e w' => e = .returned (.tuple #[.int .i64 0, .bool false]) ∧ Below w.heap.size w w' := by
  have HB := Lib.hid ((Below.refl w.heap.size w).alloc (Nat.le_refl _) (.cells #[.int .i64 x, .int .i64 y] 43))
  go_enter Tryz.func104, Tryz.ntmps104
  go_wp2_with fail
  refine wp_loop_rounds 1 ?_
  rw [rounds_succ]
  go_wp2_with fail
  go_region
  go_wp2_with fail
  first | go_ret2 | go_ret
  exact ⟨rfl, HB.out.drew⟩
set_option maxRecDepth 100000 in
set_option maxHeartbeats 1000000 in
theorem insert_nilM {w : World} {g c : Nat} {x y : Int} (h : VecAt MarkS w (some ⟨g, 0, none⟩) 1 c [(x, y)]) : Calls Tryz.prog 105 #[.slice none 0 0, .int .i64 0, .slice (some ⟨g, 0, none⟩) 1 c] w fun e w' => ∃ g' c', e = .returned (.slice (some ⟨g', 0, none⟩) 1 c') ∧ w.heap.size ≤ g' ∧ VecAt MarkS w' (some ⟨g', 0, none⟩) 1 c' [(x, y)] ∧ Below w.heap.size w w' := by
  obtain ⟨i0, ii, iz0, iz1, iz2⟩ := info_parts mark_info
  have hcap := h.cap
  have hcm := h.capm
  have HSRC := Lib.hid h.src
  have HO := Lib.hid (World.ownsRow_nil w w.heap.size 43 2)
  clear h
  go_enter Tryz.func105, Tryz.ntmps105
  go_wp2_with (at_builtin; refine wpList_append_own_at _ rfl (.tmp 23) (.tmp 24) 23 rfl w.heap.size 43 i0 _ 2 16 Tryz.underlying23 ii iz0 iz1 iz2 rfl (by decide) _ 0 _ rfl HO.out ⟨g, 0, none⟩ 1 c (MarkS.flat [(x, y)]) rfl rfl HSRC.out (MarkS.flat_one _) (by unfold maxLen; omega) (by omega) (Nat.le_refl _) ?_)
  intro v w1 ho hg _ _
  have hv : ∃ g' c', v = .slice (some ⟨g', 0, none⟩) 1 c' ∧ w.heap.size ≤ g' := by
    rcases ho.2 with ⟨_, h0⟩ | ⟨g', cap, cur, rfl, hb, _⟩
    · simp at h0
    · exact ⟨g', cap, rfl, hb⟩
  obtain ⟨g', c', rfl, hge⟩ := hv
  have HV := Lib.hid (show VecAt MarkS w1 (some ⟨g', 0, none⟩) 1 c' [(x, y)] from VecAt.ofOwn (S := MarkS) ho rfl (fun _ _ => trivial))
  have HB := Lib.hid (below_own (Below.refl _ _) HO.out hg (Nat.le_refl _) (Nat.le_refl _))
  have HG := Lib.hid hge
  clear ho hg hge
  go_wp2_with fail
  go_ret
  exact ⟨g', c', rfl, HG.out, HV.out, HB.out⟩
set_option maxRecDepth 100000 in
set_option maxHeartbeats 1000000 in
theorem put_nilM (x y : Int) (f : Value) (w : World) : Calls Tryz.prog 71 #[.slice none 0 0, .agg #[.int .i64 x, .int .i64 y], f] w fun e w' => ∃ g c, e = .returned (.slice (some ⟨g, 0, none⟩) 1 c) ∧ w.heap.size ≤ g ∧ VecAt MarkS w' (some ⟨g, 0, none⟩) 1 c [(x, y)] ∧ Below w.heap.size w w' := by
  obtain ⟨wa, hwa⟩ : ∃ wa, wa = w.alloc (.cells #[.int .i64 x, .int .i64 y] 43) := ⟨_, rfl⟩
  have ba : Below w.heap.size w wa := by rw [hwa]; exact (Below.refl _ _).alloc (Nat.le_refl _) _
  have ga : wa.heap[w.heap.size]? = some (.cells #[.int .i64 x, .int .i64 y] 43 (0, 0)) := by rw [hwa]; exact heap_alloc_new _ _
  have HBA := Lib.hid ba
  have HGA := Lib.hid ga
  have HWA := Lib.hid hwa
  have HBS := Lib.hid (bsf_nilM x y f wa)
  clear hwa ba ga
  go_enter Tryz.func71, Tryz.ntmps71
  go_wp2_with fail
  rw [← HWA.out]
  refine HBS.out.mono ?_
  rintro e w1 ⟨rfl, hb1⟩
  have HB1 := Lib.hid (HBA.out.trans (hb1.mono HBA.out.size))
  have hg1 := (hb1.block w.heap.size (Array.getElem?_eq_some_iff.1 HGA.out).1).trans HGA.out
  have c0 : w1.cell? ⟨w.heap.size, 0, none⟩ = some (.int .i64 x) := cell_blk hg1 rfl
  have c1 : w1.cell? ⟨w.heap.size, 1, none⟩ = some (.int .i64 y) := cell_blk hg1 rfl
  obtain ⟨w2, hw2⟩ : ∃ w2, w2 = w1.alloc (.cells #[.int .i64 x, .int .i64 y] 43) := ⟨_, rfl⟩
  have HB2 := Lib.hid (show Below w.heap.size w w2 from by rw [hw2]; exact HB1.out.alloc HB1.out.size _)
  have HV2 := Lib.hid (show VecAt MarkS w2 (some ⟨w1.heap.size, 0, none⟩) 1 1 [(x, y)] from by
    rw [hw2]
    exact VecAt.ofOwn (S := MarkS) (World.ownsRow_lit (base := w1.heap.size) (e := 43) (size := 2) w1 #[.int .i64 x, .int .i64 y] 1 (Nat.le_refl _) (by unfold maxLen; omega) rfl) rfl (fun _ _ => trivial))
  have HW2 := Lib.hid hw2
  have HIN := Lib.hid (insert_nilM HV2.out)
  clear hb1 hg1 hw2
  go_wp2_with fail
  rw [← HW2.out]
  refine HIN.out.mono ?_
  rintro e w3 ⟨g, c, rfl, hge, hv, hb⟩
  have HB3 := Lib.hid (HB2.out.trans (hb.mono HB2.out.size))
  have HV := Lib.hid hv
  have HG := Lib.hid (Nat.le_trans HB2.out.size hge)
  clear hge hv hb
  go_wp2_with fail
  go_ret
  exact ⟨g, c, rfl, HG.out, HV.out, HB3.out⟩

@[go_sem] theorem eql_nilO (w : World) (n c n' c' : Nat) : (binOp .eql 24 (.slice none n c) (.slice none n' c')).run Tryz.prog w = .ok (.bool true) w := Lib.run_eql_slice_nil w _ _ none n c n' c' Tryz.underlying24
set_option maxRecDepth 100000 in
theorem clone_nilO (w : World) : Calls Tryz.prog 73 #[.slice none 0 0] w fun e w' => e = .returned (.slice none 0 0) ∧ w' = w := by
  go_enter Tryz.func73, Tryz.ntmps73
  go_wp2_with fail
  go_ret
  exact ⟨rfl, rfl⟩
set_option maxRecDepth 100000 in
theorem bsf_nilO (x y z : Int) (f : Value) (w : World) : Calls Tryz.prog 106 #[.slice none 0 0, .agg #[.int .i64 x, .int .i64 y, .int .i64 z], f] w fun e w' => e = .returned (.tuple #[.int .i64 0, .bool false]) ∧ Below w.heap.size w w' := by
  have HB := Lib.hid ((Below.refl w.heap.size w).alloc (Nat.le_refl _) (.cells #[.int .i64 x, .int .i64 y, .int .i64 z] 45))
  go_enter Tryz.func106, Tryz.ntmps106
  go_wp2_with fail
  refine wp_loop_rounds 1 ?_
  rw [rounds_succ]
  go_wp2_with fail
  go_region
  go_wp2_with fail
  first | go_ret2 | go_ret
  exact ⟨rfl, HB.out.drew⟩
set_option maxRecDepth 100000 in
set_option maxHeartbeats 1000000 in
theorem insert_nilO {w : World} {g c : Nat} {x y z : Int} (h : VecAt OwnS w (some ⟨g, 0, none⟩) 1 c [(x, y, z)]) : Calls Tryz.prog 107 #[.slice none 0 0, .int .i64 0, .slice (some ⟨g, 0, none⟩) 1 c] w fun e w' => ∃ g' c', e = .returned (.slice (some ⟨g', 0, none⟩) 1 c') ∧ w.heap.size ≤ g' ∧ VecAt OwnS w' (some ⟨g', 0, none⟩) 1 c' [(x, y, z)] ∧ Below w.heap.size w w' := by
  obtain ⟨i0, ii, iz0, iz1, iz2⟩ := info_parts own_info
  have hcap := h.cap
  have hcm := h.capm
  have HSRC := Lib.hid h.src
  have HO := Lib.hid (World.ownsRow_nil w w.heap.size 45 3)
  clear h
  go_enter Tryz.func107, Tryz.ntmps107
  go_wp2_with (at_builtin; refine wpList_append_own_at _ rfl (.tmp 23) (.tmp 24) 24 rfl w.heap.size 45 i0 _ 3 24 Tryz.underlying24 ii iz0 iz1 iz2 rfl (by decide) _ 0 _ rfl HO.out ⟨g, 0, none⟩ 1 c (OwnS.flat [(x, y, z)]) rfl rfl HSRC.out (OwnS.flat_one _) (by unfold maxLen; omega) (by omega) (Nat.le_refl _) ?_)
  intro v w1 ho hg _ _
  have hv : ∃ g' c', v = .slice (some ⟨g', 0, none⟩) 1 c' ∧ w.heap.size ≤ g' := by
    rcases ho.2 with ⟨_, h0⟩ | ⟨g', cap, cur, rfl, hb, _⟩
    · simp at h0
    · exact ⟨g', cap, rfl, hb⟩
  obtain ⟨g', c', rfl, hge⟩ := hv
  have HV := Lib.hid (show VecAt OwnS w1 (some ⟨g', 0, none⟩) 1 c' [(x, y, z)] from VecAt.ofOwn (S := OwnS) ho rfl (fun _ _ => trivial))
  have HB := Lib.hid (below_own (Below.refl _ _) HO.out hg (Nat.le_refl _) (Nat.le_refl _))
  have HG := Lib.hid hge
  clear ho hg hge
  go_wp2_with fail
  go_ret
  exact ⟨g', c', rfl, HG.out, HV.out, HB.out⟩
set_option maxRecDepth 100000 in
set_option maxHeartbeats 1000000 in
theorem put_nilO (x y z : Int) (f : Value) (w : World) : Calls Tryz.prog 72 #[.slice none 0 0, .agg #[.int .i64 x, .int .i64 y, .int .i64 z], f] w fun e w' => ∃ g c, e = .returned (.slice (some ⟨g, 0, none⟩) 1 c) ∧ w.heap.size ≤ g ∧ VecAt OwnS w' (some ⟨g, 0, none⟩) 1 c [(x, y, z)] ∧ Below w.heap.size w w' := by
  obtain ⟨wa, hwa⟩ : ∃ wa, wa = w.alloc (.cells #[.int .i64 x, .int .i64 y, .int .i64 z] 45) := ⟨_, rfl⟩
  have ba : Below w.heap.size w wa := by rw [hwa]; exact (Below.refl _ _).alloc (Nat.le_refl _) _
  have ga : wa.heap[w.heap.size]? = some (.cells #[.int .i64 x, .int .i64 y, .int .i64 z] 45 (0, 0)) := by rw [hwa]; exact heap_alloc_new _ _
  have HBA := Lib.hid ba
  have HGA := Lib.hid ga
  have HWA := Lib.hid hwa
  have HBS := Lib.hid (bsf_nilO x y z f wa)
  clear hwa ba ga
  go_enter Tryz.func72, Tryz.ntmps72
  go_wp2_with fail
  rw [← HWA.out]
  refine HBS.out.mono ?_
  rintro e w1 ⟨rfl, hb1⟩
  have HB1 := Lib.hid (HBA.out.trans (hb1.mono HBA.out.size))
  have hg1 := (hb1.block w.heap.size (Array.getElem?_eq_some_iff.1 HGA.out).1).trans HGA.out
  have c0 : w1.cell? ⟨w.heap.size, 0, none⟩ = some (.int .i64 x) := cell_blk hg1 rfl
  have c1 : w1.cell? ⟨w.heap.size, 1, none⟩ = some (.int .i64 y) := cell_blk hg1 rfl
  have c2 : w1.cell? ⟨w.heap.size, 2, none⟩ = some (.int .i64 z) := cell_blk hg1 rfl
  obtain ⟨w2, hw2⟩ : ∃ w2, w2 = w1.alloc (.cells #[.int .i64 x, .int .i64 y, .int .i64 z] 45) := ⟨_, rfl⟩
  have HB2 := Lib.hid (show Below w.heap.size w w2 from by rw [hw2]; exact HB1.out.alloc HB1.out.size _)
  have HV2 := Lib.hid (show VecAt OwnS w2 (some ⟨w1.heap.size, 0, none⟩) 1 1 [(x, y, z)] from by
    rw [hw2]
    exact VecAt.ofOwn (S := OwnS) (World.ownsRow_lit (base := w1.heap.size) (e := 45) (size := 3) w1 #[.int .i64 x, .int .i64 y, .int .i64 z] 1 (Nat.le_refl _) (by unfold maxLen; omega) rfl) rfl (fun _ _ => trivial))
  have HW2 := Lib.hid hw2
  have HIN := Lib.hid (insert_nilO HV2.out)
  clear hb1 hg1 hw2
  go_wp2_with fail
  rw [← HW2.out]
  refine HIN.out.mono ?_
  rintro e w3 ⟨g, c, rfl, hge, hv, hb⟩
  have HB3 := Lib.hid (HB2.out.trans (hb.mono HB2.out.size))
  have HV := Lib.hid hv
  have HG := Lib.hid (Nat.le_trans HB2.out.size hge)
  clear hge hv hb
  go_wp2_with fail
  go_ret
  exact ⟨g, c, rfl, HG.out, HV.out, HB3.out⟩

end Go.Proofs.YtbdgcfimbblncaaGreatDoor
end PkMC4_3
