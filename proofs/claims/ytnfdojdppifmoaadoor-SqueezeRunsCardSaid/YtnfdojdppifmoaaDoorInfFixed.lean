/- Package inflate: fixedCodes, walked: the codes of kind 1. -/
import Derived.Test.YtnfdojdppifmoaaDoorInfSym
namespace Go.Proofs.YtnfdojdppifmoaaDoor
open Go.RowKit PrefPlain BitsPlain InfPlain
set_option linter.unusedVariables false

theorem mk_fixL : mk fixL = 0 := by decide +kernel
theorem mk_fixD : mk fixD = 0 := by decide +kernel
/-- X, then b so often, then a -/
def stRow (X : List Int) (b a : Int) (j n : Nat) : List Int := X ++ List.replicate j b ++ List.replicate n a
theorem stRow_len (X : List Int) (b a : Int) (j n : Nat) : (stRow X b a j n).length = X.length + j + n := by simp [stRow]; omega
theorem stRow_set (X : List Int) (b a : Int) (j n k : Nat) (hk : k = X.length + j) : (stRow X b a j (n + 1)).set k b = stRow X b a (j + 1) n := by
  unfold stRow
  have h : (X ++ List.replicate j b).length = k := by simp [hk]
  rw [List.replicate_succ (n := n), List.set_append, if_neg (by omega), h, Nat.sub_self, List.set_cons_zero, List.replicate_succ' (n := j)]
  simp
theorem stRow_get (X : List Int) (b a : Int) (j n k : Nat) (hk : k = X.length + j) : (stRow X b a j (n + 1)).getD k 0 = a := by
  unfold stRow
  rw [List.getD_eq_getElem?_getD, List.getElem?_append_right (by simp [hk]), List.length_append, List.length_replicate, hk, Nat.sub_self]
  simp
def fixA : List Int := List.replicate 144 8
def fixB : List Int := fixA ++ List.replicate 112 9
theorem fix_1 : stRow fixA 9 8 0 144 = List.replicate 288 8 := by decide +kernel
theorem fix_2 : stRow fixA 9 8 112 32 = stRow fixB 7 8 0 32 := by decide +kernel
theorem fix_3 : stRow fixB 7 8 24 8 = fixL := by decide +kernel
theorem fixA_len : fixA.length = 144 := by decide +kernel
theorem fixB_len : fixB.length = 256 := by decide +kernel
theorem fix_wf : ∀ z ∈ fixL, (Lit.int .i64 z).wf = true := by decide +kernel
theorem fixD_wf : ∀ z ∈ fixD, (Lit.int .i64 z).wf = true := by decide +kernel

/-- a literal of one integer -/
theorem ints_one (w : World) (z : Int) (hz : (Lit.int .i64 z).wf = true) : IntsAt .i64 (w.alloc (.cells #[.int .i64 z] 3)) (some ⟨w.heap.size, 0, none⟩) 1 1 [z] :=
  IntsAt.own (World.ownsRow_lit (base := w.heap.size) (e := 3) (size := 1) w #[.int .i64 z] 1 (Nat.le_refl _) (by unfold maxLen; omega) rfl) (by intro y hy; rw [List.mem_singleton.1 hy]; exact hz)

set_option maxRecDepth 100000 in
set_option maxHeartbeats 2000000 in
theorem ifixed_any (w : World) :
    Calls Tryd.prog 35 #[] w fun e w' => ∃ LB DB, e = .returned (.agg #[.pointer (some ⟨LB, 0, none⟩), .pointer (some ⟨DB, 0, none⟩)]) ∧ Below w.heap.size w w' ∧ w.heap.size ≤ LB ∧ w.heap.size ≤ DB ∧ TabUp w.heap.size w' LB fixL ∧ TabUp w.heap.size w' DB fixD := by
  obtain ⟨w1, hw1⟩ : ∃ w1, w1 = w.alloc (.cells #[.pointer none, .pointer none] 39) := ⟨_, rfl⟩
  have hb1 : Below w.heap.size w w1 := by rw [hw1]; exact (Below.refl _ _).alloc (Nat.le_refl _) _
  have hs1 : w1.heap.size = w.heap.size + 1 := by rw [hw1]; simp
  have hx1 : w1.heap[w.heap.size]? = some (.cells #[.pointer none, .pointer none] 39 (0, 0)) := by rw [hw1]; exact heap_alloc_new w _
  have hp := repeat_any (ints_one w1 8 (by decide)) 288 (by omega) (by omega)
  have hb2 : Below w1.heap.size w1 (w1.alloc (.cells #[.int .i64 8] 3)) := (Below.refl _ _).alloc (Nat.le_refl _) _
  have hs2 : w1.heap.size ≤ (w1.alloc (.cells #[.int .i64 8] 3)).heap.size := hb2.size
  rw [hs1] at hp
  rw [hw1] at hp
  have HP := Lib.hid hp
  have HB2 := Lib.hid hb2
  have HB1 := Lib.hid hb1
  have HX1 := Lib.hid hx1
  have HS1 := Lib.hid hs1
  have HW1 := Lib.hid hw1
  clear hp hb1 hb2 hx1 hs1 hs2 hw1
  go_enter Tryd.func35, Tryd.ntmps35
  go_wp2_with fail
  refine HP.out.mono ?_
  rintro e w3 ⟨v3, rfl, ho3, hb3⟩
  rw [← HW1.out] at ho3 hb3
  rw [← fix_1] at ho3
  obtain ⟨b2, hb2⟩ : ∃ b2, b2 = (w1.alloc (.cells #[.int .i64 8] 3)).heap.size := ⟨_, rfl⟩
  rw [← hb2] at ho3
  obtain ⟨g, c, rfl⟩ := own_some ho3 (by omega)
  have HB3 := Lib.hid (HB2.out.trans (hb3.mono HB2.out.size))
  have HG := Lib.hid (show w1.heap.size ≤ g by have := (ho3.lt g rfl).1; have := HB2.out.size; omega)
  have HO3 := Lib.hid ho3
  clear ho3 hb3 hb2
  go_wp2_with fail
  go_loopw [2] (fun s2 wr => ∃ k : Nat, 144 ≤ k ∧ k ≤ 256 ∧ s2 = .int .i64 (k : Int) ∧ Hid (wr.ownsRow b2 3 1 (.slice (some ⟨g, 0, none⟩) 288 c) 288 (iv .i64 (stRow fixA 9 8 (k - 144) (288 - k)))) ∧ Hid (Below w1.heap.size w1 wr)) (fun s2 _ => 256 - (intOf s2).toNat)
  case atStart => exact ⟨144, by omega, by omega, rfl, HO3, HB3⟩
  case round =>
    obtain ⟨k, hk1, hk2, rfl, HO, HB⟩ := hrel
    rename World => wr
    by_cases hlt : k < 256
    · have hc1 : wr.cell? ⟨g, k, none⟩ = some (.int .i64 8) := by
        rw [HO.out.cellAt k (by omega), iv_get _ _ _ (by rw [stRow_len, fixA_len]; omega), show 288 - k = (287 - k) + 1 from by omega, stRow_get _ _ _ _ _ _ (by rw [fixA_len]; omega)]
      have hf1 := HO.out.frozenAt k
      have hst := (HO.out.stored k (.int .i64 9)).1
      rw [iv_set, show 288 - k = (287 - k) + 1 from by omega, stRow_set _ _ _ _ _ _ (by rw [fixA_len]; omega), show k - 144 + 1 = k + 1 - 144 from by omega, show 287 - k = 288 - (k + 1) from by omega] at hst
      have HST := Lib.hid hst
      have HBS := Lib.hid (show Below w1.heap.size w1 (wr.setCell ⟨g, k, none⟩ (.int .i64 9)) from HB.out.setCell HG.out _)
      have hki : (k : Int) < 288 := by omega
      clear hst
      go_wp2_with fail
      go_roundw
      case rel => exact ⟨k + 1, by omega, by omega, by go_num, HST, HBS⟩
      case measure => simp [intOf]; omega
    · obtain rfl : k = 256 := by omega
      have HO4 : Hid (wr.ownsRow b2 3 1 (.slice (some ⟨g, 0, none⟩) 288 c) 288 (iv .i64 (stRow fixB 7 8 0 32))) := Lib.hid (by rw [← fix_2]; exact HO.out)
      clear HO hlt
      go_wp2_with fail
      go_loopw [3] (fun s3 wq => ∃ k : Nat, 256 ≤ k ∧ k ≤ 280 ∧ s3 = .int .i64 (k : Int) ∧ Hid (wq.ownsRow b2 3 1 (.slice (some ⟨g, 0, none⟩) 288 c) 288 (iv .i64 (stRow fixB 7 8 (k - 256) (288 - k)))) ∧ Hid (Below w1.heap.size w1 wq)) (fun s3 _ => 280 - (intOf s3).toNat)
      case atStart => exact ⟨256, by omega, by omega, rfl, HO4, HB⟩
      case round =>
        clear HB HO4
        obtain ⟨k, hk3, hk4, rfl, HO, HB⟩ := hrel
        rename World => wq
        by_cases hlt : k < 280
        · have hc1 : wq.cell? ⟨g, k, none⟩ = some (.int .i64 8) := by
            rw [HO.out.cellAt k (by omega), iv_get _ _ _ (by rw [stRow_len, fixB_len]; omega), show 288 - k = (287 - k) + 1 from by omega, stRow_get _ _ _ _ _ _ (by rw [fixB_len]; omega)]
          have hf1 := HO.out.frozenAt k
          have hst := (HO.out.stored k (.int .i64 7)).1
          rw [iv_set, show 288 - k = (287 - k) + 1 from by omega, stRow_set _ _ _ _ _ _ (by rw [fixB_len]; omega), show k - 256 + 1 = k + 1 - 256 from by omega, show 287 - k = 288 - (k + 1) from by omega] at hst
          have HST := Lib.hid hst
          have HBS := Lib.hid (show Below w1.heap.size w1 (wq.setCell ⟨g, k, none⟩ (.int .i64 7)) from HB.out.setCell HG.out _)
          have hki : (k : Int) < 288 := by omega
          clear hst
          go_wp2_with fail
          go_roundw
          case rel => exact ⟨k + 1, by omega, by omega, by go_num, HST, HBS⟩
          case measure => simp [intOf]; omega
        · obtain rfl : k = 280 := by omega
          have hO5 : wq.ownsRow b2 3 1 (.slice (some ⟨g, 0, none⟩) 288 c) 288 (iv .i64 fixL) := by rw [← fix_3]; exact HO.out
          have hm := make2_any (IntsAt.own hO5 fix_wf)
          rw [mk_fixL] at hm
          have HM := Lib.hid hm
          clear HO hlt hO5 hm
          go_wp2_with fail
          refine HM.out.mono ?_
          rintro e w5 ⟨p, rfl, hb5, _, hp5⟩
          obtain ⟨LB, rfl, hLB, hT5⟩ := hp5 trivial
          have HB5 := Lib.hid (HB.out.trans (hb5.mono HB.out.size))
          have HLB := Lib.hid (show w1.heap.size ≤ LB by have := HB.out.size; omega)
          have HWQ := Lib.hid (show w1.heap.size ≤ wq.heap.size from HB.out.size)
          have HT5 := Lib.hid hT5
          have HP5 := Lib.hid (repeat_any (ints_one w5 5 (by decide)) 32 (by omega) (by omega))
          have HB5a := Lib.hid (show Below w5.heap.size w5 (w5.alloc (.cells #[.int .i64 5] 3)) from (Below.refl _ _).alloc (Nat.le_refl _) _)
          clear hb5 hp5 hT5 hLB
          go_wp2_with fail
          refine HP5.out.mono ?_
          rintro e w6 ⟨v6, rfl, ho6, hb6⟩
          have HB6 := Lib.hid (HB5a.out.trans (hb6.mono HB5a.out.size))
          obtain ⟨g6, c6, rfl⟩ := own_some ho6 (by omega)
          have hm6 := make2_any (IntsAt.own (zs := fixD) ho6 fixD_wf)
          rw [mk_fixD] at hm6
          have HM6 := Lib.hid hm6
          clear ho6 hb6 hm6
          go_wp2_with fail
          refine HM6.out.mono ?_
          rintro e w7 ⟨p7, rfl, hb7, _, hp7⟩
          obtain ⟨DB, rfl, hDB, hT7⟩ := hp7 trivial
          have HB7 := Lib.hid (HB6.out.trans (hb7.mono HB6.out.size))
          have hb17 := HB5.out.trans (HB7.out.mono HB5.out.size)
          have hblk : w7.heap[w.heap.size]? = some (.cells #[.pointer none, .pointer none] 39 (0, 0)) := (hb17.block _ (by rw [HS1.out]; omega)).trans HX1.out
          have hc0 : w7.cell? ⟨w.heap.size, 0, none⟩ = some (.pointer none) := by rw [cell_of_row w7 _ 0 _ _ (0, 0) hblk]; rfl
          have hc1 : w7.cell? ⟨w.heap.size, 1, none⟩ = some (.pointer none) := by rw [cell_of_row w7 _ 1 _ _ (0, 0) hblk]; rfl
          have hf0 := frozen_of_row w7 w.heap.size 0 _ _ hblk
          have hf1 := frozen_of_row w7 w.heap.size 1 _ _ hblk
          have HT7 := Lib.hid hT7
          have HBK := Lib.hid hblk
          have HDB := Lib.hid (show w1.heap.size ≤ DB by have := HB5.out.size; have := HB6.out.size; omega)
          have HB17 := Lib.hid hb17
          clear hb7 hp7 hT7 hDB hb17 hblk
          go_wp2_with fail
          have h8 : ((w7.setCell ⟨w.heap.size, 0, none⟩ (.pointer (some ⟨LB, 0, none⟩))).setCell ⟨w.heap.size, 1, none⟩ (.pointer (some ⟨DB, 0, none⟩))).heap[w.heap.size]? = some (.cells #[.pointer (some ⟨LB, 0, none⟩), .pointer (some ⟨DB, 0, none⟩)] 39 (0, 0)) := by
            rw [heap_setCell_same _ _ 1 _ _ _ (heap_setCell_same w7 _ 0 _ _ _ HBK.out)]; rfl
          have c80 := cell_of_row _ _ 0 _ _ (0, 0) h8
          have c81 := cell_of_row _ _ 1 _ _ (0, 0) h8
          have hoth : ∀ k, w1.heap.size ≤ k → k < w7.heap.size → ((w7.setCell ⟨w.heap.size, 0, none⟩ (.pointer (some ⟨LB, 0, none⟩))).setCell ⟨w.heap.size, 1, none⟩ (.pointer (some ⟨DB, 0, none⟩))).heap[k]? = w7.heap[k]? := fun k hk hlt => two_sets _ _ _ _ k (by have := HS1.out; omega) hlt
          have hsz8 : w7.heap.size ≤ ((w7.setCell ⟨w.heap.size, 0, none⟩ (.pointer (some ⟨LB, 0, none⟩))).setCell ⟨w.heap.size, 1, none⟩ (.pointer (some ⟨DB, 0, none⟩))).heap.size := by simp
          have hbf : Below w.heap.size w ((w7.setCell ⟨w.heap.size, 0, none⟩ (.pointer (some ⟨LB, 0, none⟩))).setCell ⟨w.heap.size, 1, none⟩ (.pointer (some ⟨DB, 0, none⟩))) := ((HB1.out.trans (HB17.out.mono HB1.out.size)).setCell (Nat.le_refl _) _).setCell (Nat.le_refl _) _
          generalize ((w7.setCell ⟨w.heap.size, 0, none⟩ (.pointer (some ⟨LB, 0, none⟩))).setCell ⟨w.heap.size, 1, none⟩ (.pointer (some ⟨DB, 0, none⟩))) = w8 at *
          have s1 := HS1.out
          have s5 := HWQ.out
          have s7 := HB7.out.size
          refine bodyPost_ret (v := .agg #[.pointer (some ⟨LB, 0, none⟩), .pointer (some ⟨DB, 0, none⟩)]) (by simp [results, Tryd.results35, go_sem, c80, c81]) rfl ⟨LB, DB, rfl, hbf, by have := HLB.out; omega, by have := HDB.out; omega, ?_, ?_⟩
          · exact (HT5.out.on HB7.out (b1 := wq.heap.size) (Nat.le_refl _)).on' hsz8 (fun k h1 h2 => hoth k (by omega) h2) (by omega)
          · exact HT7.out.on' hsz8 (fun k h1 h2 => hoth k (by have := HB5.out.size; have := HB6.out.size; omega) h2) (by have := HB5.out.size; have := HB6.out.size; omega)
end Go.Proofs.YtnfdojdppifmoaaDoor
