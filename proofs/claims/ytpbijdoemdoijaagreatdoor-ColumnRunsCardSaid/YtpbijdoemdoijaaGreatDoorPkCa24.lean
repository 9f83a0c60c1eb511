/- Texts put together by packtpl2.py: InfFixed, InfThird. -/
import Derived.Test.YtpbijdoemdoijaaGreatDoorPkCa23
section PkCa24_0
/- Package inflate: fixedCodes, walked: the codes of kind 1. -/
namespace Go.Proofs.YtpbijdoemdoijaaGreatDoor
open Go.RowKit PrefPlain BitsPlain InfPlain
set_option linter.unusedVariables false

theorem mk_fixL : mk fixL = 0 := by decide +kernel
theorem mk_fixD : mk fixD = 0 := by decide +kernel
/-- X, then b so often, then a -/
def stRow (X : List Int) (b a : Int) (j n : Nat) : List Int := X ++ List.replicate j b ++ List.replicate n a
theorem stRow_len (X : List Int) (b a : Int) (j n : Nat) : (stRow X b a j n).length = X.length + j + n := by simp [stRow]; omega
theorem stRow_set (X : List Int) (b a : Int) (j n k : Nat) (hk : k = X.length + j) : (stRow X b a j (n + 1)).set k b = stRow X b a (j + 1) n := by
  unfold stRow
  have h : (X ++ List.replicate j b).length = k := by simp [hk]
  rw [List.replicate_succ (n := n), List.set_append, if_neg (by omega), h, Nat.sub_self, List.set_cons_zero, List.replicate_succ' (n := j)]
  simp
theorem stRow_get (X : List Int) (b a : Int) (j n k : Nat) (hk : k = X.length + j) : (stRow X b a j (n + 1)).getD k 0 = a := by
  unfold stRow
  rw [List.getD_eq_getElem?_getD, List.getElem?_append_right (by simp [hk]), List.length_append, List.length_replicate, hk, Nat.sub_self]
  simp
def fixA : List Int := List.replicate 144 8
def fixB : List Int := fixA ++ List.replicate 112 9
theorem fix_1 : stRow fixA 9 8 0 144 = List.replicate 288 8 := by decide +kernel
theorem fix_2 : stRow fixA 9 8 112 32 = stRow fixB 7 8 0 32 := by decide +kernel
theorem fix_3 : stRow fixB 7 8 24 8 = fixL := by decide +kernel
theorem fixA_len : fixA.length = 144 := by decide +kernel
theorem fixB_len : fixB.length = 256 := by decide +kernel
theorem fix_wf : ∀ z ∈ fixL, (Lit.int .i64 z).wf = true := by decide +kernel
theorem fixD_wf : ∀ z ∈ fixD, (Lit.int .i64 z).wf = true := by decide +kernel

/-- a literal of one integer -/
theorem ints_one (w : World) (z : Int) (hz : (Lit.int .i64 z).wf = true) : IntsAt .i64 (w.alloc (.cells #[.int .i64 z] 3)) (some ⟨w.heap.size, 0, none⟩) 1 1 [z] :=
  IntsAt.own (World.ownsRow_lit (base := w.heap.size) (e := 3) (size := 1) w #[.int .i64 z] 1 (Nat.le_refl _) (by unfold maxLen; omega) rfl) (by intro y hy; rw [List.mem_singleton.1 hy]; exact hz)

set_option maxRecDepth 100000 in
set_option maxHeartbeats 2000000 in
theorem ifixed_any (w : World) :
    Calls Tryz.prog 196 #[] w fun e w' => ∃ LB DB, e = .returned (.agg #[.pointer (some ⟨LB, 0, none⟩), .pointer (some ⟨DB, 0, none⟩)]) ∧ Below w.heap.size w w' ∧ w.heap.size ≤ LB ∧ w.heap.size ≤ DB ∧ TabUp w.heap.size w' LB fixL ∧ TabUp w.heap.size w' DB fixD := by
  obtain ⟨w1, hw1⟩ : ∃ w1, w1 = w.alloc (.cells #[.pointer none, .pointer none] 187) := ⟨_, rfl⟩
  have hb1 : Below w.heap.size w w1 := by rw [hw1]; exact (Below.refl _ _).alloc (Nat.le_refl _) _
  have hs1 : w1.heap.size = w.heap.size + 1 := by rw [hw1]; simp
  have hx1 : w1.heap[w.heap.size]? = some (.cells #[.pointer none, .pointer none] 187 (0, 0)) := by rw [hw1]; exact heap_alloc_new w _
  have hp := repeat_any (ints_one w1 8 (by decide)) 288 (by omega) (by omega)
  have hb2 : Below w1.heap.size w1 (w1.alloc (.cells #[.int .i64 8] 3)) := (Below.refl _ _).alloc (Nat.le_refl _) _
  have hs2 : w1.heap.size ≤ (w1.alloc (.cells #[.int .i64 8] 3)).heap.size := hb2.size
  rw [hs1] at hp
  rw [hw1] at hp
  have HP := Lib.hid hp
  have HB2 := Lib.hid hb2
  have HB1 := Lib.hid hb1
  have HX1 := Lib.hid hx1
  have HS1 := Lib.hid hs1
  have HW1 := Lib.hid hw1
  clear hp hb1 hb2 hx1 hs1 hs2 hw1
  go_enter Tryz.func196, Tryz.ntmps196
  go_wp2_with fail
  refine HP.out.mono ?_
  rintro e w3 ⟨v3, rfl, ho3, hb3⟩
  rw [← HW1.out] at ho3 hb3
  rw [← fix_1] at ho3
  obtain ⟨b2, hb2⟩ : ∃ b2, b2 = (w1.alloc (.cells #[.int .i64 8] 3)).heap.size := ⟨_, rfl⟩
  rw [← hb2] at ho3
  obtain ⟨g, c, rfl⟩ := own_some ho3 (by omega)
  have HB3 := Lib.hid (HB2.out.trans (hb3.mono HB2.out.size))
  have HG := Lib.hid (show w1.heap.size ≤ g by have := (ho3.lt g rfl).1; have := HB2.out.size; omega)
  have HO3 := Lib.hid ho3
  clear ho3 hb3 hb2
  go_wp2_with fail
  go_loopw [2] (fun s2 wr => ∃ k : Nat, 144 ≤ k ∧ k ≤ 256 ∧ s2 = .int .i64 (k : Int) ∧ Hid (wr.ownsRow b2 3 1 (.slice (some ⟨g, 0, none⟩) 288 c) 288 (iv .i64 (stRow fixA 9 8 (k - 144) (288 - k)))) ∧ Hid (Below w1.heap.size w1 wr)) (fun s2 _ => 256 - (intOf s2).toNat)
  case atStart => exact ⟨144, by omega, by omega, rfl, HO3, HB3⟩
  case round =>
    obtain ⟨k, hk1, hk2, rfl, HO, HB⟩ := hrel
    rename World => wr
    by_cases hlt : k < 256
    · have hc1 : wr.cell? ⟨g, k, none⟩ = some (.int .i64 8) := by
        rw [HO.out.cellAt k (by omega), iv_get _ _ _ (by rw [stRow_len, fixA_len]; omega), show 288 - k = (287 - k) + 1 from by omega, stRow_get _ _ _ _ _ _ (by rw [fixA_len]; omega)]
      have hf1 := HO.out.frozenAt k
      have hst := (HO.out.stored k (.int .i64 9)).1
      rw [iv_set, show 288 - k = (287 - k) + 1 from by omega, stRow_set _ _ _ _ _ _ (by rw [fixA_len]; omega), show k - 144 + 1 = k + 1 - 144 from by omega, show 287 - k = 288 - (k + 1) from by omega] at hst
      have HST := Lib.hid hst
      have HBS := Lib.hid (show Below w1.heap.size w1 (wr.setCell ⟨g, k, none⟩ (.int .i64 9)) from HB.out.setCell HG.out _)
      have hki : (k : Int) < 288 := by omega
      clear hst
      go_wp2_with fail
      go_roundw
      case rel => exact ⟨k + 1, by omega, by omega, by go_num, HST, HBS⟩
      case measure => simp [intOf]; omega
    · obtain rfl : k = 256 := by omega
      have HO4 : Hid (wr.ownsRow b2 3 1 (.slice (some ⟨g, 0, none⟩) 288 c) 288 (iv .i64 (stRow fixB 7 8 0 32))) := Lib.hid (by rw [← fix_2]; exact HO.out)
      clear HO hlt
      go_wp2_with fail
      go_loopw [3] (fun s3 wq => ∃ k : Nat, 256 ≤ k ∧ k ≤ 280 ∧ s3 = .int .i64 (k : Int) ∧ Hid (wq.ownsRow b2 3 1 (.slice (some ⟨g, 0, none⟩) 288 c) 288 (iv .i64 (stRow fixB 7 8 (k - 256) (288 - k)))) ∧ Hid (Below w1.heap.size w1 wq)) (fun s3 _ => 280 - (intOf s3).toNat)
      case atStart => exact ⟨256, by omega, by omega, rfl, HO4, HB⟩
      case round =>
        clear HB HO4
        obtain ⟨k, hk3, hk4, rfl, HO, HB⟩ := hrel
        rename World => wq
        by_cases hlt : k < 280
        · have hc1 : wq.cell? ⟨g, k, none⟩ = some (.int .i64 8) := by
            rw [HO.out.cellAt k (by omega), iv_get _ _ _ (by rw [stRow_len, fixB_len]; omega), show 288 - k = (287 - k) + 1 from by omega, stRow_get _ _ _ _ _ _ (by rw [fixB_len]; omega)]
          have hf1 := HO.out.frozenAt k
          have hst := (HO.out.stored k (.int .i64 7)).1
          rw [iv_set, show 288 - k = (287 - k) + 1 from by omega, stRow_set _ _ _ _ _ _ (by rw [fixB_len]; omega), show k - 256 + 1 = k + 1 - 256 from by omega, show 287 - k = 288 - (k + 1) from by omega] at hst
          have HST := Lib.hid hst
          have HBS := Lib.hid (show Below w1.heap.size w1 (wq.setCell ⟨g, k, none⟩ (.int .i64 7)) from HB.out.setCell HG.out _)
          have hki : (k : Int) < 288 := by omega
          clear hst
          go_wp2_with fail
          go_roundw
          case rel => exact ⟨k + 1, by omega, by omega, by go_num, HST, HBS⟩
          case measure => simp [intOf]; omega
        · obtain rfl : k = 280 := by omega
          have hO5 : wq.ownsRow b2 3 1 (.slice (some ⟨g, 0, none⟩) 288 c) 288 (iv .i64 fixL) := by rw [← fix_3]; exact HO.out
          have hm := make2_any (IntsAt.own hO5 fix_wf)
          rw [mk_fixL] at hm
          have HM := Lib.hid hm
          clear HO hlt hO5 hm
          go_wp2_with fail
          refine HM.out.mono ?_
          rintro e w5 ⟨p, rfl, hb5, _, hp5⟩
          obtain ⟨LB, rfl, hLB, hT5⟩ := hp5 trivial
          have HB5 := Lib.hid (HB.out.trans (hb5.mono HB.out.size))
          have HLB := Lib.hid (show w1.heap.size ≤ LB by have := HB.out.size; omega)
          have HWQ := Lib.hid (show w1.heap.size ≤ wq.heap.size from HB.out.size)
          have HT5 := Lib.hid hT5
          have HP5 := Lib.hid (repeat_any (ints_one w5 5 (by decide)) 32 (by omega) (by omega))
          have HB5a := Lib.hid (show Below w5.heap.size w5 (w5.alloc (.cells #[.int .i64 5] 3)) from (Below.refl _ _).alloc (Nat.le_refl _) _)
          clear hb5 hp5 hT5 hLB
          go_wp2_with fail
          refine HP5.out.mono ?_
          rintro e w6 ⟨v6, rfl, ho6, hb6⟩
          have HB6 := Lib.hid (HB5a.out.trans (hb6.mono HB5a.out.size))
          obtain ⟨g6, c6, rfl⟩ := own_some ho6 (by omega)
          have hm6 := make2_any (IntsAt.own (zs := fixD) ho6 fixD_wf)
          rw [mk_fixD] at hm6
          have HM6 := Lib.hid hm6
          clear ho6 hb6 hm6
          go_wp2_with fail
          refine HM6.out.mono ?_
          rintro e w7 ⟨p7, rfl, hb7, _, hp7⟩
          obtain ⟨DB, rfl, hDB, hT7⟩ := hp7 trivial
          have HB7 := Lib.hid (HB6.out.trans (hb7.mono HB6.out.size))
          have hb17 := HB5.out.trans (HB7.out.mono HB5.out.size)
          have hblk : w7.heap[w.heap.size]? = some (.cells #[.pointer none, .pointer none] 187 (0, 0)) := (hb17.block _ (by rw [HS1.out]; omega)).trans HX1.out
          have hc0 : w7.cell? ⟨w.heap.size, 0, none⟩ = some (.pointer none) := by rw [cell_of_row w7 _ 0 _ _ (0, 0) hblk]; rfl
          have hc1 : w7.cell? ⟨w.heap.size, 1, none⟩ = some (.pointer none) := by rw [cell_of_row w7 _ 1 _ _ (0, 0) hblk]; rfl
          have hf0 := frozen_of_row w7 w.heap.size 0 _ _ hblk
          have hf1 := frozen_of_row w7 w.heap.size 1 _ _ hblk
          have HT7 := Lib.hid hT7
          have HBK := Lib.hid hblk
          have HDB := Lib.hid (show w1.heap.size ≤ DB by have := HB5.out.size; have := HB6.out.size; omega)
          have HB17 := Lib.hid hb17
          clear hb7 hp7 hT7 hDB hb17 hblk
          go_wp2_with fail
          have h8 : ((w7.setCell ⟨w.heap.size, 0, none⟩ (.pointer (some ⟨LB, 0, none⟩))).setCell ⟨w.heap.size, 1, none⟩ (.pointer (some ⟨DB, 0, none⟩))).heap[w.heap.size]? = some (.cells #[.pointer (some ⟨LB, 0, none⟩), .pointer (some ⟨DB, 0, none⟩)] 187 (0, 0)) := by
            rw [heap_setCell_same _ _ 1 _ _ _ (heap_setCell_same w7 _ 0 _ _ _ HBK.out)]; rfl
          have c80 := cell_of_row _ _ 0 _ _ (0, 0) h8
          have c81 := cell_of_row _ _ 1 _ _ (0, 0) h8
          have hoth : ∀ k, w1.heap.size ≤ k → k < w7.heap.size → ((w7.setCell ⟨w.heap.size, 0, none⟩ (.pointer (some ⟨LB, 0, none⟩))).setCell ⟨w.heap.size, 1, none⟩ (.pointer (some ⟨DB, 0, none⟩))).heap[k]? = w7.heap[k]? := fun k hk hlt => two_sets _ _ _ _ k (by have := HS1.out; omega) hlt
          have hsz8 : w7.heap.size ≤ ((w7.setCell ⟨w.heap.size, 0, none⟩ (.pointer (some ⟨LB, 0, none⟩))).setCell ⟨w.heap.size, 1, none⟩ (.pointer (some ⟨DB, 0, none⟩))).heap.size := by simp
          have hbf : Below w.heap.size w ((w7.setCell ⟨w.heap.size, 0, none⟩ (.pointer (some ⟨LB, 0, none⟩))).setCell ⟨w.heap.size, 1, none⟩ (.pointer (some ⟨DB, 0, none⟩))) := ((HB1.out.trans (HB17.out.mono HB1.out.size)).setCell (Nat.le_refl _) _).setCell (Nat.le_refl _) _
          generalize ((w7.setCell ⟨w.heap.size, 0, none⟩ (.pointer (some ⟨LB, 0, none⟩))).setCell ⟨w.heap.size, 1, none⟩ (.pointer (some ⟨DB, 0, none⟩))) = w8 at *
          have s1 := HS1.out
          have s5 := HWQ.out
          have s7 := HB7.out.size
          refine bodyPost_ret (v := .agg #[.pointer (some ⟨LB, 0, none⟩), .pointer (some ⟨DB, 0, none⟩)]) (by simp [results, Tryz.results196, go_sem, c80, c81]) rfl ⟨LB, DB, rfl, hbf, by have := HLB.out; omega, by have := HDB.out; omega, ?_, ?_⟩
          · exact (HT5.out.on HB7.out (b1 := wq.heap.size) (Nat.le_refl _)).on' hsz8 (fun k h1 h2 => hoth k (by omega) h2) (by omega)
          · exact HT7.out.on' hsz8 (fun k h1 h2 => hoth k (by have := HB5.out.size; have := HB6.out.size; omega) h2) (by have := HB5.out.size; have := HB6.out.size; omega)
end Go.Proofs.YtpbijdoemdoijaaGreatDoor
end PkCa24_0
section PkCa24_1
/- Package inflate: thirdCode, walked: the code by which the lengths are told. -/
namespace Go.Proofs.YtpbijdoemdoijaaGreatDoor
open Go.RowKit PrefPlain BitsPlain InfPlain
set_option linter.unusedVariables false

/-- the order's table, as the program begins with it -/
def Ordr (w : World) : Prop := ∀ r, r < 19 → w.cell? ⟨1, r, none⟩ = some (.int .i64 ((ordr.getD r 0 : Nat) : Int))
theorem ordr_lt : ∀ r, r < 19 → ordr.getD r 0 < 19 := by decide
theorem Ordr.pos {w : World} (h : Ordr w) : 1 < w.heap.size := World.block_lt_of_cell? w _ (h 0 (by omega))
theorem Ordr.fr {w w' : World} {B R : Nat} {v : Value} (h : Ordr w) (hf : Fr w w' B R v) (hB : 1 < B) (hR : 1 < R) (hv : v.ownBlock ≠ some 1) : Ordr w' := fun r hr => by
  have h1 := h r hr
  have := hf.block 1 h.pos (by omega) (by omega) (fun e => hv e.symm)
  exact (World.cell?_of_block (w := w) (a := ⟨1, r, none⟩) this).trans h1

section
variable {w : World} {B R base : Nat} {ra : Option Addr} {n c : Nat} {xs : List Nat} {p : Nat} {v : Value} {o : List Nat} {most : Nat} {fl fd : Option Addr}
theorem InAt.grown {w' : World} {tb : Nat} (h : InAt w B R base ra n c xs p v o most fl fd) (hg : w.grownBy w' (some tb)) (htb : base ≤ tb) (hv : v.ownBlock ≠ some tb) : InAt w' B R base ra n c xs p v o most fl fd := by
  have hB := h.hB
  have hR := h.hR
  refine ⟨h.ib.other (hg.block B h.ib.lt (fun e => by have := Option.some.inj e; omega)), ⟨(hg.block R h.rd.lt (fun e => by have := Option.some.inj e; omega)).trans h.rd.blk, ?_, h.rd.apart, h.rd.le⟩, h.own.kept hg (.inr hv), h.byte, h.lim, h.most, Nat.le_trans h.low hg.size, h.hB, h.hR, h.ne, h.src⟩
  have hs := h.rd.src
  exact ⟨hs.len, hs.cap, hs.byte, hs.reach, hs.capm, hs.nl, fun hp => by
    obtain ⟨b, off, ha, hlt, hc⟩ := hs.cells hp
    obtain ⟨s1, s2⟩ := h.src b off _ hp ha
    exact ⟨b, off, ha, Nat.lt_of_lt_of_le hlt hg.size, fun k hk => (World.cell?_of_block (w := w) (hg.block b hlt (fun e => by have := Option.some.inj e; omega))).trans (hc k hk)⟩⟩
/-- what thirdCode's answer is, by what the tree says -/
def Third (w : World) (B R base : Nat) (ra : Option Addr) (n c : Nat) (xs : List Nat) (v : Value) (most : Nat) (fl fd : Option Addr) (r : Except Nat (List Int × Nat × List Nat)) (e : Ending) (w' : World) : Prop :=
  match r with
  | .error er => e = .returned (.tuple #[.pointer none, .int .i64 (er : Int)]) ∧ Fr w w' B R v
  | .ok (C, q, o') => ∃ pt, e = .returned (.tuple #[.pointer pt, .int .i64 ((mk C : Nat) : Int)]) ∧ Fr w w' B R v ∧ InAt w' B R base ra n c xs q v o' most fl fd ∧ (mk C ≠ 0 → pt = none) ∧ (mk C = 0 → ∃ TB, pt = some ⟨TB, 0, none⟩ ∧ Kept w' B R v TB C)
theorem third_1 {m i : Nat} {l : List Int} (hp : p ≤ 8 * xs.length) (hs : 8 * xs.length < p + 3) : run xs most (thirdR (m + 1) i l) p o = .error 3 := by
  rw [thirdR, run_bind, run_bits _ _ _ _ _ hp, if_pos hs]
theorem third_2 {m i : Nat} {l : List Int} (hs : p + 3 ≤ 8 * xs.length) : run xs most (thirdR (m + 1) i l) p o = run xs most (thirdR m (i + 1) (l.set (ordr.getD i 0) ((num xs p 3 : Nat) : Int))) (p + 3) o := by
  rw [thirdR, run_bind, run_bits _ _ _ _ _ (by omega), if_neg (by omega)]
end
/-- the loop over the third code's lengths -/
structure Td (xs : List Nat) (most N p0 : Nat) (o : List Nat) (k p : Nat) (l : List Int) : Prop where
  run : run xs most (thirdR N 0 (List.replicate 19 0)) p0 o = run xs most (thirdR (N - k) k l) p o
  len : l.length = 19
  wf : ∀ z ∈ l, 0 ≤ z ∧ z < 8
theorem set_row {w : World} {tb m : Nat} {l : List Int} {t : TypeId} {z : Int} (h : w.heap[tb]? = some (.cells (iv .i64 l).toArray t (0, 0))) : (w.setCell ⟨tb, m, none⟩ (.int .i64 z)).heap[tb]? = some (.cells (iv .i64 (l.set m z)).toArray t (0, 0)) := by
  rw [heap_setCell_same w tb m _ _ _ h, List.setIfInBounds_toArray, iv_set]
theorem row_get {w : World} {tb m : Nat} {l : List Int} {t : TypeId} (h : w.heap[tb]? = some (.cells (iv .i64 l).toArray t (0, 0))) (hm : m < l.length) : w.cell? ⟨tb, m, none⟩ = some (.int .i64 (l.getD m 0)) := by
  rw [cell_of_row w tb m _ _ (0, 0) h, List.getElem?_toArray, iv_get _ _ _ hm]
theorem grown_set (w : World) (tb m : Nat) (u : Value) : w.grownBy (w.setCell ⟨tb, m, none⟩ u) (some tb) :=
  ⟨rfl, rfl, rfl, by simp, fun k hk hne => heap_setCell_other _ _ _ _ (fun e => hne (by rw [e]))⟩
theorem Fr.up {w w1 w2 : World} {B R : Nat} {v : Value} (h : Fr w w1 B R v) {tb : Nat} (hg : w1.grownBy w2 (some tb)) (htb : w.heap.size ≤ tb) : Fr w w2 B R v :=
  ⟨hg.os.trans h.os, hg.tape.trans h.tape, hg.output.trans h.output, Nat.le_trans h.size hg.size, fun k hk h1 h2 h3 => (hg.block k (Nat.lt_of_lt_of_le hk h.size) (fun e => by have := Option.some.inj e; omega)).trans (h.block k hk h1 h2 h3)⟩

set_option maxRecDepth 100000 in
set_option maxHeartbeats 2000000 in
theorem ithird_any {w : World} {B R base : Nat} {ra : Option Addr} {n c : Nat} {xs : List Nat} {p : Nat} {v : Value} {o : List Nat} {most : Nat} {fl fd : Option Addr} (h : InAt w B R base ra n c xs p v o most fl fd) (hO : Ordr w) (hB0 : 1 < B) (hR0 : 1 < R) (N : Nat) (hN : N ≤ 19) :
    Calls Tryz.prog 202 #[.pointer (some ⟨B, 0, none⟩), .int .i64 (N : Int)] w fun e w' => Third w B R base ra n c xs v most fl fd (run xs most (thirdR N 0 (List.replicate 19 0)) p o) e w' := by
  have hv0 : v.ownBlock ≠ some 1 := fun e => by have := (h.own.lt 1 e).1; have := h.hB; omega
  have HV0 := Lib.hid hv0
  have HH := Lib.hid h
  have HO := Lib.hid hO
  obtain ⟨w1, hw1⟩ : ∃ w1, w1 = w.alloc (.cells (iv .i64 (List.replicate 19 0)).toArray 192) := ⟨_, rfl⟩
  have hb1 : Below w.heap.size w w1 := by rw [hw1]; exact (Below.refl _ _).alloc (Nat.le_refl _) _
  have HX1 := Lib.hid (show w1.heap[w.heap.size]? = some (.cells (iv .i64 (List.replicate 19 0)).toArray 192 (0, 0)) by rw [hw1]; exact heap_alloc_new w _)
  have HI1 := Lib.hid (h.below hb1)
  have HF1 := Lib.hid (Fr.below (B := B) (R := R) (v := v) hb1)
  have HT1 := Lib.hid (show Td xs most N p o 0 p (List.replicate 19 0) from ⟨rfl, by simp, by intro z hz; rw [List.mem_replicate] at hz; rw [hz.2]; omega⟩)
  have HW1 := Lib.hid hw1
  obtain ⟨tb, htb⟩ : ∃ tb, tb = w.heap.size := ⟨_, rfl⟩
  have HTB := Lib.hid htb
  have htbV : v.ownBlock ≠ some tb := fun e => by have := h.vlt tb e; omega
  have HTV := Lib.hid htbV
  clear h hO hv0 hb1 hw1 htb htbV
  go_enter Tryz.func202, Tryz.ntmps202
  go_wp2_with fail
  generalize hw2 : w.alloc (Obj.cells _ _) = w2
  obtain rfl : w2 = w1 := by rw [← hw2, HW1.out]; rfl
  rw [← HTB.out]
  clear hw2
  go_loopw [11] (fun s11 wr => ∃ (k q : Nat) (l : List Int), k ≤ N ∧ s11 = .int .i64 (k : Int) ∧ Hid (Td xs most N p o k q l) ∧ Hid (wr.heap[tb]? = some (.cells (iv .i64 l).toArray 192 (0, 0))) ∧ Hid (InAt wr B R base ra n c xs q v o most fl fd) ∧ Hid (Fr w wr B R v)) (fun s11 _ => N - (intOf s11).toNat)
  case atStart => exact ⟨0, p, _, by omega, rfl, HT1, Lib.hid (by rw [HTB.out]; exact HX1.out), HI1, HF1⟩
  case round =>
    clear HI1 HF1 HT1 HX1
    obtain ⟨k, q, l, hk, rfl, HT, HX, HI, HF⟩ := hrel
    rename World => wr
    by_cases hkN : k < N
    · have HC := Lib.hid (icount_any HI.out 3 0 (by omega) (by omega))
      have hm19 := ordr_lt k (by omega)
      obtain ⟨m, hm⟩ : ∃ m, m = ordr.getD k 0 := ⟨_, rfl⟩
      have HM := Lib.hid hm
      rw [← hm] at hm19
      have hsub : N - k = (N - (k + 1)) + 1 := by omega
      have HSUB := Lib.hid hsub
      have HQ := Lib.hid HI.out.pl
      clear hm hsub
      go_wp2_with fail
      refine HC.out.mono ?_
      rintro e w3 (⟨hs, rfl, hg, hi3⟩ | ⟨hs, rfl, hg, hi3⟩)
      · have HR := Lib.hid (show run xs most (thirdR N 0 (List.replicate 19 0)) p o = .error 3 by rw [HT.out.run, HSUB.out]; exact third_1 HQ.out hs)
        have HF3 := Lib.hid (HF.out.trans (Went.refl _ _) (Fr.rd B v hg))
        clear hs hg hi3
        go_wp2_with fail
        go_ret2
        rw [HR.out]
        exact ⟨rfl, HF3.out⟩
      · have hf3 := HF.out.trans (Went.refl _ _) (Fr.rd B v hg)
        have hx3 : w3.heap[tb]? = some (.cells (iv .i64 l).toArray 192 (0, 0)) := (hg.block tb (Array.getElem?_eq_some_iff.1 HX.out).1 (fun e => by have := Option.some.inj e; have := HH.out.hR; have := HH.out.low; have := HTB.out; omega)).trans HX.out
        have hor : w3.cell? ⟨1, k, none⟩ = some (.int .i64 (m : Int)) := by rw [HM.out]; exact (HO.out.fr hf3 hB0 hR0 HV0.out) k (by omega)
        have hcx := row_get (m := m) hx3 (by rw [HT.out.len]; exact hm19)
        have hfx := frozen_of_row w3 tb m _ _ hx3
        have hN8 := num_lt xs q 3
        have HR := Lib.hid (show run xs most (thirdR N 0 (List.replicate 19 0)) p o = run xs most (thirdR (N - (k + 1)) (k + 1) (l.set (ordr.getD k 0) ((num xs q 3 : Nat) : Int))) (q + 3) o by rw [HT.out.run, HSUB.out]; exact third_2 hs)
        obtain ⟨z, hz⟩ : ∃ z, z = num xs q 3 := ⟨_, rfl⟩
        have HZ := Lib.hid hz
        have hz8 : z < 8 := by rw [hz]; simpa using hN8
        rw [← hz] at HR ⊢
        rw [← HM.out] at HR
        have HT3 : Hid (Td xs most N p o (k + 1) (q + 3) (l.set m (z : Int))) := Lib.hid ⟨HR.out, by rw [List.length_set]; exact HT.out.len, fun y hy => by
          rcases List.mem_or_eq_of_mem_set hy with h1 | h1
          · exact HT.out.wf y h1
          · rw [h1]; omega⟩
        have hg4 := grown_set w3 tb m (.int .i64 (z : Int))
        have HI4 := Lib.hid (hi3.grown hg4 (by have := HH.out.low; have := HTB.out; omega) HTV.out)
        have HX4 := Lib.hid (set_row (m := m) (z := (z : Int)) hx3)
        have HF4 := Lib.hid (hf3.up hg4 (by have := HTB.out; omega))
        have hki : (k : Int) < 19 := by omega
        have hmi : (m : Int) < 19 := by omega
        obtain ⟨x, hx⟩ : ∃ x, x = l.getD m 0 := ⟨_, rfl⟩
        rw [← hx] at hcx
        have hze : z + 0 = z := Nat.add_zero z
        clear hs hg hi3 hf3 hx3 hN8 hz hg4 hx
        rw [hze]
        clear hze
        go_wp2_with fail
        go_roundw
        case rel => exact ⟨k + 1, q + 3, _, by omega, by go_num, HT3, HX4, HI4, HF4⟩
        case measure => simp [intOf]; omega
    · obtain rfl : k = N := by omega
      have hI : IntsAt .i64 wr (some ⟨tb, 0, none⟩) 19 19 l := ⟨HT.out.len, by omega, fun z hz => wf_int (by have := HT.out.wf z hz; omega), by omega, (fun e => by cases e), fun _ => ⟨tb, 0, rfl, (Array.getElem?_eq_some_iff.1 HX.out).1, fun i hi => by
        rw [Nat.zero_add]; exact row_get HX.out (by rw [HT.out.len]; exact hi)⟩⟩
      have HM := Lib.hid (make2_any hI)
      have HR := Lib.hid (show run xs most (thirdR k 0 (List.replicate 19 0)) p o = .ok (l, q, o) by rw [HT.out.run, Nat.sub_self]; rfl)
      clear hI
      go_wp2_with fail
      refine HM.out.mono ?_
      rintro e w5 ⟨pt, rfl, hb5, hp0, hp⟩
      have HB5 := Lib.hid hb5
      have HP0 := Lib.hid hp0
      have HP := Lib.hid hp
      clear hb5 hp0 hp
      go_wp2_with fail
      go_ret2
      rw [HR.out]
      refine ⟨pt, rfl, HF.out.trans (Went.refl _ _) (Fr.below HB5.out), HI.out.below HB5.out, HP0.out, fun h0 => ?_⟩
      obtain ⟨TB, h1, h2, h3⟩ := HP.out h0
      have hlow := HI.out.low
      have hBb := HI.out.hB
      have hRb := HI.out.hR
      exact ⟨TB, h1, tab_kept h3 (by omega) (by omega) (fun g hg => HI.out.vlt g hg) h2⟩
end Go.Proofs.YtpbijdoemdoijaaGreatDoor
end PkCa24_1
