/- merge.Heap[int]: Pop. -/
import Derived.Test.YteihbbmbdkkbbaaHpPush
import Derived.Lib.SliceRun
import Derived.BigFrame
namespace Go.Proofs.Yteihbbmbdkkbbaa
open Go.ChangeShapes Go.WideShapes Go.Deep Go.RowKit Hp
set_option linter.unusedVariables false

set_option maxRecDepth 100000 in
theorem pop_none (w : World) : Calls Try.prog 12 #[.pointer none] w fun e w' => e = .returned (.tuple #[.int .i64 0, .bool false]) ∧ Below w.heap.size w w' := by
  go_enter Try.func12, Try.ntmps12
  go_wp2_with fail
  refine (len_none w).mono ?_
  rintro e w1 ⟨rfl, hb1⟩
  have HB1 := Lib.hid hb1
  clear hb1
  go_wp2_with fail
  first | go_ret2 | go_ret
  exact ⟨rfl, HB1.out⟩
set_option maxRecDepth 100000 in
theorem pop_empty {w : World} {base p : Nat} {og : Option Nat} {z : Nat → Int} (h : HpO w base p og 0 z) : Calls Try.prog 12 #[.pointer (some ⟨p, 0, none⟩)] w fun e w' => e = .returned (.tuple #[.int .i64 0, .bool false]) ∧ Below w.heap.size w w' := by
  have HH := Lib.hid h
  clear h
  go_enter Try.func12, Try.ntmps12
  go_wp2_with fail
  refine (len_own HH.out).mono ?_
  rintro e w1 ⟨rfl, hb1⟩
  have HB1 := Lib.hid hb1
  clear hb1
  go_wp2_with fail
  first | go_ret2 | go_ret
  exact ⟨rfl, HB1.out⟩
/-- the last cell cleared, the slice cut -/
theorem cut_at {w : World} {p g c m : Nat} {z : Nat → Int} (h : HpAt w p g c (m + 1) z) (u : Value) : HpAt ((w.setCell ⟨g, m, none⟩ u).setCell ⟨p, 1, none⟩ (.slice (some ⟨g, 0, none⟩) m c)) p g c m z := by
  obtain ⟨cur, h1, h2, h3⟩ := h.bk
  have hg1 := heap_setCell_same w g m cur 3 u h1
  have hp1 : (w.setCell ⟨g, m, none⟩ u).heap[p]? = _ := (heap_setCell_other w ⟨g, m, none⟩ p u (fun e => h.ne (by simpa using e.symm))).trans h.hd
  refine ⟨heap_setCell_same _ p 1 _ _ _ hp1, ⟨_, (heap_setCell_other _ ⟨p, 1, none⟩ g _ (fun e => h.ne (by simpa using e))).trans hg1, by rw [Array.size_setIfInBounds]; exact h2, fun k hk => ?_⟩, by have := h.nc; omega, h.ne⟩
  rw [Array.getElem?_setIfInBounds_ne (by omega)]
  exact h3 k (by omega)

theorem zero_int (w : World) : (zeroValue 3).run Try.prog w = .ok (.int .i64 0) w := by kernel_rfl
set_option maxRecDepth 100000 in
set_option maxHeartbeats 4000000 in
theorem pop_own {w : World} {base p m : Nat} {og : Option Nat} {z : Nat → Int} (h : HpO w base p og (m + 1) z) (hz : Ok z (m + 1)) (hn : m < 1000000000) :
    Calls Try.prog 12 #[.pointer (some ⟨p, 0, none⟩)] w fun e w' => e = .returned (.tuple #[.int .i64 (z 0), .bool true]) ∧ (∃ y, HpO w' base p og m y ∧ Ok y m ∧ (∀ v, cnt y v m + (if z 0 = v then 1 else 0) = cnt z v (m + 1))) ∧ HpKept w w' p og := by
  have hpb := h.lt.1
  obtain ⟨g, c, rfl, hgb, hcm, hat⟩ : ∃ g c, og = some g ∧ base ≤ g ∧ c ≤ maxLen ∧ HpAt w p g c (m + 1) z := by
    rcases h.2 with ⟨_, e, _⟩ | h
    · cases e
    · exact h
  have HH := Lib.hid h
  have HAT := Lib.hid hat
  have hzm : sw z 0 m m = z 0 := by unfold sw; exact if_pos rfl
  have HC := Lib.hid (show ∀ v, cnt (sw z 0 m) v m + (if z 0 = v then 1 else 0) = cnt z v (m + 1) from fun v => by
    rw [← cnt_sw (z := z) (i := 0) (k := m) (n := m + 1) (by omega) (by omega), cnt, hzm])
  have HD := Lib.hid (show Dn (sw z 0 m) m 0 from ⟨fun k h0 hk hne => by
    unfold sw
    rw [if_neg (by omega), if_neg hne, if_neg (by omega), if_neg (by omega)]
    exact hz k h0 (by omega), fun k _ _ _ h => absurd h (Nat.lt_irrefl 0)⟩)
  have HCM := Lib.hid hcm
  have HGB := Lib.hid hgb
  have HPB := Lib.hid hpb
  have z1 : (((m + 1 : Nat) : Int) == 0) = false := by rw [beq_eq_false_iff_ne]; omega
  have wm : IntKind.i64.wrap (((m + 1 : Nat) : Int) - 1) = (m : Int) := by rw [IntWalk.i64_in _ (by omega)]; omega
  have hnc := hat.nc
  clear h hat hgb hcm hpb hz
  obtain ⟨n, hnm⟩ : ∃ n, n = m + 1 := ⟨_, rfl⟩
  have HNM := Lib.hid hnm
  rw [← hnm] at z1 wm hnc HH HAT
  clear hnm
  go_enter Try.func12, Try.ntmps12
  go_wp2_with fail
  refine (len_own HH.out).mono ?_
  rintro e w1 ⟨rfl, hb1⟩
  have HA1 := Lib.hid (HAT.out.kept hb1)
  have HK1 := Lib.hid (HpKept.ofBelow hb1 p (some g))
  have c1 := HA1.out.bound
  clear hb1 HH HAT
  go_wp2_with fail
  refine (swap_at HA1.out (i := 0) (k := m) (by have := HNM.out; omega) (by have := HNM.out; omega)).mono ?_
  rintro e w2 ⟨rfl, ha2, hg2⟩
  have HA2 := Lib.hid ha2
  have HK2 := Lib.hid (HK1.out.trans (HpKept.ofGrown hg2 p) (fun _ e => .inl e))
  have c2 := ha2.bound
  have cx : w2.cell? ⟨g, m, none⟩ = some (.int .i64 (z 0)) := by
    obtain ⟨cur, h1, _, h3⟩ := ha2.bk
    rw [← hzm]
    exact cell_blk h1 (h3 m (by have := HNM.out; omega))
  have fx : w2.frozen? ⟨g, m, none⟩ = false := by
    obtain ⟨cur, h1, _, h3⟩ := ha2.bk
    simp [World.frozen?, h1]
  have zm1 : (0 : Int) ≤ (m : Int) := by omega
  have zm2 : (m : Int) < (n : Int) := by have := HNM.out; omega
  have zm3 : (m : Int) ≤ (n : Int) := by omega
  have zm4 : (m : Int) ≤ (c : Int) := by omega
  have zn : n - m = 1 := by have := HNM.out; omega
  have cx0 : ∀ j, j < 1 → (w2.cell? ⟨g, m + j, none⟩).isSome = true := fun j hj => by
    obtain rfl : j = 0 := by omega
    rw [Nat.add_zero, cx]
    rfl
  have fx0 : ∀ j, j < 1 → w2.frozen? ⟨g, m + j, none⟩ = false := fun j hj => by
    obtain rfl : j = 0 := by omega
    exact fx
  have hcl : ∀ ty, (Builtin.clear_ #[27] ty #[.slice (some ⟨g, m, none⟩) 1 (c - m)]).run Try.prog w2 = .ok (.tuple #[]) (w2.setCell ⟨g, m, none⟩ (.int .i64 0)) :=
    fun ty => (Lib.run_clear_slice w2 27 3 ty (.int .i64 0) Try.underlying27 zero_int rfl rfl g m 1 (c - m) (by omega) cx0 fx0).trans (by simp [World.setCells])
  clear cx0 fx0
  have hp3 : (w2.setCell ⟨g, m, none⟩ (.int .i64 0)).heap[p]? = _ := (heap_setCell_other w2 ⟨g, m, none⟩ p _ (fun e => ha2.ne (by simpa using e.symm))).trans ha2.hd
  have c3 : (w2.setCell ⟨g, m, none⟩ (.int .i64 0)).cell? ⟨p, 1, none⟩ = some (.slice (some ⟨g, 0, none⟩) n c) := cell_blk hp3 rfl
  have f3 : (w2.setCell ⟨g, m, none⟩ (.int .i64 0)).frozen? ⟨p, 1, none⟩ = false := by simp [World.frozen?, hp3]
  have HA3 := Lib.hid (cut_at (m := m) (by rw [← HNM.out]; exact ha2) (.int .i64 0))
  have HK3 := Lib.hid ((HK2.out.trans (HpKept.ofGrown (grown_set w2 g m (.int .i64 0)) p) (fun _ e => .inl e)).trans (HpKept.ofGrownP (grown_set (w2.setCell ⟨g, m, none⟩ (.int .i64 0)) p 1 (.slice (some ⟨g, 0, none⟩) m c)) (some g)) (fun _ e => .inl e))
  clear ha2 hg2 fx c1 hp3
  go_wp2_with fail
  refine (sink_at HA3.out HD.out (by omega)).mono ?_
  rintro e w4 ⟨rfl, ⟨y, ha4, hok4, hc4⟩, hg4⟩
  have HE := Lib.hid (show (∃ y, HpO w4 base p (some g) m y ∧ Ok y m ∧ (∀ v, cnt y v m + (if z 0 = v then 1 else 0) = cnt z v (m + 1))) ∧ HpKept w w4 p (some g) from ⟨⟨y, ⟨HPB.out, .inr ⟨g, c, rfl, HGB.out, HCM.out, ha4⟩⟩, hok4, fun v => by rw [hc4 v]; exact HC.out v⟩, HK3.out.trans (HpKept.ofGrown hg4 p) (fun _ e => .inl e)⟩)
  clear ha4 hok4 hc4 hg4 hcl
  go_wp2_with fail
  first | go_ret2 | go_ret
  exact ⟨rfl, HE.out⟩
end Go.Proofs.Yteihbbmbdkkbbaa
