/- The document's bay where it lies; Count, walked. -/
import Derived.Test.YtpcohkhdbjimgaaByH
import Derived.Test.YtpcohkhdbjimgaaByFill
namespace Go.Proofs.Ytpcohkhdbjimgaa
open Go.RowKit Go.Conc
set_option linter.unusedVariables false

theorem tl_inj {a b : ByteArray} (h : a.toList = b.toList) : a = b := by
  rw [ByteArray.toList_eq, ByteArray.toList_eq] at h
  exact ByteArray.ext (Array.toList_inj.1 h)
theorem tl_ne {a b : ByteArray} (h : ¬ a = b) : (a.toList == b.toList) = false := beq_eq_false_iff_ne.2 fun g => h (tl_inj g)
set_option maxRecDepth 100000 in
set_option maxHeartbeats 4000000 in
theorem count_any {w : World} {a : Option Addr} {n c : Nat} {L : List (ByteArray × Int)} (h : VecAt KdS w a n c L) (k : ByteArray) (hn : n ≤ 10000) :
    Calls Try.prog 32 #[.slice a n c, .string k] w fun e w' => e = .returned (.int .i64 ((cntK L k : Nat) : Int)) ∧ Below w.heap.size w w' := by
  have HV := Lib.hid h
  have hcp := h.cap
  have hcm := h.capm
  have HB0 := Lib.hid (Below.refl w.heap.size w)
  clear h
  go_enter Try.func32, Try.ntmps32
  go_wp2_with fail
  go_loopw [5, 10] (fun s5 s10 wr => ∃ (i z : Nat), i ≤ n ∧ z ≤ i ∧ s10 = .int .i64 i ∧ s5 = .int .i64 z ∧ Hid (z = cntK (L.take i) k) ∧ Hid (Below w.heap.size w wr)) (fun _ s10 _ => n - (intOf s10).toNat)
  case atStart => exact ⟨0, 0, by omega, by omega, rfl, rfl, Lib.hid rfl, HB0⟩
  case round =>
    clear HB0
    obtain ⟨i, z, hi, hzi, rfl, rfl, HZ, HB⟩ := hrel
    rename World => wr
    by_cases hin : i < n
    · obtain ⟨b, off, rfl, _, _, hc⟩ := (HV.out.kept HB.out).get hin
      obtain ⟨x, hx⟩ : ∃ x, x = L.getD i KdS.z := ⟨_, rfl⟩
      rw [← hx] at hc
      have hcs := cntK_succ (ks := L) (i := i) (by rw [HV.out.len]; exact hin) k
      rw [← hx] at hcs
      have HCS := Lib.hid hcs
      obtain ⟨q, u⟩ := x
      have c0 : wr.cell? ⟨b, off + i * 2, none⟩ = some (.string q) := hc 0 _ rfl
      have c1 : wr.cell? ⟨b, off + i * 2 + 1, none⟩ = some (.int .i64 u) := hc 1 _ rfl
      obtain ⟨bx, hbx⟩ : ∃ bx, bx = wr.heap.size := ⟨_, rfl⟩
      obtain ⟨W3, hW3⟩ : ∃ W3, W3 = wr.alloc (.cells #[.string q, .int .i64 u] 61) := ⟨_, rfl⟩
      have hb3 : Below wr.heap.size wr W3 := by rw [hW3]; exact (Below.refl _ _).alloc (Nat.le_refl _) _
      have hk3 : W3.heap[bx]? = some (.cells #[.string q, .int .i64 u] 61 (0, 0)) := by rw [hW3, hbx]; exact heap_new wr _
      have d0 := cell_blk2 hk3 (i := 0) (u := .string q) rfl
      have HB3 := Lib.hid (HB.out.trans (hb3.mono HB.out.size))
      have HW3 := Lib.hid hW3
      have HBX := Lib.hid hbx
      have zi : (i : Int) < (n : Int) := by omega
      have zi0 : (0 : Int) ≤ (i : Int) := by omega
      have wi : IntKind.i64.wrap ((i : Int) + 1) = (i : Int) + 1 := IntWalk.i64_in _ (by omega)
      have wz : IntKind.i64.wrap ((z : Int) + 1) = (z : Int) + 1 := IntWalk.i64_in _ (by omega)
      clear hc hx hcs hbx hW3 hb3 hk3 HB
      by_cases e : q = k
      · have HE := Lib.hid (show cntK (L.take (i + 1)) k = z + 1 from by rw [HCS.out, ← HZ.out, if_pos e])
        subst e
        go_upto_region 5 with fail
        rw [← HW3.out, ← HBX.out]
        clear c0 c1
        go_wp2_with fail
        go_roundw
        case rel => exact ⟨i + 1, z + 1, by omega, by omega, by push_cast; rfl, by push_cast; rfl, Lib.hid HE.out.symm, HB3⟩
        case measure => simp only [intOf]; omega
      · have HE := Lib.hid (show cntK (L.take (i + 1)) k = z from by rw [HCS.out, ← HZ.out, if_neg e]; rfl)
        have e2 := tl_ne e
        go_upto_region 5 with fail
        rw [← HW3.out, ← HBX.out]
        clear c0 c1
        go_wp2_with fail
        go_roundw
        case rel => exact ⟨i + 1, z, by omega, by omega, by push_cast; rfl, rfl, Lib.hid HE.out.symm, HB3⟩
        case measure => simp only [intOf]; omega
    · obtain rfl : i = n := by omega
      have HE := Lib.hid (show cntK L k = z from by rw [HZ.out, List.take_of_length_le (by rw [HV.out.len]; exact Nat.le_refl _)])
      go_wp2_with fail
      first | go_ret2 | go_ret
      exact ⟨by rw [HE.out]; rfl, HB.out⟩
end Go.Proofs.Ytpcohkhdbjimgaa
