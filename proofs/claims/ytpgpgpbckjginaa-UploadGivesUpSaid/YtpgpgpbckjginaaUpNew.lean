/- An upload made; layer 17's fixed fact: walked. -/
import Derived.Test.YtpgpgpbckjginaaUpNext
import Derived.Lib.SlBytesConst
namespace Go.Proofs.Ytpgpgpbckjginaa
open Go.RowKit
set_option linter.unusedVariables false

theorem divided_any (n d : Int) (hn : 0 ≤ n ∧ n ≤ 1000000) (hd : 1 ≤ d ∧ d ≤ 3000000) (w : World) :
    Calls Try.prog 19 #[.int .i64 n, .int .i64 d] w fun e w' => (∃ z : Int, e = .returned (.int .i64 z) ∧ 0 ≤ z ∧ z ≤ n + d) ∧ w = w' := by
  obtain ⟨hn0, hn1⟩ := hn
  obtain ⟨hd0, hd1⟩ := hd
  have hz : (d == 0) = false := by rw [beq_eq_false_iff_ne]; omega
  have hq0 : 0 ≤ (n + d - 1).tdiv d := Int.tdiv_nonneg (by omega) (by omega)
  have hq1 : (n + d - 1).tdiv d ≤ n + d := Int.le_trans (Int.tdiv_le_self _ (by omega)) (by omega)
  have HQ := Lib.hid (And.intro hq0 hq1)
  go_enter Try.func19, Try.ntmps19
  go_wp2_with fail
  go_ret
  exact ⟨⟨_, rfl, HQ.out.1, HQ.out.2⟩, rfl⟩

set_option maxRecDepth 100000 in
set_option maxHeartbeats 1000000 in
theorem new_no {w : World} {ky : ByteArray} {da : Option Addr} {dn dc : Nat} {pc tr wt : Int} (hd : dn ≤ 3000) (h : ¬ (1 ≤ pc ∧ pc ≤ 262144 ∧ fitsB tr wt = true)) :
    Calls Try.prog 9 #[.string ky, .slice da dn dc, .int .i64 pc, .int .i64 tr, .int .i64 wt] w fun e w' => e = .returned (.pointer none) ∧ w = w' := by
  have hdi : (dn : Int) ≤ 262144 := by omega
  by_cases h1 : pc < 1
  · clear h
    go_enter Try.func9, Try.ntmps9
    go_wp2_with fail
    go_ret
    exact ⟨rfl, rfl⟩
  · have h1i : 1 ≤ pc := by omega
    clear h1
    by_cases h2 : 262144 < pc
    · clear h
      go_enter Try.func9, Try.ntmps9
      go_wp2_with fail
      go_ret
      exact ⟨rfl, rfl⟩
    · have h2i : pc ≤ 262144 := by omega
      have hf : fitsB tr wt = false := by
        cases hb : fitsB tr wt with
        | false => rfl
        | true => exact absurd ⟨h1i, h2i, hb⟩ h
      have HF := Lib.hid (fun w => fits_any tr wt w)
      rw [hf] at HF
      clear h2 h hf
      go_enter Try.func9, Try.ntmps9
      go_wp2_with fail
      refine (HF.out _).mono ?_
      rintro e w2 ⟨rfl, rfl⟩
      go_wp2_with fail
      go_ret
      exact ⟨rfl, rfl⟩

set_option maxRecDepth 100000 in
set_option maxHeartbeats 2000000 in
theorem new_yes {w : World} {ky : ByteArray} {da : Option Addr} {dn dc : Nat} {xs : List Nat} {pc tr wt : Int} (hb : BytesAt w da dn dc xs) (hd : dn ≤ 3000) (h1 : 1 ≤ pc) (h2 : pc ≤ 262144) (hf : fitsB tr wt = true) :
    Calls Try.prog 9 #[.string ky, .slice da dn dc, .int .i64 pc, .int .i64 tr, .int .i64 wt] w fun e w' => ∃ (B : Nat) (da' : Option Addr) (dc' : Nat) (sz pt : Int), e = .returned (.pointer (some ⟨B, 0, none⟩)) ∧ w'.heap[B]? = some (.cells (upA ky da' dn dc' sz pt tr wt 0 0 false 0 0) 61 (0, 0)) ∧ w.heap.size ≤ B ∧ Below w.heap.size w w' := by
  have hdi : (dn : Int) ≤ 262144 := by omega
  have HF := Lib.hid (fun w => fits_any tr wt w)
  rw [hf] at HF
  have HBY := Lib.hid hb
  have hdn : (dn : Int) ≤ 3000 := by omega
  clear hb hf
  go_enter Try.func9, Try.ntmps9
  go_wp2_with fail
  refine (HF.out _).mono ?_
  rintro e w2 ⟨rfl, rfl⟩
  go_wp2_with fail
  refine (divided_any (dn : Int) 32 ⟨by omega, by omega⟩ ⟨by omega, by omega⟩ _).mono ?_
  rintro e w2 ⟨⟨z, rfl, hz0, hz1⟩, rfl⟩
  go_wp2_with fail
  refine (clone_own HBY.out).mono ?_
  rintro e w3 ⟨v, rfl, hown, hb3⟩
  obtain ⟨a', c', rfl⟩ : ∃ a' c', v = .slice a' dn c' := by
    rcases hown.2 with ⟨rfl, h0⟩ | ⟨g, cap, cur, rfl, _⟩
    · subst h0; exact ⟨_, _, rfl⟩
    · exact ⟨_, _, rfl⟩
  have HB3 := Lib.hid hb3
  clear hown hb3
  go_wp2_with fail
  have hm : 1 ≤ max pc z := by omega
  have hm2 : max pc z ≤ 3000000 := by omega
  refine (divided_any (dn : Int) (max pc z) ⟨by omega, by omega⟩ ⟨hm, hm2⟩ _).mono ?_
  rintro e w4 ⟨⟨z2, rfl, hy0, hy1⟩, rfl⟩
  clear hm hm2
  go_wp2_with fail
  refine (pacenew_any tr wt _).mono ?_
  rintro e w5 ⟨rfl, hb5⟩
  have hb6 := HB3.out.trans (hb5.mono HB3.out.size)
  have HG := Lib.hid (heap_alloc_new w5 (.cells (upA ky a' dn c' (max pc z) (max 1 z2) tr wt 0 0 false 0 0) 61))
  have HB6 := Lib.hid (hb6.alloc hb6.size (.cells (upA ky a' dn c' (max pc z) (max 1 z2) tr wt 0 0 false 0 0) 61))
  have HS := Lib.hid hb6.size
  clear hb5 hb6
  go_wp2_with fail
  go_ret
  exact ⟨w5.heap.size, a', c', max pc z, max 1 z2, rfl, HG.out, HS.out, HB6.out⟩

set_option maxRecDepth 100000 in
set_option maxHeartbeats 2000000 in
theorem lives17_any (w : World) :
    Calls Try.prog 7 #[] w fun e w' => e = .returned (.bool true) ∧ Below w.heap.size w w' := by
  obtain ⟨w1, hw1⟩ : ∃ w1, w1 = w.alloc (.cells #[.int .u8 97, .int .u8 98] 5 (2, 3)) := ⟨_, rfl⟩
  have hblk : w1.heap[w.heap.size]? = some (.cells #[.int .u8 97, .int .u8 98] 5 (2, 3)) := by
    rw [hw1]; show (w.heap.push _)[w.heap.size]? = _; simp
  have hb1 : Below w.heap.size w w1 := by rw [hw1]; exact (Below.refl _ _).alloc (Nat.le_refl _) _
  have hby : BytesAt w1 (some ⟨w.heap.size, 0, none⟩) 2 2 [97, 98] := by
    refine ⟨rfl, Nat.le_refl _, by decide, by omega, by omega, (fun e => by cases e), fun _ => ⟨w.heap.size, 0, rfl, (Array.getElem?_eq_some_iff.1 hblk).1, fun i hi => ?_⟩⟩
    rw [cell_of_row w1 _ _ _ _ (2, 3) hblk]
    match i, hi with
    | 0, _ => rfl
    | 1, _ => rfl
  have HN := Lib.hid (new_yes (ky := { data := #[107] }) (pc := 1) (tr := 2) (wt := 1) hby (by omega) (by omega) (by omega) (by decide))
  have HB1 := Lib.hid hb1
  rw [hw1] at HN HB1
  have HN := Lib.hid HN.out
  clear hby hblk hb1
  subst hw1
  have hcv : (convert 22 22 (.slice (some ⟨w.heap.size, 0, none⟩) 2 2)).run Try.prog (w.alloc (.cells #[.int .u8 97, .int .u8 98] 5)) = .ok (.slice (some ⟨w.heap.size, 0, none⟩) 2 2) (w.alloc (.cells #[.int .u8 97, .int .u8 98] 5 (2, 3))) := Lib.run_convert_bytes_const w _ _ _ 2 2 Try.underlying22 Try.underlying5
  go_enter Try.func7, Try.ntmps7
  go_wp2_with fail
  refine HN.out.mono ?_
  rintro e w2 ⟨B, da, dc, sz, pt, rfl, hg, hB, hb2⟩
  have HNX := Lib.hid (next_yes (now := 0) hg (Int.le_refl 0))
  have hle := HB1.out.size
  have HB2 := Lib.hid (HB1.out.trans (hb2.mono HB1.out.size))
  have HBB := Lib.hid (Nat.le_trans hle hB)
  clear hg hB hb2 hle hcv
  go_wp2_with fail
  refine HNX.out.mono ?_
  rintro e w3 ⟨rfl, hg3, ht3⟩
  have hb3 := ht3.old HB2.out HBB.out HB2.out.size
  have hlt := (Array.getElem?_eq_some_iff.1 hg3).1
  have hal : Below w3.heap.size w3 (w3.alloc (.cells #[.int .i64 7, .string { data := #[107] }, .slice none 0 0, .int .i64 0, .int .i64 0, .int .i64 0, .int .i64 0] 48)) := (Below.refl _ _).alloc (Nat.le_refl _) _
  have HST := Lib.hid (state_any ((hal.block B hlt).trans hg3))
  have HB3 := Lib.hid (hb3.alloc hb3.size (.cells #[.int .i64 7, .string { data := #[107] }, .slice none 0 0, .int .i64 0, .int .i64 0, .int .i64 0, .int .i64 0] 48))
  clear hg3 ht3 hb3 hlt hal
  go_wp2_with fail
  refine HST.out.mono ?_
  rintro e w4 ⟨rfl, rfl⟩
  go_wp2_with fail
  go_ret
  exact ⟨rfl, HB3.out⟩
end Go.Proofs.Ytpgpgpbckjginaa
