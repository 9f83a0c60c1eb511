/- The document's form Stored, walked. (Written by genrst.py.) -/
import Derived.Test.YtachikilcfdngaaSqStP
import Derived.Test.YtachikilcfdngaaOwn
namespace Go.Proofs.Ytachikilcfdngaa
open Go.RowKit BitsPlain
set_option linter.unusedVariables false

set_option maxRecDepth 100000 in
set_option maxHeartbeats 4000000 in
theorem rst_zero {w : World} {a : Option Addr} {c : Nat} (h : BytesAt w a 0 c []) :
    Calls Try.prog 45 #[.slice a 0 c] w fun e w' => ∃ a' c', e = .returned (.slice a' (stP []).length c') ∧ BytesAt w' a' (stP []).length c' (stP []) ∧ Below w.heap.size w w' := by
  obtain ⟨i0, hi, hz0, hz1, hz2⟩ := info_parts info_u8
  have hll := h.len
  have hcap := h.cap
  have hcm := h.capm
  have o0 := World.ownsRow_lit (base := w.heap.size) (e := 5) (size := 1) w #[] 0 (Nat.le_refl _) (by unfold maxLen; omega) rfl
  obtain ⟨w1, hw1⟩ : ∃ w1, w1 = w.alloc (.cells #[] 5) := ⟨_, rfl⟩
  rw [← hw1] at o0
  have b1 : Below w.heap.size w w1 := by rw [hw1]; exact (Below.refl _ _).alloc (Nat.le_refl _) _
  have HST := Lib.hid (show stP [] = [1, 0, 0, 255, 255] ++ [] from rfl)
  have HRR := Lib.hid (show (0 : Nat) < 256 ∧ 0 < 256 ∧ 255 < 256 ∧ 255 < 256 from by decide)
  have hmin : min (0 : Int) 65535 = 0 := by omega
  have HH := Lib.hid h
  have HBY := Lib.hid h.byte
  have HO0 := Lib.hid (o0.alloc (.cells #[.int .u8 1, .int .u8 0, .int .u8 0, .int .u8 255, .int .u8 255] 5))
  have HB1 := Lib.hid b1
  have HW1 := Lib.hid hw1
  have hsrc : ∀ j u, [Value.int .u8 1, .int .u8 0, .int .u8 0, .int .u8 255, .int .u8 255][j]? = some u → (w1.alloc (.cells #[.int .u8 1, .int .u8 0, .int .u8 0, .int .u8 255, .int .u8 255] 5)).cell? ((⟨w1.heap.size, 0, none⟩ : Addr).add j) = some u := by
    intro j u hj
    have h4 : (⟨w1.heap.size, 0, none⟩ : Addr).add j = ⟨w1.heap.size, j, none⟩ := by unfold Addr.add; split <;> simp_all
    rw [h4, cell_of_row _ _ j _ _ (0, 0) (heap_alloc_new w1 _)]
    simpa using hj
  have HSRC := Lib.hid hsrc
  have HSZ := Lib.hid (show w.heap.size ≤ (w1.alloc (.cells #[.int .u8 1, .int .u8 0, .int .u8 0, .int .u8 255, .int .u8 255] 5)).heap.size from Nat.le_trans b1.size ((Below.refl _ _).alloc (Nat.le_refl _) _).size)
  clear h o0 b1 hw1 hsrc
  rcases a with _ | ad
  · go_enter Try.func45, Try.ntmps45
    go_wp2_with fail
    rw [← HW1.out]
    go_loopw [3, 4] (fun s3 s4 wr => s3 = .slice (some ⟨w.heap.size, 0, none⟩) 0 0 ∧ s4 = .int .i64 0 ∧ Hid (wr = w1)) (fun _ _ _ => 0)
    case atStart => exact ⟨rfl, rfl, Lib.hid rfl⟩
    case round =>
      obtain ⟨rfl, rfl, HW⟩ := hrel
      rename World => wr
      have HWW := HW.out
      subst HWW
      go_wp2_with (at_builtin; refine wpList_append_own _ rfl (.tmp 29) (.tmp 46) 22 rfl w.heap.size 5 i0 (.int .u8 0) 1 1 Try.underlying22 hi hz0 hz1 hz2 rfl (by decide) _ _ _ rfl HO0.out ⟨wr.heap.size, 0, none⟩ 5 5 [.int .u8 1, .int .u8 0, .int .u8 0, .int .u8 255, .int .u8 255] rfl rfl HSRC.out (by simp [Value.oneCell']) (by unfold maxLen; omega) (by omega) HSZ.out ?_)
      intro v1 w2 ho1 hg1 _
      have HO1 := Lib.hid (show w2.ownsRow w.heap.size 5 1 v1 (0 + 5) (bv [1, 0, 0, 255, 255]) from ho1)
      have HB2 := Lib.hid (below_own (HB1.out.alloc HB1.out.size (.cells #[.int .u8 1, .int .u8 0, .int .u8 0, .int .u8 255, .int .u8 255] 5)) HO0.out hg1 (Nat.le_refl _) HSZ.out)
      have HH2 := Lib.hid (HH.out.kept HB2.out)
      have HS2 := Lib.hid HB2.out.size
      clear ho1 hg1
      go_wp2_with (at_builtin; refine wpList_append_bytes rfl (.tmp 48) (.tmp 54) rfl w.heap.size v1 (0 + 5) [1, 0, 0, 255, 255] rfl HO1.out _ _ _ [] rfl HH2.out (by omega) HS2.out ?_)
      intro v3 w3 ho3 hg3
      have ho4 : w3.ownsRow w.heap.size 5 1 v3 (stP []).length (bv (stP [])) := by
        rw [stP_len, List.length_nil, Nat.add_comm]
        rw [HST.out]
        exact ho3
      have hby : ∀ x ∈ stP [], x < 256 := by
        intro x hx
        rw [HST.out] at hx
        have hr := HRR.out
        rcases List.mem_append.1 hx with e | e
        · simp only [List.mem_cons, List.not_mem_nil, or_false] at e
          omega
        · exact HBY.out x e
      have HB3 := Lib.hid (below_own HB2.out HO1.out hg3 (Nat.le_refl _) HS2.out)
      obtain ⟨a5, c5, rfl, h5, _⟩ := BytesAt.ofOwn ho4 hby (by rw [stP_len]; decide)
      have H5 := Lib.hid h5
      clear ho3 hg3 ho4 hby h5
      go_wp2_with fail
      go_ret
      exact ⟨a5, c5, rfl, H5.out, HB3.out⟩
  · go_enter Try.func45, Try.ntmps45
    go_wp2_with fail
    rw [← HW1.out]
    go_loopw [3, 4] (fun s3 s4 wr => s3 = .slice (some ⟨w.heap.size, 0, none⟩) 0 0 ∧ s4 = .int .i64 0 ∧ Hid (wr = w1)) (fun _ _ _ => 0)
    case atStart => exact ⟨rfl, rfl, Lib.hid rfl⟩
    case round =>
      obtain ⟨rfl, rfl, HW⟩ := hrel
      rename World => wr
      have HWW := HW.out
      subst HWW
      go_wp2_with (at_builtin; refine wpList_append_own _ rfl (.tmp 29) (.tmp 46) 22 rfl w.heap.size 5 i0 (.int .u8 0) 1 1 Try.underlying22 hi hz0 hz1 hz2 rfl (by decide) _ _ _ rfl HO0.out ⟨wr.heap.size, 0, none⟩ 5 5 [.int .u8 1, .int .u8 0, .int .u8 0, .int .u8 255, .int .u8 255] rfl rfl HSRC.out (by simp [Value.oneCell']) (by unfold maxLen; omega) (by omega) HSZ.out ?_)
      intro v1 w2 ho1 hg1 _
      have HO1 := Lib.hid (show w2.ownsRow w.heap.size 5 1 v1 (0 + 5) (bv [1, 0, 0, 255, 255]) from ho1)
      have HB2 := Lib.hid (below_own (HB1.out.alloc HB1.out.size (.cells #[.int .u8 1, .int .u8 0, .int .u8 0, .int .u8 255, .int .u8 255] 5)) HO0.out hg1 (Nat.le_refl _) HSZ.out)
      have HH2 := Lib.hid (HH.out.kept HB2.out)
      have HS2 := Lib.hid HB2.out.size
      clear ho1 hg1
      go_wp2_with (at_builtin; refine wpList_append_bytes rfl (.tmp 48) (.tmp 54) rfl w.heap.size v1 (0 + 5) [1, 0, 0, 255, 255] rfl HO1.out _ _ _ [] rfl HH2.out (by omega) HS2.out ?_)
      intro v3 w3 ho3 hg3
      have ho4 : w3.ownsRow w.heap.size 5 1 v3 (stP []).length (bv (stP [])) := by
        rw [stP_len, List.length_nil, Nat.add_comm]
        rw [HST.out]
        exact ho3
      have hby : ∀ x ∈ stP [], x < 256 := by
        intro x hx
        rw [HST.out] at hx
        have hr := HRR.out
        rcases List.mem_append.1 hx with e | e
        · simp only [List.mem_cons, List.not_mem_nil, or_false] at e
          omega
        · exact HBY.out x e
      have HB3 := Lib.hid (below_own HB2.out HO1.out hg3 (Nat.le_refl _) HS2.out)
      obtain ⟨a5, c5, rfl, h5, _⟩ := BytesAt.ofOwn ho4 hby (by rw [stP_len]; decide)
      have H5 := Lib.hid h5
      clear ho3 hg3 ho4 hby h5
      go_wp2_with fail
      go_ret
      exact ⟨a5, c5, rfl, H5.out, HB3.out⟩

set_option maxRecDepth 100000 in
set_option maxHeartbeats 4000000 in
theorem rst_pos {w : World} {a : Option Addr} {n c : Nat} {b : List Nat} (h : BytesAt w a n c b) (hn : n ≤ 65535) (hp : 0 < n) :
    Calls Try.prog 45 #[.slice a n c] w fun e w' => ∃ a' c', e = .returned (.slice a' (stP b).length c') ∧ BytesAt w' a' (stP b).length c' (stP b) ∧ Below w.heap.size w w' := by
  obtain ⟨i0, hi, hz0, hz1, hz2⟩ := info_parts info_u8
  have hll := h.len
  have hcap := h.cap
  have hcm := h.capm
  have o0 := World.ownsRow_lit (base := w.heap.size) (e := 5) (size := 1) w #[] 0 (Nat.le_refl _) (by unfold maxLen; omega) rfl
  obtain ⟨w1, hw1⟩ : ∃ w1, w1 = w.alloc (.cells #[] 5) := ⟨_, rfl⟩
  rw [← hw1] at o0
  have b1 : Below w.heap.size w w1 := by rw [hw1]; exact (Below.refl _ _).alloc (Nat.le_refl _) _
  obtain ⟨r1, hr1, hr1b⟩ : ∃ r : Nat, (n : Int) % 256 = (r : Int) ∧ r = n % 256 := ⟨n % 256, by omega, rfl⟩
  obtain ⟨r2, hr2, hr2b⟩ : ∃ r : Nat, (n : Int) / 256 = (r : Int) ∧ r = n / 256 := ⟨n / 256, by omega, rfl⟩
  obtain ⟨r3, hr3, hr3b⟩ : ∃ r : Nat, (255 : Int) - (r1 : Int) = (r : Int) ∧ r + r1 = 255 := ⟨255 - r1, by omega, by omega⟩
  obtain ⟨r4, hr4, hr4b⟩ : ∃ r : Nat, (255 : Int) - (r2 : Int) = (r : Int) ∧ r + r2 = 255 := ⟨255 - r2, by omega, by omega⟩
  have hr1c : r1 < 256 := by omega
  have hr2c : r2 < 256 := by omega
  have HST := Lib.hid (show stP b = [1, r1, r2, r3, r4] ++ b from by
    unfold stP
    rw [hll, ← hr1b, ← hr2b, show 255 - r1 = r3 from by omega, show 255 - r2 = r4 from by omega])
  have hmin : min (n : Int) 65535 = (n : Int) := by omega
  have hc : ((0 : Int) < (n : Int)) := by omega
  have hrr : r1 < 256 ∧ r2 < 256 ∧ r3 < 256 ∧ r4 < 256 := by omega
  have HRR := Lib.hid hrr
  obtain ⟨g, off, rfl, hg, hcell⟩ := h.cells hp
  have HH := Lib.hid h
  have HBY := Lib.hid h.byte
  have HO0 := Lib.hid (o0.alloc (.cells #[.int .u8 1, .int .u8 (r1 : Int), .int .u8 (r2 : Int), .int .u8 (r3 : Int), .int .u8 (r4 : Int)] 5))
  have HB1 := Lib.hid b1
  have HW1 := Lib.hid hw1
  have hsrc : ∀ j u, [Value.int .u8 1, .int .u8 (r1 : Int), .int .u8 (r2 : Int), .int .u8 (r3 : Int), .int .u8 (r4 : Int)][j]? = some u → (w1.alloc (.cells #[.int .u8 1, .int .u8 (r1 : Int), .int .u8 (r2 : Int), .int .u8 (r3 : Int), .int .u8 (r4 : Int)] 5)).cell? ((⟨w1.heap.size, 0, none⟩ : Addr).add j) = some u := by
    intro j u hj
    have h4 : (⟨w1.heap.size, 0, none⟩ : Addr).add j = ⟨w1.heap.size, j, none⟩ := by unfold Addr.add; split <;> simp_all
    rw [h4, cell_of_row _ _ j _ _ (0, 0) (heap_alloc_new w1 _)]
    simpa using hj
  have HSRC := Lib.hid hsrc
  have HSZ := Lib.hid (show w.heap.size ≤ (w1.alloc (.cells #[.int .u8 1, .int .u8 (r1 : Int), .int .u8 (r2 : Int), .int .u8 (r3 : Int), .int .u8 (r4 : Int)] 5)).heap.size from Nat.le_trans b1.size ((Below.refl _ _).alloc (Nat.le_refl _) _).size)
  clear h o0 b1 hw1 hsrc hr1b hr2b hrr hcell hp hg
  skip
  go_enter Try.func45, Try.ntmps45
  go_wp2_with fail
  rw [← HW1.out]
  go_loopw [3, 4] (fun s3 s4 wr => s3 = .slice (some ⟨w.heap.size, 0, none⟩) 0 0 ∧ s4 = .int .i64 0 ∧ Hid (wr = w1)) (fun _ _ _ => 0)
  case atStart => exact ⟨rfl, rfl, Lib.hid rfl⟩
  case round =>
    obtain ⟨rfl, rfl, HW⟩ := hrel
    rename World => wr
    have HWW := HW.out
    subst HWW
    go_wp2_with (at_builtin; refine wpList_append_own _ rfl (.tmp 29) (.tmp 46) 22 rfl w.heap.size 5 i0 (.int .u8 0) 1 1 Try.underlying22 hi hz0 hz1 hz2 rfl (by decide) _ _ _ rfl HO0.out ⟨wr.heap.size, 0, none⟩ 5 5 [.int .u8 1, .int .u8 (r1 : Int), .int .u8 (r2 : Int), .int .u8 (r3 : Int), .int .u8 (r4 : Int)] rfl rfl HSRC.out (by simp [Value.oneCell']) (by unfold maxLen; omega) (by omega) HSZ.out ?_)
    intro v1 w2 ho1 hg1 _
    have HO1 := Lib.hid (show w2.ownsRow w.heap.size 5 1 v1 (0 + 5) (bv [1, r1, r2, r3, r4]) from ho1)
    have HB2 := Lib.hid (below_own (HB1.out.alloc HB1.out.size (.cells #[.int .u8 1, .int .u8 (r1 : Int), .int .u8 (r2 : Int), .int .u8 (r3 : Int), .int .u8 (r4 : Int)] 5)) HO0.out hg1 (Nat.le_refl _) HSZ.out)
    have HH2 := Lib.hid (HH.out.kept HB2.out)
    have HS2 := Lib.hid HB2.out.size
    clear ho1 hg1
    go_wp2_with (at_builtin; refine wpList_append_bytes rfl (.tmp 48) (.tmp 54) rfl w.heap.size v1 (0 + 5) [1, r1, r2, r3, r4] rfl HO1.out _ _ _ b rfl HH2.out (by omega) HS2.out ?_)
    intro v3 w3 ho3 hg3
    have ho4 : w3.ownsRow w.heap.size 5 1 v3 (stP b).length (bv (stP b)) := by
      rw [stP_len, hll, Nat.add_comm]
      rw [HST.out]
      exact ho3
    have hby : ∀ x ∈ stP b, x < 256 := by
      intro x hx
      rw [HST.out] at hx
      have hr := HRR.out
      rcases List.mem_append.1 hx with e | e
      · simp only [List.mem_cons, List.not_mem_nil, or_false] at e
        omega
      · exact HBY.out x e
    have HB3 := Lib.hid (below_own HB2.out HO1.out hg3 (Nat.le_refl _) HS2.out)
    obtain ⟨a5, c5, rfl, h5, _⟩ := BytesAt.ofOwn ho4 hby (by rw [stP_len, hll]; omega)
    have H5 := Lib.hid h5
    clear ho3 hg3 ho4 hby h5
    go_wp2_with fail
    go_ret
    exact ⟨a5, c5, rfl, H5.out, HB3.out⟩
theorem rst_any {w : World} {a : Option Addr} {n c : Nat} {b : List Nat} (h : BytesAt w a n c b) (hn : n ≤ 65535) :
    Calls Try.prog 45 #[.slice a n c] w fun e w' => ∃ a' c', e = .returned (.slice a' (stP b).length c') ∧ BytesAt w' a' (stP b).length c' (stP b) ∧ Below w.heap.size w w' := by
  rcases Nat.eq_zero_or_pos n with h0 | hp
  · subst h0
    obtain rfl : b = [] := List.eq_nil_of_length_eq_zero h.len
    exact rst_zero h
  · exact rst_pos h hn hp
end Go.Proofs.Ytachikilcfdngaa
