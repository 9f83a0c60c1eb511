/- The walk of NumsBack: it returns true for all numbers of 64 bits and all bytes. -/
import Derived.Test.YtbpimhklekcaiaaNumsReadsWalk
import Derived.Deep.RegionWith
import Derived.Deep.RegionHeld3
import Derived.WalkSmall
import Derived.Deep.QuietTactic
import Derived.BigQuiet
namespace Go.Proofs.Ytbpimhklekcaiaa
open Go.RowKit NumsPlain
set_option linter.unusedVariables false

theorem BytesAt.drew {w : World} {a : Option Addr} {n c : Nat} {xs : List Nat} (h : BytesAt w a n c xs) : BytesAt w.drew a n c xs :=
  ⟨h.len, h.cap, h.byte, h.reach, h.capm, h.nl, h.cells⟩

/-- what is read is written so -/
theorem uu_conv : ∀ (l : List Nat) (acc i v j : Nat), (∀ x ∈ l, x < 256) → uu acc i l = (v, j, 0) → ∃ k n, j = i + k ∧ k ≤ l.length ∧ v = acc + n * 128 ^ i ∧ l.take k = pu n ∧ (i = 0 ∨ 0 < n)
  | [], _, _, _, _, _, h => by simp [uu] at h
  | x :: xs, acc, i, v, j, hb, h => by
    have hx := hb x (by simp)
    simp only [uu] at h
    split at h
    · simp at h
    · split at h
      · rename_i h128
        obtain ⟨k, n, rfl, hk, rfl, ht, hn⟩ := uu_conv xs _ _ v j (fun y hy => hb y (by simp [hy])) h
        have hn' : 0 < n := by omega
        refine ⟨k + 1, x % 128 + 128 * n, by omega, by simp; omega, ?_, ?_, by omega⟩
        · rw [Nat.pow_succ, Nat.add_mul, Nat.mul_comm 128 n, Nat.mul_assoc n 128, Nat.mul_comm 128 (128 ^ i)]; omega
        · rw [List.take_succ_cons, ht, pu_big (show 128 ≤ x % 128 + 128 * n by omega)]
          have e1 : (x % 128 + 128 * n) / 128 = n := by omega
          have e2 : 128 + (x % 128 + 128 * n) % 128 = x := by omega
          rw [e1, e2]
      · split at h
        · simp at h
        · simp only [Prod.mk.injEq, and_true] at h
          obtain ⟨rfl, rfl⟩ := h
          refine ⟨1, x, by omega, by simp, ?_, ?_, by omega⟩
          · rw [Nat.mod_eq_of_lt (by omega)]
          · rw [pu_small (by omega)]; simp

theorem ru_conv {xs : List Nat} {v j : Nat} (hb : ∀ x ∈ xs, x < 256) (h : ru xs 0 = (v, j, 0)) : j ≤ xs.length ∧ xs.take j = pu v := by
  rw [show (0 : Int) = ((0 : Nat) : Int) from rfl, ru_nat] at h
  simp only [List.drop_zero] at h
  obtain ⟨k, n, rfl, hk, rfl, ht, _⟩ := uu_conv xs 0 0 v j hb h
  simp only [Nat.zero_add, Nat.pow_zero, Nat.mul_one] at *
  exact ⟨hk, ht⟩

theorem ru_back {n : Nat} (h : n < 18446744073709551616) (r : List Nat) : ru (pu n ++ r) 0 = (n, (pu n).length, 0) := by
  rw [show (0 : Int) = ((0 : Nat) : Int) from rfl, ru_nat]
  simpa using uu_back h r

set_option maxRecDepth 100000 in
set_option maxHeartbeats 4000000 in
theorem numsBack_walk (a0 a1 : Int) (a2 : Option Addr) (len2 cap2 : Nat) (z2 : List Int) (w : World) (w0 : (Lit.int .u64 a0).wf = true) (w1 : (Lit.int .i64 a1).wf = true) (w2 : IsRow .u8 1 w a2 len2 cap2 z2) :
    Calls Try.prog 5 #[.int .u64 a0, .int .i64 a1, .slice a2 len2 cap2] w fun e w' => e = .returned (.bool true) ∧ Below w.heap.size w w' := by
  obtain ⟨n, rfl, hn⟩ := u64_of_wf w0
  obtain ⟨hlo, hhi⟩ := i64_of_wf w1
  obtain ⟨ys, hy⟩ := w2.bytes
  obtain ⟨i0, hi, hz0, hz1, hz2⟩ := info_parts info_u8
  clear w0 w1 w2
  have H0 := Lib.hid hn
  have H1 := Lib.hid hlo
  have H2 := Lib.hid hhi
  clear hn hlo hhi
  have hzl := zig_lt H1.out H2.out
  have k1 := pu_pos n
  have k2 := pu_pos (zig a1)
  have k3 := pu_ten H0.out
  have k4 := pu_ten hzl
  have HZ := Lib.hid hzl
  clear hzl
  have hrm := hy.reach
  have hly := hy.len
  have hcap := hy.cap
  have HLY := Lib.hid hly
  clear hly
  obtain ⟨lp, hlp⟩ : ∃ l, l = (pu n).length := ⟨_, rfl⟩
  obtain ⟨lq, hlq⟩ : ∃ l, l = (pu (zig a1)).length := ⟨_, rfl⟩
  rw [← hlp] at k1 k3
  rw [← hlq] at k2 k4
  have z1 : ((lp : Int) == 0) = false := by rw [beq_eq_false_iff_ne]; omega
  have z2 : ((lq : Int) == 0) = false := by rw [beq_eq_false_iff_ne]; omega
  have HP := Lib.hid hlp
  have HQ := Lib.hid hlq
  clear hlp hlq
  go_enter Try.func5, Try.ntmps5
  go_wp2_with fail
  refine (putu _ H0.out _).mono ?_
  rintro e w1 ⟨g1, c1, rfl, _, hp1, hb1⟩
  rw [← HP.out] at hp1 ⊢
  go_wp2_with fail
  refine (puti _ H1.out H2.out _).mono ?_
  rintro e w2 ⟨g2, c2, rfl, _, hp2, hb2⟩
  rw [← HQ.out] at hp2 ⊢
  have hb12 := hb1.trans (hb2.mono hb1.size)
  by_cases hbig : (4096 : Int) < (len2 : Int)
  · clear hp1 hp2 hb1 hb2
    go_wp2_with fail
    go_ret
    exact ⟨by simp; omega, hb12⟩
  · have hy2 := hy.kept hb12
    have hp1' := hp1.kept hb2
    have ht1 := twin hp1'
    have HT1 := Lib.hid ht1
    have HY2 := Lib.hid hy2
    have HP2 := Lib.hid hp2
    have HB12 := Lib.hid hb12
    clear hy hp1 hp1' hp2 hb1 hb2 hb12 hy2 ht1
    go_wp2_with fail
    refine HT1.out.mono ?_
    rintro e w3 ⟨g3, c3, rfl, _, _, hown3, _, hb3⟩
    have hy3 := HY2.out.kept hb3
    have hb03 := HB12.out.trans (hb3.mono HB12.out.size)
    have HB03 := Lib.hid hb03
    clear hb03
    go_wp2_with (at_builtin; refine wpList_append_bytes rfl (.tmp 45) (.tmp 46) rfl w2.heap.size _ _ _ rfl hown3 _ _ _ _ rfl hy3 (by omega) hb3.size ?_)
    intro v4 w4 hown4 hgrow4
    have hb4 := (HB03.out).grown hgrow4 HB03.out.size (fun k hk => Nat.le_trans HB12.out.size ((hown3.lt k hk).1))
    have hb24 := hb3.grown hgrow4 hb3.size (fun k hk => (hown3.lt k hk).1)
    obtain ⟨g4, c4, rfl, _, _, hy4⟩ := BytesAt.own hown4 (fun x hx => (List.mem_append.1 hx).elim (pu_bytes H0.out x) (hy3.byte x)) (by omega) (by omega)
    have hu := u_any hy4 0
    rw [ru_back H0.out ys, ← HP.out] at hu
    have HU := Lib.hid hu
    have hp2 := HP2.out.kept hb24
    have ht2 := twin hp2
    have HT2 := Lib.hid ht2
    have hy5 := HY2.out.kept hb24
    have HB4 := Lib.hid hb4
    clear hy4 hu hp2 ht2 hown3 hown4 hgrow4 hy3 hb3 hb4 hb24
    go_wp2_with fail
    refine HU.out.mono ?_
    rintro e w' ⟨rfl, rfl⟩
    unfold ruV
    go_wp2_with fail
    refine HT2.out.mono ?_
    rintro e w5 ⟨g5, c5, rfl, _, _, hown5, _, hb5⟩
    have hy6 := hy5.kept hb5
    have hb05 := HB4.out.trans (hb5.mono HB4.out.size)
    have HB05 := Lib.hid hb05
    clear hb05
    go_wp2_with (at_builtin; refine wpList_append_bytes rfl (.tmp 54) (.tmp 55) rfl w4.heap.size _ _ _ rfl hown5 _ _ _ _ rfl hy6 (by omega) hb5.size ?_)
    intro v6 w6 hown6 hgrow6
    have hb6 := (HB05.out).grown hgrow6 HB05.out.size (fun k hk => Nat.le_trans HB4.out.size ((hown5.lt k hk).1))
    have hb46 := hb5.grown hgrow6 hb5.size (fun k hk => (hown5.lt k hk).1)
    obtain ⟨g6, c6, rfl, _, _, hy7⟩ := BytesAt.own hown6 (fun x hx => (List.mem_append.1 hx).elim (pu_bytes HZ.out x) (hy6.byte x)) (by omega) (by omega)
    have hii := i_any hy7 0
    rw [ru_back HZ.out ys, ← HQ.out, zag_zig] at hii
    have HI := Lib.hid hii
    have hy8 := hy5.kept hb46
    have huy := u_any hy8 0
    have HUY := Lib.hid huy
    have HY8 := Lib.hid hy8
    have HB6 := Lib.hid hb6
    clear hy5 hy6 hy7 hy8 huy hii hown5 hown6 hgrow6 hb5 hb6 hb46
    go_wp2_with fail
    refine HI.out.mono ?_
    rintro e w' ⟨rfl, rfl⟩
    go_wp2_with fail
    refine (zig_any _ H1.out H2.out _).mono ?_
    rintro e w' ⟨rfl, rfl⟩
    go_wp2_with fail
    refine (zag_any _ HZ.out _).mono ?_
    rintro e w' ⟨rfl, rfl⟩
    rw [zag_zig]
    go_wp2_with fail
    refine HUY.out.mono ?_
    rintro e w' ⟨rfl, rfl⟩
    obtain ⟨u, hu⟩ : ∃ u, u = (ru ys 0).1 := ⟨_, rfl⟩
    obtain ⟨j, hj⟩ : ∃ m, m = (ru ys 0).2.1 := ⟨_, rfl⟩
    obtain ⟨f, hf⟩ : ∃ f, f = (ru ys 0).2.2 := ⟨_, rfl⟩
    have hV : ruV (ru ys 0) = .tuple #[.int .u64 (u : Int), .int .i64 (j : Int), .int .i64 (f : Int)] := by unfold ruV; rw [hu, hj, hf]
    have HL := Lib.hid (show u < 18446744073709551616 from by rw [hu]; exact ru_lt ys 0)
    have hE : ru ys 0 = (u, j, f) := by rw [hu, hj, hf]
    have HE := Lib.hid hE
    have HV := Lib.hid hV
    clear hu hj hf hV hE
    by_cases hf0 : f = 0
    · subst hf0
      obtain ⟨hjl, htk⟩ := ru_conv HY8.out.byte HE.out
      rw [HLY.out] at hjl
      have hk := HY8.out.upto j hjl
      rw [htk] at hk
      have HK := Lib.hid hk
      have HT := Lib.hid htk
      clear hk htk
      rw [show ruV (ru ys 0) = .tuple #[.int .u64 (u : Int), .int .i64 (j : Int), .int .i64 0] from HV.out]
      have hjl2 : (j : Int) ≤ (len2 : Int) := by omega
      have hjc : (j : Int) ≤ (cap2 : Int) := by omega
      have hj0 : (0 : Int) ≤ (j : Int) := by omega
      go_wp2_with fail
      go_region_held3 (fun w' => True) (trivial) (first | (go_at_call 12; refine (putu _ HL.out _).mono ?_; rintro e w7 ⟨g7, c7, rfl, _, hp7, hb7⟩) | (go_at_call 11; refine (same_any hp7 (HK.out.drew.kept hb7)).mono ?_; rintro e w8 ⟨rfl, rfl⟩))
      go_wp2_with fail
      go_ret
      exact ⟨rfl, (HB6.out.drew.trans (hb7.mono HB6.out.size))⟩
    · have z0 : ((f : Int) != 0) = true := by rw [bne_iff_ne]; omega
      clear hf0
      rw [HV.out]
      go_wp2_with fail
      go_quiet (fail)
      go_wp2_with fail
      go_ret
      exact ⟨rfl, below_drewN HB6.out _⟩
end Go.Proofs.Ytbpimhklekcaiaa
