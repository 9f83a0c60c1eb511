/- The document's cursor (layer 1): U, I, Num, Bytes, Text, End, walked: they compute what package nums' cursor computes. -/
import Derived.Test.YtbpimhklekcaiaaNumsCur3
import Derived.Test.YtbpimhklekcaiaaNumsJoinsWalk
namespace Go.Proofs.Ytbpimhklekcaiaa
open Go.RowKit NumsPlain
set_option linter.unusedVariables false

theorem uu_err2 : ∀ (l : List Nat) (acc i : Nat), (uu acc i l).2.2 ≠ 0 → (uu acc i l).2.1 = 0
  | [], _, _, _ => by simp [uu]
  | x :: xs, acc, i, h => by
    revert h
    simp only [uu]
    split
    · simp
    · split
      · exact uu_err2 xs _ _
      · split
        · simp
        · simp
theorem ru_err2 (xs : List Nat) (at_ : Int) (h : (ru xs at_).2.2 ≠ 0) : (ru xs at_).2.1 = 0 := by
  revert h
  unfold ru; split
  · simp
  · exact uu_err2 _ 0 0

set_option maxRecDepth 100000 in
set_option maxHeartbeats 1000000 in
theorem rcu_any {w : World} {B : Nat} {a : Option Addr} {n c : Nat} {xs : List Nat} {i e : Nat} (h : CurAt 44 w B a n c xs i e) :
    Calls Try.prog 25 #[.pointer (some ⟨B, 0, none⟩)] w fun r w' => r = .returned (.int .u64 ((cu xs i e).1 : Int)) ∧ CurAt 44 w' B a n c xs (cu xs i e).2.1 (cu xs i e).2.2 ∧ w.grownBy w' (some B) := by
  have h0 := h.c0
  have h1 := h.c1
  have h2 := h.c2
  have f1 := h.f 1
  have f2 := h.f 2
  by_cases he : e = 0
  · subst he
    have HH := Lib.hid h
    have hin := h.le
    have hnr := h.src.reach
    have hu : ∀ k, Calls Try.prog 21 #[.slice a n c, .int .i64 (i : Int)] (w.drewN k) fun e w' => e = .returned (ruV (ru xs i)) ∧ w' = w.drewN k := fun k => (ru_any (h.src.drewN k) i).mono fun e w' h => ⟨h.1, h.2.symm⟩
    obtain ⟨v, hv⟩ : ∃ u, u = (ru xs (i : Int)).1 := ⟨_, rfl⟩
    obtain ⟨j, hj⟩ : ∃ m, m = (ru xs (i : Int)).2.1 := ⟨_, rfl⟩
    obtain ⟨f, hf⟩ : ∃ f, f = (ru xs (i : Int)).2.2 := ⟨_, rfl⟩
    have hV : ruV (ru xs (i : Int)) = .tuple #[.int .u64 (v : Int), .int .i64 (j : Int), .int .i64 (f : Int)] := by unfold ruV; rw [hv, hj, hf]
    have hE : ru xs (i : Int) = (v, j, f) := by rw [hv, hj, hf]
    have hz : f ≠ 0 → v = 0 ∧ j = 0 := by rw [hf, hv, hj]; exact fun g => ⟨ru_err _ _ g, ru_err2 _ _ g⟩
    have hij : i + j ≤ n := by
      by_cases hf0 : f = 0
      · rw [hf0] at hE
        have hcnt := ru_count h.src.byte hE
        rw [h.src.len] at hcnt
        omega
      · have := hz hf0; omega
    have hc : cu xs i 0 = (v, i + j, f) := by
      unfold cu; rw [hE]
      by_cases hf0 : f = 0
      · simp [hf0]
      · obtain ⟨q1, q2⟩ := hz hf0
        simp [hf0, q1, q2]
    rw [hV] at hu
    have HU := Lib.hid hu
    have HC := Lib.hid hc
    clear h hu hv hj hf hV hE hz hc
    go_enter Try.func25, Try.ntmps25
    go_wp2_with fail
    go_quiet ((go_at_call 21; exact Calls.quiet_of_same (HU.out _)))
    go_wp2_with fail
    go_ret
    rw [HC.out]
    obtain ⟨hs, hg⟩ := (HH.out.drewN _).set1 (i + j) hij
    obtain ⟨hs2, hg2⟩ := hs.set2 f
    exact ⟨rfl, hs2, (grown_drewN _ _ _).trans' (hg.trans' hg2)⟩
  · have hc : cu xs i e = (0, i, e) := by unfold cu; rw [if_neg he]
    have z : ((e : Int) != 0) = true := by rw [bne_iff_ne]; omega
    have HC := Lib.hid hc
    have HH := Lib.hid h
    clear h hc he
    go_enter Try.func25, Try.ntmps25
    go_wp2_with fail
    go_ret
    rw [HC.out]
    exact ⟨rfl, HH.out, World.grownBy.refl _ _⟩

set_option maxHeartbeats 1000000 in
theorem rci_any {w : World} {B : Nat} {a : Option Addr} {n c : Nat} {xs : List Nat} {i e : Nat} (h : CurAt 44 w B a n c xs i e) :
    Calls Try.prog 27 #[.pointer (some ⟨B, 0, none⟩)] w fun r w' => r = .returned (.int .i64 (zag (cu xs i e).1)) ∧ CurAt 44 w' B a n c xs (cu xs i e).2.1 (cu xs i e).2.2 ∧ w.grownBy w' (some B) := by
  have H1 := Lib.hid (rcu_any h)
  have H2 := Lib.hid (cu_lt xs i e)
  clear h
  go_enter Try.func27, Try.ntmps27
  go_wp2_with fail
  refine H1.out.mono ?_
  rintro r w1 ⟨rfl, hc, hg⟩
  have HC := Lib.hid hc
  have HG := Lib.hid hg
  clear hc hg
  go_wp2_with fail
  refine (rzag_any _ H2.out _).mono ?_
  rintro r w' ⟨rfl, rfl⟩
  go_wp2_with fail
  go_ret
  exact ⟨rfl, HC.out, HG.out⟩

theorem cu_e0 {xs : List Nat} {i e : Nat} (h : (cu xs i e).2.2 = 0) : e = 0 := by
  revert h
  unfold cu
  split
  · intro; assumption
  · exact id

set_option maxRecDepth 100000 in
set_option maxHeartbeats 2000000 in
theorem rcn_any {w : World} {B : Nat} {a : Option Addr} {n c : Nat} {xs : List Nat} {i e : Nat} (h : CurAt 44 w B a n c xs i e) (most : Int) (hmlo : -9223372036854775808 ≤ most) (hmhi : most ≤ 9223372036854775807) :
    Calls Try.prog 29 #[.pointer (some ⟨B, 0, none⟩), .int .i64 most] w fun r w' => r = .returned (.int .i64 ((cn xs i e most 2).1 : Int)) ∧ CurAt 44 w' B a n c xs (cn xs i e most 2).2.1 (cn xs i e most 2).2.2 ∧ w.grownBy w' (some B) := by
  have h1 := h.c1
  have HU := Lib.hid (rcu_any h)
  have HH := Lib.hid h
  obtain ⟨v, hv⟩ : ∃ u, u = (cu xs i e).1 := ⟨_, rfl⟩
  obtain ⟨j, hj⟩ : ∃ m, m = (cu xs i e).2.1 := ⟨_, rfl⟩
  obtain ⟨f, hf⟩ : ∃ f, f = (cu xs i e).2.2 := ⟨_, rfl⟩
  have hvl : v < 18446744073709551616 := by rw [hv]; exact cu_lt xs i e
  have hz : f ≠ 0 → v = 0 ∧ j = i := by rw [hf, hv, hj]; exact cu_zero
  have HE0 := Lib.hid (show f = 0 → e = 0 from fun g => cu_e0 (hf ▸ g))
  have HV := Lib.hid hv
  have HJ := Lib.hid hj
  have HF := Lib.hid hf
  have HZ := Lib.hid hz
  have HVL := Lib.hid hvl
  have HM1 := Lib.hid hmlo
  have HM2 := Lib.hid hmhi
  clear h hv hj hf hz hvl hmlo hmhi
  go_enter Try.func29, Try.ntmps29
  go_wp2_with fail
  refine HU.out.mono ?_
  rintro r w1 ⟨rfl, hc1, hg1⟩
  rw [← HV.out]
  rw [← HJ.out, ← HF.out] at hc1
  have g1 := hc1.c1
  have g2 := hc1.c2
  have gf1 := hc1.f 1
  have gf2 := hc1.f 2
  have HC1 := Lib.hid hc1
  have HG1 := Lib.hid hg1
  clear hc1 hg1
  by_cases hf0 : f = 0
  · have he := HE0.out hf0
    subst he
    subst hf0
    by_cases hm : most < 0 ∨ most < (v : Int)
    · have hcn : cn xs i 0 most 2 = (0, i, 2) := by unfold cn; rw [if_neg (by omega), if_neg (by rw [← HF.out]; simp), if_pos (by rw [← HV.out]; exact hm)]
      have HCN := Lib.hid hcn
      have HMM := Lib.hid hm
      obtain ⟨s1, t1⟩ := HC1.out.set1 i HH.out.le
      obtain ⟨s2, t2⟩ := s1.set2 2
      have HS := Lib.hid s2
      have HT := Lib.hid (HG1.out.trans' (t1.trans' t2))
      clear hcn s1 t1 s2 t2 hm
      by_cases hneg : most < 0
      · have d1 : decide (most < 0) = true := by simp; omega
        go_wp2_with fail
        go_ret
        rw [HCN.out]
        exact ⟨rfl, HS.out, HT.out⟩
      · have hmv : most < (v : Int) := HMM.out.resolve_left hneg
        have e3 : IntKind.u64.wrap most = most := by rw [IntKind.wrap_u64]; have := HM2.out; omega
        go_wp2_with fail
        go_ret
        rw [HCN.out]
        exact ⟨rfl, HS.out, HT.out⟩
    · have hcn : cn xs i 0 most 2 = (v, j, 0) := by
        unfold cn; rw [if_neg (by omega), if_neg (by rw [← HF.out]; simp), if_neg (by rw [← HV.out]; exact hm)]
        exact Prod.ext HV.out.symm (Prod.ext HJ.out.symm HF.out.symm)
      have HCN := Lib.hid hcn
      have hneg : ¬ most < 0 := fun h => hm (Or.inl h)
      have hmv : (v : Int) ≤ most := by have h2 : ¬ most < (v : Int) := fun h => hm (Or.inr h); omega
      have e3 : IntKind.u64.wrap most = most := by rw [IntKind.wrap_u64]; have := HM2.out; omega
      have e4 : wrap64 (v : Int) = (v : Int) := by unfold wrap64; have := HM2.out; omega
      have hv63 : (v : Int) ≤ 9223372036854775807 := by have := HM2.out; omega
      clear hcn hm
      go_wp2_with fail
      go_ret
      rw [HCN.out]
      exact ⟨rfl, HC1.out, HG1.out⟩
  · obtain ⟨hv0, hji⟩ := HZ.out hf0
    have hcn : cn xs i e most 2 = (0, i, f) := by
      unfold cn
      by_cases he : e = 0
      · subst he
        rw [if_neg (by omega), if_pos (by rw [← HF.out]; exact hf0), HF.out]
      · have : f = e := by rw [HF.out]; unfold cu; rw [if_neg he]
        rw [if_pos he, this]
    have HCN := Lib.hid hcn
    have z0 : ((f : Int) != 0) = true := by rw [bne_iff_ne]; omega
    have HJI := Lib.hid hji
    clear hcn hji
    subst hv0
    clear hf0
    go_wp2_with fail
    go_ret
    rw [HCN.out]
    exact ⟨rfl, by rw [← HJI.out]; exact HC1.out, HG1.out⟩

set_option maxHeartbeats 400000 in
theorem rend_any {w : World} {B : Nat} {a : Option Addr} {n c : Nat} {xs : List Nat} {i e : Nat} (h : CurAt 44 w B a n c xs i e) :
    Calls Try.prog 36 #[.pointer (some ⟨B, 0, none⟩)] w fun r w' => r = .returned (.int .i64 (cend n i e : Int)) ∧ ∃ q, w' = w.drewN q := by
  have h0 := h.c0
  have h1 := h.c1
  have h2 := h.c2
  clear h
  by_cases he : e = 0
  · subst he
    by_cases hi : i < n
    · have HE := Lib.hid (show cend n i 0 = 5 from by unfold cend; rw [if_pos rfl, if_pos hi])
      have hi' : (i : Int) < (n : Int) := by omega
      go_enter Try.func36, Try.ntmps36
      go_wp2_with fail
      go_quiet (fail)
      go_wp2_with fail
      go_ret
      exact ⟨by rw [HE.out]; rfl, _, rfl⟩
    · have HE := Lib.hid (show cend n i 0 = 0 from by unfold cend; rw [if_pos rfl, if_neg hi])
      have hi' : ¬ (i : Int) < (n : Int) := by omega
      go_enter Try.func36, Try.ntmps36
      go_wp2_with fail
      go_quiet (fail)
      go_wp2_with fail
      go_ret
      exact ⟨by rw [HE.out]; rfl, _, rfl⟩
  · have HE := Lib.hid (show cend n i e = e from by unfold cend; rw [if_neg he])
    have z : ((e : Int) == 0) = false := by rw [beq_eq_false_iff_ne]; omega
    clear he
    go_enter Try.func36, Try.ntmps36
    go_wp2_with fail
    go_quiet (fail)
    go_wp2_with fail
    go_ret
    exact ⟨by rw [HE.out]; rfl, _, rfl⟩
end Go.Proofs.Ytbpimhklekcaiaa
