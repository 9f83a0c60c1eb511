/- The document's cursor (layer 1): Bytes, Text, walked. -/
import Derived.Test.YtbpimhklekcaiaaNumsRCur
namespace Go.Proofs.Ytbpimhklekcaiaa
open Go.RowKit NumsPlain
set_option linter.unusedVariables false

theorem cb_e' (xs : List Nat) {i e : Nat} (k : Int) (h : e ≠ 0) : cb xs i e k = ([], i, e) := by unfold cb; rw [if_pos h]
theorem BytesAt.grownE {w w' : World} {a : Option Addr} {n c : Nat} {xs : List Nat} (h : BytesAt w a n c xs) {r : Nat} (hg : w.grownBy w' (some r)) (hne : ∀ b off s, 0 < n → a = some ⟨b, off, s⟩ → b ≠ r) : BytesAt w' a n c xs :=
  ⟨h.len, h.cap, h.byte, h.reach, h.capm, h.nl, fun hp => by
    obtain ⟨b, off, ha, hlt, hc⟩ := h.cells hp
    exact ⟨b, off, ha, Nat.lt_of_lt_of_le hlt hg.size, fun k hk => hg.cell (hc k hk) (fun e => hne b off _ hp ha (Option.some.inj e))⟩⟩
theorem CurAt.grownE {T : TypeId} {w w' : World} {B : Nat} {a : Option Addr} {n c : Nat} {xs : List Nat} {i e : Nat} (h : CurAt T w B a n c xs i e) {r : Nat} (hg : w.grownBy w' (some r)) (hB : B ≠ r) (hne : ∀ b off s, 0 < n → a = some ⟨b, off, s⟩ → b ≠ r) : CurAt T w' B a n c xs i e :=
  ⟨(hg.block B h.lt (fun e => hB (Option.some.inj e))).trans h.blk, h.src.grownE hg hne, h.apart, h.le⟩

set_option maxRecDepth 100000 in
set_option maxHeartbeats 4000000 in
theorem rcb_any {w : World} {B : Nat} {a : Option Addr} {n c : Nat} {xs : List Nat} {i e : Nat} (h : CurAt 44 w B a n c xs i e) (k : Int) (hmlo : -9223372036854775808 ≤ k) (hmhi : k ≤ 9223372036854775807) :
    Calls Try.prog 31 #[.pointer (some ⟨B, 0, none⟩), .int .i64 k] w fun r w' => (∃ a' c', r = .returned (.slice a' (cb xs i e k).1.length c') ∧ BytesAt w' a' (cb xs i e k).1.length c' (cb xs i e k).1) ∧ CurAt 44 w' B a n c xs (cb xs i e k).2.1 (cb xs i e k).2.2 ∧ w.grownBy w' (some B) := by
  have hempty : ∀ w, BytesAt w none 0 0 [] := fun w => BytesAt.empty w none 0 (by omega) (fun _ => rfl)
  have HEM := Lib.hid hempty
  clear hempty
  have h0 := h.c0
  have h1 := h.c1
  have h2 := h.c2
  have f1 := h.f 1
  have f2 := h.f 2
  by_cases he : e = 0
  · subst he
    have hle := h.le
    have hlen := h.src.len
    have hnr := h.src.reach
    have hcap := h.src.cap
    have hcm := h.src.capm
    have HH := Lib.hid h
    have HLEN := Lib.hid hlen
    have e1 : IntKind.i64.wrap ((n : Int) - (i : Int)) = (n : Int) - (i : Int) := IntWalk.i64_in _ (by omega)
    clear h hlen
    by_cases hneg : k < 0
    · have hc : cb xs i 0 k = ([], i, 3) := by unfold cb; rw [if_neg (by omega), if_pos (Or.inl hneg)]
      have HC := Lib.hid hc
      have d1 : decide (k < 0) = true := by simp; omega
      clear hc
      go_enter Try.func31, Try.ntmps31
      go_wp2_with fail
      go_quiet (fail)
      go_wp2_with fail
      go_ret
      rw [HC.out]
      obtain ⟨s1, t1⟩ := (HH.out.drewN _).set2 3
      exact ⟨⟨none, 0, rfl, HEM.out _⟩, s1, (grown_drewN _ _ _).trans' t1⟩
    · by_cases hbig : (n : Int) - (i : Int) < k
      · have hc : cb xs i 0 k = ([], i, 3) := by unfold cb; rw [if_neg (by omega), if_pos (Or.inr (by rw [HLEN.out]; omega))]
        have HC := Lib.hid hc
        have d0 : decide (k < 0) = false := by simp; omega
        clear hc
        go_enter Try.func31, Try.ntmps31
        go_wp2_with fail
        go_quiet (fail)
        go_wp2_with fail
        go_ret
        rw [HC.out]
        obtain ⟨s1, t1⟩ := (HH.out.drewN _).set2 3
        exact ⟨⟨none, 0, rfl, HEM.out _⟩, s1, (grown_drewN _ _ _).trans' t1⟩
      · obtain ⟨m, rfl⟩ := Int.eq_ofNat_of_zero_le (show 0 ≤ k by omega)
        have him : i + m ≤ n := by omega
        have hc : cb xs i 0 (m : Int) = ((xs.drop i).take m, i + m, 0) := by unfold cb; rw [if_neg (by omega), if_neg (by rw [HLEN.out]; omega)]; simp
        have hml : ((xs.drop i).take m).length = m := by have := HLEN.out; simp; omega
        have HC := Lib.hid hc
        have HML := Lib.hid hml
        have d0 : decide ((m : Int) < 0) = false := by simp
        have hbig2 : (m : Int) ≤ (n : Int) - (i : Int) := by omega
        have e2 : IntKind.i64.wrap ((i : Int) + (m : Int)) = (i : Int) + (m : Int) := IntWalk.i64_in _ (by omega)
        have e3 : IntKind.i64.wrap (i : Int) = (i : Int) := IntWalk.i64_in _ (by omega)
        clear hc hml hbig
        go_enter Try.func31, Try.ntmps31
        go_wp2_with fail
        go_quiet (fail)
        go_wp2_with fail
        rename Nat => nq
        obtain ⟨w2, hw2⟩ : ∃ w2, w2 = w.drewN nq := ⟨_, rfl⟩
        have s2 : CurAt 44 w2 B a n c xs i 0 := by rw [hw2]; exact HH.out.drewN nq
        have t2 : w.grownBy w2 (some B) := by rw [hw2]; exact grown_drewN _ _ _
        rw [← hw2]
        have m0 := s2.c0
        have m1 := s2.c1
        have S2 := Lib.hid s2
        have T2 := Lib.hid t2
        clear hw2 s2 t2 h0 h1 h2 f1 f2
        have hsl := slice_run a n c i m (by omega)
        have hsub := S2.out.src.subAny i m him
        have hBL : B < w2.heap.size := S2.out.lt
        generalize (if c = i then a else a.map (·.add i)) = A at hsl hsub
        have HSUB := Lib.hid hsub
        clear hsub
        go_region_held3 (fun w' => w'.cell? ⟨B, 0, none⟩ = some (.slice a n c) ∧ w'.cell? ⟨B, 1, none⟩ = some (.int .i64 (i : Int))) (first | go_keep | exact ⟨(hbel3.cell (p := ⟨B, 0, none⟩) hBL).trans m0, (hbel3.cell (p := ⟨B, 1, none⟩) hBL).trans m1⟩) (first | (go_at_call 19; refine (twin (HSUB.out.drew)).mono ?_; rintro r w3 ⟨g3, c3, rfl, hg3, hlt3, hown3, hb3, hbel3⟩))
        have s3 := S2.out.drew.keptB hbel3
        have t3 := T2.out.trans' ((grown_drew w2 (some B)).trans' (below_grown hbel3 _))
        have k1 := s3.c1
        have kf := s3.f 1
        obtain ⟨s4, t4⟩ := s3.set1 (i + m) him
        have HB4 := Lib.hid hb3
        have S4 := Lib.hid s4
        have T4 := Lib.hid (t3.trans' t4)
        have s3g := Lib.hid t4
        have HG3 := Lib.hid hg3
        have HAP := Lib.hid (show B ≠ g3 from fun e => by
          have h5 : w2.drew.heap.size ≤ g3 := HG3.out
          have h6 : w2.drew.heap.size = w2.heap.size := rfl
          omega)
        clear hg3 hlt3 hown3 hb3 hbel3 s3 t3 s4 t4 m0 m1
        go_wp2_with fail
        go_ret
        rw [HC.out]
        refine ⟨⟨some ⟨g3, 0, none⟩, c3, by rw [HML.out]; rfl, ?_⟩, S4.out, T4.out⟩
        rw [HML.out]
        exact HB4.out.grownE (s3g.out) (fun b off s _ e => by cases e; exact fun e2 => HAP.out e2.symm)
  · have hc : cb xs i e k = ([], i, e) := by unfold cb; rw [if_pos he]
    have z : ((e : Int) != 0) = true := by rw [bne_iff_ne]; omega
    have HC := Lib.hid hc
    have HH := Lib.hid h
    clear h hc he
    go_enter Try.func31, Try.ntmps31
    go_wp2_with fail
    go_ret
    rw [HC.out]
    exact ⟨⟨none, 0, rfl, HEM.out _⟩, HH.out, World.grownBy.refl _ _⟩

set_option maxRecDepth 100000 in
set_option maxHeartbeats 4000000 in
theorem rct_any {w : World} {B : Nat} {a : Option Addr} {n c : Nat} {xs : List Nat} {i e : Nat} (h : CurAt 44 w B a n c xs i e) (most : Int) (hmlo : -9223372036854775808 ≤ most) (hmhi : most ≤ 9223372036854775807) :
    Calls Try.prog 33 #[.pointer (some ⟨B, 0, none⟩), .int .i64 most] w fun r w' => r = .returned (.string (bs (ct xs i e most).1)) ∧ CurAt 44 w' B a n c xs (ct xs i e most).2.1 (ct xs i e most).2.2 ∧ w.grownBy w' (some B) := by
  have h1 := h.c1
  have HU := Lib.hid (rcu_any h)
  have HH := Lib.hid h
  have hreach := h.src.reach
  obtain ⟨v, hv⟩ : ∃ u, u = (cu xs i e).1 := ⟨_, rfl⟩
  obtain ⟨j, hj⟩ : ∃ m, m = (cu xs i e).2.1 := ⟨_, rfl⟩
  obtain ⟨f, hf⟩ : ∃ f, f = (cu xs i e).2.2 := ⟨_, rfl⟩
  have hvl : v < 18446744073709551616 := by rw [hv]; exact cu_lt xs i e
  have hz : f ≠ 0 → v = 0 ∧ j = i := by rw [hf, hv, hj]; exact cu_zero
  have HE0 := Lib.hid (show f = 0 → e = 0 from fun g => cu_e0 (hf ▸ g))
  have HV := Lib.hid hv
  have HJ := Lib.hid hj
  have HF := Lib.hid hf
  have HZ := Lib.hid hz
  have HVL := Lib.hid hvl
  have HM1 := Lib.hid hmlo
  have HM2 := Lib.hid hmhi
  clear h hv hj hf hz hvl hmlo hmhi
  go_enter Try.func33, Try.ntmps33
  go_wp2_with fail
  refine HU.out.mono ?_
  rintro r w1 ⟨rfl, hc1, hg1⟩
  rw [← HV.out]
  rw [← HJ.out, ← HF.out] at hc1
  have g0 := hc1.c0
  have g1 := hc1.c1
  have g2 := hc1.c2
  have gf1 := hc1.f 1
  have gf2 := hc1.f 2
  have HC1 := Lib.hid hc1
  have HG1 := Lib.hid hg1
  clear hc1 hg1
  by_cases hf0 : f = 0
  · have he := HE0.out hf0
    subst he
    subst hf0
    by_cases hm : most < 0 ∨ most < (v : Int)
    · have hcn : ct xs i 0 most = ([], i, 5) := by
        have q : cn xs i 0 most 5 = (0, i, 5) := by unfold cn; rw [if_neg (by omega), if_neg (by rw [← HF.out]; simp), if_pos (by rw [← HV.out]; exact hm)]
        unfold ct
        rw [if_neg (by omega), q]
        rw [cb_e' xs (i := i) (e := 5) _ (by omega)]
        rfl
      have HCN := Lib.hid hcn
      have HMM := Lib.hid hm
      obtain ⟨s1, t1⟩ := HC1.out.set1 i HH.out.le
      obtain ⟨s2, t2⟩ := s1.set2 5
      have HS := Lib.hid s2
      have HT := Lib.hid (HG1.out.trans' (t1.trans' t2))
      clear hcn s1 t1 s2 t2 hm
      by_cases hneg : most < 0
      · have d1 : decide (most < 0) = true := by simp; omega
        go_wp2_with fail
        go_ret
        rw [HCN.out]
        exact ⟨rfl, HS.out, HT.out⟩
      · have hmv : most < (v : Int) := HMM.out.resolve_left hneg
        have e3 : IntKind.u64.wrap most = most := by rw [IntKind.wrap_u64]; have := HM2.out; omega
        go_wp2_with fail
        go_ret
        rw [HCN.out]
        exact ⟨rfl, HS.out, HT.out⟩
    · have hcn : cn xs i 0 most 5 = (v, j, 0) := by
        unfold cn; rw [if_neg (by omega), if_neg (by rw [← HF.out]; simp), if_neg (by rw [← HV.out]; exact hm)]
        exact Prod.ext HV.out.symm (Prod.ext HJ.out.symm HF.out.symm)
      have hneg : ¬ most < 0 := fun h => hm (Or.inl h)
      have hmv : (v : Int) ≤ most := by have h2 : ¬ most < (v : Int) := fun h => hm (Or.inr h); omega
      have e3 : IntKind.u64.wrap most = most := by rw [IntKind.wrap_u64]; have := HM2.out; omega
      have e4 : wrap64 (v : Int) = (v : Int) := by unfold wrap64; have := HM2.out; omega
      have hv63 : (v : Int) ≤ 9223372036854775807 := by have := HM2.out; omega
      have hjn := HC1.out.le
      have hlen := HC1.out.src.len
      have e5 : IntKind.i64.wrap ((n : Int) - (j : Int)) = (n : Int) - (j : Int) := IntWalk.i64_in _ (by omega)
      have e6 : IntKind.u64.wrap ((n : Int) - (j : Int)) = (n : Int) - (j : Int) := by rw [IntKind.wrap_u64]; omega
      by_cases hbig : (n : Int) - (j : Int) < (v : Int)
      · have hct : ct xs i 0 most = ([], i, 3) := by
          have q : cb xs j 0 (v : Int) = ([], j, 3) := by unfold cb; rw [if_neg (by omega), if_pos (Or.inr (by rw [hlen]; omega))]
          unfold ct
          rw [if_neg (by omega), hcn]
          simp only [q]
          rfl
        have HCT := Lib.hid hct
        clear hcn hm hct hlen
        go_wp2_with fail
        go_quiet (fail)
        go_wp2_with fail
        go_ret
        rw [HCT.out]
        rename Nat => nq
        obtain ⟨s1, t1⟩ := (HC1.out.drewN nq).set1 i HH.out.le
        obtain ⟨s2, t2⟩ := s1.set2 3
        exact ⟨rfl, s2, HG1.out.trans' ((grown_drewN _ _ _).trans' (t1.trans' t2))⟩
      · have hct : ct xs i 0 most = cb xs j 0 (v : Int) := by
          have q : (cb xs j 0 (v : Int)).2.2 = 0 := by unfold cb; rw [if_neg (by omega), if_neg (by rw [hlen]; omega)]
          unfold ct
          rw [if_neg (by omega), hcn]
          simp only
          rw [if_neg (by rw [q]; simp)]
        have hle2 : (v : Int) ≤ (n : Int) - (j : Int) := by omega
        have HCT := Lib.hid hct
        clear hcn hm hct hlen hbig
        go_wp2_with fail
        go_quiet (fail)
        rename Nat => nq
        have HB := Lib.hid (rcb_any (HC1.out.drewN nq) (v : Int) (by omega) hv63)
        go_wp2_with fail
        refine HB.out.mono ?_
        rintro r w2 ⟨⟨a2, c2, rfl, hb2⟩, hc2, hg2⟩
        have HC2 := Lib.hid hc2
        have HG2 := Lib.hid (HG1.out.trans' ((grown_drewN _ _ _).trans' hg2))
        have hcv := hb2.conv
        obtain ⟨s, hs⟩ : ∃ s, s = cb xs j 0 (v : Int) := ⟨_, rfl⟩
        rw [← hs] at hcv HC2 HCT ⊢
        obtain ⟨l, hl⟩ : ∃ l, l = s.1.length := ⟨_, rfl⟩
        rw [← hl] at hcv ⊢
        clear hl hs hc2 hg2 hb2
        go_wp2_with fail
        go_ret
        rw [HCT.out]
        exact ⟨rfl, HC2.out, HG2.out⟩
  · obtain ⟨hv0, hji⟩ := HZ.out hf0
    have hcn : ct xs i e most = ([], i, f) := by
      by_cases he : e = 0
      · subst he
        have q : cn xs i 0 most 5 = (0, i, f) := by unfold cn; rw [if_neg (by omega), if_pos (by rw [← HF.out]; exact hf0), HF.out]
        unfold ct
        rw [if_neg (by omega), q]
        rw [cb_e' xs _ hf0]
        simp only
        rw [if_pos hf0]
      · have : f = e := by rw [HF.out]; unfold cu; rw [if_neg he]
        unfold ct
        rw [if_pos he, this]
    have HCN := Lib.hid hcn
    have z0 : ((f : Int) != 0) = true := by rw [bne_iff_ne]; omega
    have HJI := Lib.hid hji
    clear hcn hji
    subst hv0
    clear hf0
    go_wp2_with fail
    go_ret
    rw [HCN.out]
    exact ⟨rfl, by rw [← HJI.out]; exact HC1.out, HG1.out⟩
end Go.Proofs.Ytbpimhklekcaiaa
