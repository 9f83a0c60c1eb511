/- Texts put together by packtpl2.py: RCur, MfRA, MfQ, MfQM, MfQR, MfQE. -/
import Derived.Test.YtbdgcfimbblncaaGreatDoorPkMR1
import Derived.Test.YtbdgcfimbblncaaGreatDoorPkMR2
import Derived.Test.YtbdgcfimbblncaaGreatDoorPkMR3
import Derived.Test.YtbdgcfimbblncaaGreatDoorPkMR4
import Derived.Test.YtbdgcfimbblncaaGreatDoorPkMR5
import Derived.Test.YtbdgcfimbblncaaGreatDoorPkMR7
import Derived.Test.YtbdgcfimbblncaaGreatDoorPkMR10
import Derived.Below
section PkMR11_0
/- The document's cursor (layer 1): U, Num, Bytes, Text, End, walked, for seats beside stage 1's. Written by genrcur.py out of XNumsRCur, XNumsRCur2. -/
namespace Go.Proofs.YtbdgcfimbblncaaGreatDoor
open Go.RowKit NumsPlain
set_option linter.unusedVariables false

theorem uu_err9 : ∀ (l : List Nat) (acc i : Nat), (uu acc i l).2.2 ≠ 0 → (uu acc i l).2.1 = 0
  | [], _, _, _ => by simp [uu]
  | x :: xs, acc, i, h => by
    revert h
    simp only [uu]
    split
    · simp
    · split
      · exact uu_err9 xs _ _
      · split
        · simp
        · simp
theorem ru_err9 (xs : List Nat) (at_ : Int) (h : (ru xs at_).2.2 ≠ 0) : (ru xs at_).2.1 = 0 := by
  revert h
  unfold ru; split
  · simp
  · exact uu_err9 _ 0 0

set_option maxRecDepth 100000 in
set_option maxHeartbeats 1000000 in
theorem rcu_any {w : World} {B : Nat} {a : Option Addr} {n c : Nat} {xs : List Nat} {i e : Nat} (h : CurAt 88 w B a n c xs i e) :
    Calls Tryz.prog 94 #[.pointer (some ⟨B, 0, none⟩)] w fun r w' => r = .returned (.int .u64 ((cu xs i e).1 : Int)) ∧ CurAt 88 w' B a n c xs (cu xs i e).2.1 (cu xs i e).2.2 ∧ w.grownBy w' (some B) := by
  have h0 := h.c0
  have h1 := h.c1
  have h2 := h.c2
  have f1 := h.f 1
  have f2 := h.f 2
  by_cases he : e = 0
  · subst he
    have HH := Lib.hid h
    have hin := h.le
    have hnr := h.src.reach
    have hu : ∀ k, Calls Tryz.prog 120 #[.slice a n c, .int .i64 (i : Int)] (w.drewN k) fun e w' => e = .returned (ruV (ru xs i)) ∧ w' = w.drewN k := fun k => (ru_any (h.src.drewN k) i).mono fun e w' h => ⟨h.1, h.2.symm⟩
    obtain ⟨v, hv⟩ : ∃ u, u = (ru xs (i : Int)).1 := ⟨_, rfl⟩
    obtain ⟨j, hj⟩ : ∃ m, m = (ru xs (i : Int)).2.1 := ⟨_, rfl⟩
    obtain ⟨f, hf⟩ : ∃ f, f = (ru xs (i : Int)).2.2 := ⟨_, rfl⟩
    have hV : ruV (ru xs (i : Int)) = .tuple #[.int .u64 (v : Int), .int .i64 (j : Int), .int .i64 (f : Int)] := by unfold ruV; rw [hv, hj, hf]
    have hE : ru xs (i : Int) = (v, j, f) := by rw [hv, hj, hf]
    have hz : f ≠ 0 → v = 0 ∧ j = 0 := by rw [hf, hv, hj]; exact fun g => ⟨ru_err _ _ g, ru_err9 _ _ g⟩
    have hij : i + j ≤ n := by
      by_cases hf0 : f = 0
      · rw [hf0] at hE
        have hcnt := ru_count h.src.byte hE
        rw [h.src.len] at hcnt
        omega
      · have := hz hf0; omega
    have hc : cu xs i 0 = (v, i + j, f) := by
      unfold cu; rw [hE]
      by_cases hf0 : f = 0
      · simp [hf0]
      · obtain ⟨q1, q2⟩ := hz hf0
        simp [hf0, q1, q2]
    rw [hV] at hu
    have HU := Lib.hid hu
    have HC := Lib.hid hc
    clear h hu hv hj hf hV hE hz hc
    go_enter Tryz.func94, Tryz.ntmps94
    go_wp2_with fail
    go_quiet ((go_at_call 120; exact Calls.quiet_of_same (HU.out _)))
    go_wp2_with fail
    go_ret
    rw [HC.out]
    obtain ⟨hs, hg⟩ := (HH.out.drewN _).set1 (i + j) hij
    obtain ⟨hs2, hg2⟩ := hs.set2 f
    exact ⟨rfl, hs2, (grown_drewN _ _ _).trans' (hg.trans' hg2)⟩
  · have hc : cu xs i e = (0, i, e) := by unfold cu; rw [if_neg he]
    have z : ((e : Int) != 0) = true := by rw [bne_iff_ne]; omega
    have HC := Lib.hid hc
    have HH := Lib.hid h
    clear h hc he
    go_enter Tryz.func94, Tryz.ntmps94
    go_wp2_with fail
    go_ret
    rw [HC.out]
    exact ⟨rfl, HH.out, World.grownBy.refl _ _⟩

theorem cu_e9 {xs : List Nat} {i e : Nat} (h : (cu xs i e).2.2 = 0) : e = 0 := by
  revert h
  unfold cu
  split
  · intro; assumption
  · exact id

set_option maxRecDepth 100000 in
set_option maxHeartbeats 2000000 in
theorem rcn_any {w : World} {B : Nat} {a : Option Addr} {n c : Nat} {xs : List Nat} {i e : Nat} (h : CurAt 88 w B a n c xs i e) (most : Int) (hmlo : -9223372036854775808 ≤ most) (hmhi : most ≤ 9223372036854775807) :
    Calls Tryz.prog 60 #[.pointer (some ⟨B, 0, none⟩), .int .i64 most] w fun r w' => r = .returned (.int .i64 ((ccn xs i e most 2).1 : Int)) ∧ CurAt 88 w' B a n c xs (ccn xs i e most 2).2.1 (ccn xs i e most 2).2.2 ∧ w.grownBy w' (some B) := by
  have h1 := h.c1
  have HU := Lib.hid (rcu_any h)
  have HH := Lib.hid h
  obtain ⟨v, hv⟩ : ∃ u, u = (cu xs i e).1 := ⟨_, rfl⟩
  obtain ⟨j, hj⟩ : ∃ m, m = (cu xs i e).2.1 := ⟨_, rfl⟩
  obtain ⟨f, hf⟩ : ∃ f, f = (cu xs i e).2.2 := ⟨_, rfl⟩
  have hvl : v < 18446744073709551616 := by rw [hv]; exact cu_lt xs i e
  have hz : f ≠ 0 → v = 0 ∧ j = i := by rw [hf, hv, hj]; exact cu_zero
  have HE0 := Lib.hid (show f = 0 → e = 0 from fun g => cu_e9 (hf ▸ g))
  have HV := Lib.hid hv
  have HJ := Lib.hid hj
  have HF := Lib.hid hf
  have HZ := Lib.hid hz
  have HVL := Lib.hid hvl
  have HM1 := Lib.hid hmlo
  have HM2 := Lib.hid hmhi
  clear h hv hj hf hz hvl hmlo hmhi
  go_enter Tryz.func60, Tryz.ntmps60
  go_wp2_with fail
  refine HU.out.mono ?_
  rintro r w1 ⟨rfl, hc1, hg1⟩
  rw [← HV.out]
  rw [← HJ.out, ← HF.out] at hc1
  have g1 := hc1.c1
  have g2 := hc1.c2
  have gf1 := hc1.f 1
  have gf2 := hc1.f 2
  have HC1 := Lib.hid hc1
  have HG1 := Lib.hid hg1
  clear hc1 hg1
  by_cases hf0 : f = 0
  · have he := HE0.out hf0
    subst he
    subst hf0
    by_cases hm : most < 0 ∨ most < (v : Int)
    · have hcn : ccn xs i 0 most 2 = (0, i, 2) := by unfold ccn; rw [if_neg (by omega), if_neg (by rw [← HF.out]; simp), if_pos (by rw [← HV.out]; exact hm)]
      have HCN := Lib.hid hcn
      have HMM := Lib.hid hm
      obtain ⟨s1, t1⟩ := HC1.out.set1 i HH.out.le
      obtain ⟨s2, t2⟩ := s1.set2 2
      have HS := Lib.hid s2
      have HT := Lib.hid (HG1.out.trans' (t1.trans' t2))
      clear hcn s1 t1 s2 t2 hm
      by_cases hneg : most < 0
      · have d1 : decide (most < 0) = true := by simp; omega
        go_wp2_with fail
        go_ret
        rw [HCN.out]
        exact ⟨rfl, HS.out, HT.out⟩
      · have hmv : most < (v : Int) := HMM.out.resolve_left hneg
        have e3 : IntKind.u64.wrap most = most := by rw [IntKind.wrap_u64]; have := HM2.out; omega
        go_wp2_with fail
        go_ret
        rw [HCN.out]
        exact ⟨rfl, HS.out, HT.out⟩
    · have hcn : ccn xs i 0 most 2 = (v, j, 0) := by
        unfold ccn; rw [if_neg (by omega), if_neg (by rw [← HF.out]; simp), if_neg (by rw [← HV.out]; exact hm)]
        exact Prod.ext HV.out.symm (Prod.ext HJ.out.symm HF.out.symm)
      have HCN := Lib.hid hcn
      have hneg : ¬ most < 0 := fun h => hm (Or.inl h)
      have hmv : (v : Int) ≤ most := by have h2 : ¬ most < (v : Int) := fun h => hm (Or.inr h); omega
      have e3 : IntKind.u64.wrap most = most := by rw [IntKind.wrap_u64]; have := HM2.out; omega
      have e4 : wrap64 (v : Int) = (v : Int) := by unfold wrap64; have := HM2.out; omega
      have hv63 : (v : Int) ≤ 9223372036854775807 := by have := HM2.out; omega
      clear hcn hm
      go_wp2_with fail
      go_ret
      rw [HCN.out]
      exact ⟨rfl, HC1.out, HG1.out⟩
  · obtain ⟨hv0, hji⟩ := HZ.out hf0
    have hcn : ccn xs i e most 2 = (0, i, f) := by
      unfold ccn
      by_cases he : e = 0
      · subst he
        rw [if_neg (by omega), if_pos (by rw [← HF.out]; exact hf0), HF.out]
      · have : f = e := by rw [HF.out]; unfold cu; rw [if_neg he]
        rw [if_pos he, this]
    have HCN := Lib.hid hcn
    have z0 : ((f : Int) != 0) = true := by rw [bne_iff_ne]; omega
    have HJI := Lib.hid hji
    clear hcn hji
    subst hv0
    clear hf0
    go_wp2_with fail
    go_ret
    rw [HCN.out]
    exact ⟨rfl, by rw [← HJI.out]; exact HC1.out, HG1.out⟩

set_option maxHeartbeats 400000 in
theorem rend_any {w : World} {B : Nat} {a : Option Addr} {n c : Nat} {xs : List Nat} {i e : Nat} (h : CurAt 88 w B a n c xs i e) :
    Calls Tryz.prog 62 #[.pointer (some ⟨B, 0, none⟩)] w fun r w' => r = .returned (.int .i64 (cend n i e : Int)) ∧ ∃ q, w' = w.drewN q := by
  have h0 := h.c0
  have h1 := h.c1
  have h2 := h.c2
  clear h
  by_cases he : e = 0
  · subst he
    by_cases hi : i < n
    · have HE := Lib.hid (show cend n i 0 = 5 from by unfold cend; rw [if_pos rfl, if_pos hi])
      have hi' : (i : Int) < (n : Int) := by omega
      go_enter Tryz.func62, Tryz.ntmps62
      go_wp2_with fail
      go_quiet (fail)
      go_wp2_with fail
      go_ret
      exact ⟨by rw [HE.out]; rfl, _, rfl⟩
    · have HE := Lib.hid (show cend n i 0 = 0 from by unfold cend; rw [if_pos rfl, if_neg hi])
      have hi' : ¬ (i : Int) < (n : Int) := by omega
      go_enter Tryz.func62, Tryz.ntmps62
      go_wp2_with fail
      go_quiet (fail)
      go_wp2_with fail
      go_ret
      exact ⟨by rw [HE.out]; rfl, _, rfl⟩
  · have HE := Lib.hid (show cend n i e = e from by unfold cend; rw [if_neg he])
    have z : ((e : Int) == 0) = false := by rw [beq_eq_false_iff_ne]; omega
    clear he
    go_enter Tryz.func62, Tryz.ntmps62
    go_wp2_with fail
    go_quiet (fail)
    go_wp2_with fail
    go_ret
    exact ⟨by rw [HE.out]; rfl, _, rfl⟩

theorem cb_e9 (xs : List Nat) {i e : Nat} (k : Int) (h : e ≠ 0) : cb xs i e k = ([], i, e) := by unfold cb; rw [if_pos h]
theorem BytesAt.grownE {w w' : World} {a : Option Addr} {n c : Nat} {xs : List Nat} (h : BytesAt w a n c xs) {r : Nat} (hg : w.grownBy w' (some r)) (hne : ∀ b off s, 0 < n → a = some ⟨b, off, s⟩ → b ≠ r) : BytesAt w' a n c xs :=
  ⟨h.len, h.cap, h.byte, h.reach, h.capm, h.nl, fun hp => by
    obtain ⟨b, off, ha, hlt, hc⟩ := h.cells hp
    exact ⟨b, off, ha, Nat.lt_of_lt_of_le hlt hg.size, fun k hk => hg.cell (hc k hk) (fun e => hne b off _ hp ha (Option.some.inj e))⟩⟩
theorem CurAt.grownE {T : TypeId} {w w' : World} {B : Nat} {a : Option Addr} {n c : Nat} {xs : List Nat} {i e : Nat} (h : CurAt T w B a n c xs i e) {r : Nat} (hg : w.grownBy w' (some r)) (hB : B ≠ r) (hne : ∀ b off s, 0 < n → a = some ⟨b, off, s⟩ → b ≠ r) : CurAt T w' B a n c xs i e :=
  ⟨(hg.block B h.lt (fun e => hB (Option.some.inj e))).trans h.blk, h.src.grownE hg hne, h.apart, h.le⟩

set_option maxRecDepth 100000 in
set_option maxHeartbeats 4000000 in
theorem rcb_any {w : World} {B : Nat} {a : Option Addr} {n c : Nat} {xs : List Nat} {i e : Nat} (h : CurAt 88 w B a n c xs i e) (k : Int) (hmlo : -9223372036854775808 ≤ k) (hmhi : k ≤ 9223372036854775807) :
    Calls Tryz.prog 59 #[.pointer (some ⟨B, 0, none⟩), .int .i64 k] w fun r w' => (∃ a' c', r = .returned (.slice a' (cb xs i e k).1.length c') ∧ BytesAt w' a' (cb xs i e k).1.length c' (cb xs i e k).1) ∧ CurAt 88 w' B a n c xs (cb xs i e k).2.1 (cb xs i e k).2.2 ∧ w.grownBy w' (some B) := by
  have hempty : ∀ w, BytesAt w none 0 0 [] := fun w => BytesAt.empty w none 0 (by omega) (fun _ => rfl)
  have HEM := Lib.hid hempty
  clear hempty
  have h0 := h.c0
  have h1 := h.c1
  have h2 := h.c2
  have f1 := h.f 1
  have f2 := h.f 2
  by_cases he : e = 0
  · subst he
    have hle := h.le
    have hlen := h.src.len
    have hnr := h.src.reach
    have hcap := h.src.cap
    have hcm := h.src.capm
    have HH := Lib.hid h
    have HLEN := Lib.hid hlen
    have e1 : IntKind.i64.wrap ((n : Int) - (i : Int)) = (n : Int) - (i : Int) := IntWalk.i64_in _ (by omega)
    clear h hlen
    by_cases hneg : k < 0
    · have hc : cb xs i 0 k = ([], i, 3) := by unfold cb; rw [if_neg (by omega), if_pos (Or.inl hneg)]
      have HC := Lib.hid hc
      have d1 : decide (k < 0) = true := by simp; omega
      clear hc
      go_enter Tryz.func59, Tryz.ntmps59
      go_wp2_with fail
      go_quiet (fail)
      go_wp2_with fail
      go_ret
      rw [HC.out]
      obtain ⟨s1, t1⟩ := (HH.out.drewN _).set2 3
      exact ⟨⟨none, 0, rfl, HEM.out _⟩, s1, (grown_drewN _ _ _).trans' t1⟩
    · by_cases hbig : (n : Int) - (i : Int) < k
      · have hc : cb xs i 0 k = ([], i, 3) := by unfold cb; rw [if_neg (by omega), if_pos (Or.inr (by rw [HLEN.out]; omega))]
        have HC := Lib.hid hc
        have d0 : decide (k < 0) = false := by simp; omega
        clear hc
        go_enter Tryz.func59, Tryz.ntmps59
        go_wp2_with fail
        go_quiet (fail)
        go_wp2_with fail
        go_ret
        rw [HC.out]
        obtain ⟨s1, t1⟩ := (HH.out.drewN _).set2 3
        exact ⟨⟨none, 0, rfl, HEM.out _⟩, s1, (grown_drewN _ _ _).trans' t1⟩
      · obtain ⟨m, rfl⟩ := Int.eq_ofNat_of_zero_le (show 0 ≤ k by omega)
        have him : i + m ≤ n := by omega
        have hc : cb xs i 0 (m : Int) = ((xs.drop i).take m, i + m, 0) := by unfold cb; rw [if_neg (by omega), if_neg (by rw [HLEN.out]; omega)]; simp
        have hml : ((xs.drop i).take m).length = m := by have := HLEN.out; simp; omega
        have HC := Lib.hid hc
        have HML := Lib.hid hml
        have d0 : decide ((m : Int) < 0) = false := by simp
        have hbig2 : (m : Int) ≤ (n : Int) - (i : Int) := by omega
        have e2 : IntKind.i64.wrap ((i : Int) + (m : Int)) = (i : Int) + (m : Int) := IntWalk.i64_in _ (by omega)
        have e3 : IntKind.i64.wrap (i : Int) = (i : Int) := IntWalk.i64_in _ (by omega)
        clear hc hml hbig
        go_enter Tryz.func59, Tryz.ntmps59
        go_wp2_with fail
        go_quiet (fail)
        go_wp2_with fail
        rename Nat => nq
        obtain ⟨w2, hw2⟩ : ∃ w2, w2 = w.drewN nq := ⟨_, rfl⟩
        have s2 : CurAt 88 w2 B a n c xs i 0 := by rw [hw2]; exact HH.out.drewN nq
        have t2 : w.grownBy w2 (some B) := by rw [hw2]; exact grown_drewN _ _ _
        rw [← hw2]
        have m0 := s2.c0
        have m1 := s2.c1
        have S2 := Lib.hid s2
        have T2 := Lib.hid t2
        clear hw2 s2 t2 h0 h1 h2 f1 f2
        have hsl := slice_run a n c i m (by omega)
        have hsub := S2.out.src.subAny i m him
        have hBL : B < w2.heap.size := S2.out.lt
        generalize (if c = i then a else a.map (·.add i)) = A at hsl hsub
        have HSUB := Lib.hid hsub
        clear hsub
        go_region_held3 (fun w' => w'.cell? ⟨B, 0, none⟩ = some (.slice a n c) ∧ w'.cell? ⟨B, 1, none⟩ = some (.int .i64 (i : Int))) (first | go_keep | exact ⟨(hbel3.cell (p := ⟨B, 0, none⟩) hBL).trans m0, (hbel3.cell (p := ⟨B, 1, none⟩) hBL).trans m1⟩) (first | (go_at_call 15; refine (twin (HSUB.out.drew)).mono ?_; rintro r w3 ⟨g3, c3, rfl, hg3, hlt3, hown3, hb3, hbel3⟩))
        have s3 := S2.out.drew.keptB hbel3
        have t3 := T2.out.trans' ((grown_drew w2 (some B)).trans' (below_grown hbel3 _))
        have k1 := s3.c1
        have kf := s3.f 1
        obtain ⟨s4, t4⟩ := s3.set1 (i + m) him
        have HB4 := Lib.hid hb3
        have S4 := Lib.hid s4
        have T4 := Lib.hid (t3.trans' t4)
        have s3g := Lib.hid t4
        have HG3 := Lib.hid hg3
        have HAP := Lib.hid (show B ≠ g3 from fun e => by
          have h5 : w2.drew.heap.size ≤ g3 := HG3.out
          have h6 : w2.drew.heap.size = w2.heap.size := rfl
          omega)
        clear hg3 hlt3 hown3 hb3 hbel3 s3 t3 s4 t4 m0 m1
        go_wp2_with fail
        go_ret
        rw [HC.out]
        refine ⟨⟨some ⟨g3, 0, none⟩, c3, by rw [HML.out]; rfl, ?_⟩, S4.out, T4.out⟩
        rw [HML.out]
        exact HB4.out.grownE (s3g.out) (fun b off s _ e => by cases e; exact fun e2 => HAP.out e2.symm)
  · have hc : cb xs i e k = ([], i, e) := by unfold cb; rw [if_pos he]
    have z : ((e : Int) != 0) = true := by rw [bne_iff_ne]; omega
    have HC := Lib.hid hc
    have HH := Lib.hid h
    clear h hc he
    go_enter Tryz.func59, Tryz.ntmps59
    go_wp2_with fail
    go_ret
    rw [HC.out]
    exact ⟨⟨none, 0, rfl, HEM.out _⟩, HH.out, World.grownBy.refl _ _⟩

set_option maxRecDepth 100000 in
set_option maxHeartbeats 4000000 in
theorem rct_any {w : World} {B : Nat} {a : Option Addr} {n c : Nat} {xs : List Nat} {i e : Nat} (h : CurAt 88 w B a n c xs i e) (most : Int) (hmlo : -9223372036854775808 ≤ most) (hmhi : most ≤ 9223372036854775807) :
    Calls Tryz.prog 61 #[.pointer (some ⟨B, 0, none⟩), .int .i64 most] w fun r w' => r = .returned (.string (bs (ct xs i e most).1)) ∧ CurAt 88 w' B a n c xs (ct xs i e most).2.1 (ct xs i e most).2.2 ∧ w.grownBy w' (some B) := by
  have h1 := h.c1
  have HU := Lib.hid (rcu_any h)
  have HH := Lib.hid h
  have hreach := h.src.reach
  obtain ⟨v, hv⟩ : ∃ u, u = (cu xs i e).1 := ⟨_, rfl⟩
  obtain ⟨j, hj⟩ : ∃ m, m = (cu xs i e).2.1 := ⟨_, rfl⟩
  obtain ⟨f, hf⟩ : ∃ f, f = (cu xs i e).2.2 := ⟨_, rfl⟩
  have hvl : v < 18446744073709551616 := by rw [hv]; exact cu_lt xs i e
  have hz : f ≠ 0 → v = 0 ∧ j = i := by rw [hf, hv, hj]; exact cu_zero
  have HE0 := Lib.hid (show f = 0 → e = 0 from fun g => cu_e9 (hf ▸ g))
  have HV := Lib.hid hv
  have HJ := Lib.hid hj
  have HF := Lib.hid hf
  have HZ := Lib.hid hz
  have HVL := Lib.hid hvl
  have HM1 := Lib.hid hmlo
  have HM2 := Lib.hid hmhi
  clear h hv hj hf hz hvl hmlo hmhi
  go_enter Tryz.func61, Tryz.ntmps61
  go_wp2_with fail
  refine HU.out.mono ?_
  rintro r w1 ⟨rfl, hc1, hg1⟩
  rw [← HV.out]
  rw [← HJ.out, ← HF.out] at hc1
  have g0 := hc1.c0
  have g1 := hc1.c1
  have g2 := hc1.c2
  have gf1 := hc1.f 1
  have gf2 := hc1.f 2
  have HC1 := Lib.hid hc1
  have HG1 := Lib.hid hg1
  clear hc1 hg1
  by_cases hf0 : f = 0
  · have he := HE0.out hf0
    subst he
    subst hf0
    by_cases hm : most < 0 ∨ most < (v : Int)
    · have hcn : ct xs i 0 most = ([], i, 5) := by
        have q : ccn xs i 0 most 5 = (0, i, 5) := by unfold ccn; rw [if_neg (by omega), if_neg (by rw [← HF.out]; simp), if_pos (by rw [← HV.out]; exact hm)]
        unfold ct
        rw [if_neg (by omega), q]
        rw [cb_e9 xs (i := i) (e := 5) _ (by omega)]
        rfl
      have HCN := Lib.hid hcn
      have HMM := Lib.hid hm
      obtain ⟨s1, t1⟩ := HC1.out.set1 i HH.out.le
      obtain ⟨s2, t2⟩ := s1.set2 5
      have HS := Lib.hid s2
      have HT := Lib.hid (HG1.out.trans' (t1.trans' t2))
      clear hcn s1 t1 s2 t2 hm
      by_cases hneg : most < 0
      · have d1 : decide (most < 0) = true := by simp; omega
        go_wp2_with fail
        go_ret
        rw [HCN.out]
        exact ⟨rfl, HS.out, HT.out⟩
      · have hmv : most < (v : Int) := HMM.out.resolve_left hneg
        have e3 : IntKind.u64.wrap most = most := by rw [IntKind.wrap_u64]; have := HM2.out; omega
        go_wp2_with fail
        go_ret
        rw [HCN.out]
        exact ⟨rfl, HS.out, HT.out⟩
    · have hcn : ccn xs i 0 most 5 = (v, j, 0) := by
        unfold ccn; rw [if_neg (by omega), if_neg (by rw [← HF.out]; simp), if_neg (by rw [← HV.out]; exact hm)]
        exact Prod.ext HV.out.symm (Prod.ext HJ.out.symm HF.out.symm)
      have hneg : ¬ most < 0 := fun h => hm (Or.inl h)
      have hmv : (v : Int) ≤ most := by have h2 : ¬ most < (v : Int) := fun h => hm (Or.inr h); omega
      have e3 : IntKind.u64.wrap most = most := by rw [IntKind.wrap_u64]; have := HM2.out; omega
      have e4 : wrap64 (v : Int) = (v : Int) := by unfold wrap64; have := HM2.out; omega
      have hv63 : (v : Int) ≤ 9223372036854775807 := by have := HM2.out; omega
      have hjn := HC1.out.le
      have hlen := HC1.out.src.len
      have e5 : IntKind.i64.wrap ((n : Int) - (j : Int)) = (n : Int) - (j : Int) := IntWalk.i64_in _ (by omega)
      have e6 : IntKind.u64.wrap ((n : Int) - (j : Int)) = (n : Int) - (j : Int) := by rw [IntKind.wrap_u64]; omega
      by_cases hbig : (n : Int) - (j : Int) < (v : Int)
      · have hct : ct xs i 0 most = ([], i, 3) := by
          have q : cb xs j 0 (v : Int) = ([], j, 3) := by unfold cb; rw [if_neg (by omega), if_pos (Or.inr (by rw [hlen]; omega))]
          unfold ct
          rw [if_neg (by omega), hcn]
          simp only [q]
          rfl
        have HCT := Lib.hid hct
        clear hcn hm hct hlen
        go_wp2_with fail
        go_quiet (fail)
        go_wp2_with fail
        go_ret
        rw [HCT.out]
        rename Nat => nq
        obtain ⟨s1, t1⟩ := (HC1.out.drewN nq).set1 i HH.out.le
        obtain ⟨s2, t2⟩ := s1.set2 3
        exact ⟨rfl, s2, HG1.out.trans' ((grown_drewN _ _ _).trans' (t1.trans' t2))⟩
      · have hct : ct xs i 0 most = cb xs j 0 (v : Int) := by
          have q : (cb xs j 0 (v : Int)).2.2 = 0 := by unfold cb; rw [if_neg (by omega), if_neg (by rw [hlen]; omega)]
          unfold ct
          rw [if_neg (by omega), hcn]
          simp only
          rw [if_neg (by rw [q]; simp)]
        have hle2 : (v : Int) ≤ (n : Int) - (j : Int) := by omega
        have HCT := Lib.hid hct
        clear hcn hm hct hlen hbig
        go_wp2_with fail
        go_quiet (fail)
        rename Nat => nq
        have HB := Lib.hid (rcb_any (HC1.out.drewN nq) (v : Int) (by omega) hv63)
        go_wp2_with fail
        refine HB.out.mono ?_
        rintro r w2 ⟨⟨a2, c2, rfl, hb2⟩, hc2, hg2⟩
        have HC2 := Lib.hid hc2
        have HG2 := Lib.hid (HG1.out.trans' ((grown_drewN _ _ _).trans' hg2))
        have hcv := hb2.conv
        obtain ⟨s, hs⟩ : ∃ s, s = cb xs j 0 (v : Int) := ⟨_, rfl⟩
        rw [← hs] at hcv HC2 HCT ⊢
        obtain ⟨l, hl⟩ : ∃ l, l = s.1.length := ⟨_, rfl⟩
        rw [← hl] at hcv ⊢
        clear hl hs hc2 hg2 hb2
        go_wp2_with fail
        go_ret
        rw [HCT.out]
        exact ⟨rfl, HC2.out, HG2.out⟩
  · obtain ⟨hv0, hji⟩ := HZ.out hf0
    have hcn : ct xs i e most = ([], i, f) := by
      by_cases he : e = 0
      · subst he
        have q : ccn xs i 0 most 5 = (0, i, f) := by unfold ccn; rw [if_neg (by omega), if_pos (by rw [← HF.out]; exact hf0), HF.out]
        unfold ct
        rw [if_neg (by omega), q]
        rw [cb_e9 xs _ hf0]
        simp only
        rw [if_pos hf0]
      · have : f = e := by rw [HF.out]; unfold cu; rw [if_neg he]
        unfold ct
        rw [if_pos he, this]
    have HCN := Lib.hid hcn
    have z0 : ((f : Int) != 0) = true := by rw [bne_iff_ne]; omega
    have HJI := Lib.hid hji
    clear hcn hji
    subst hv0
    clear hf0
    go_wp2_with fail
    go_ret
    rw [HCN.out]
    exact ⟨rfl, by rw [← HJI.out]; exact HC1.out, HG1.out⟩
end Go.Proofs.YtbdgcfimbblncaaGreatDoor
end PkMR11_0
section PkMR11_1
/- Manifests: what stays as it was while the document's Decode reads a list. Written by genmfrd.py. -/
namespace Go.Proofs.YtbdgcfimbblncaaGreatDoor
open Go.RowKit NumsPlain LabPlain
set_option linter.unusedVariables false

/-- below N all blocks but B and X are as they were -/
structure Kp (N B X : Nat) (w w' : World) : Prop where
  os : w'.os = w.os
  tape : w'.tape = w.tape
  output : w'.output = w.output
  size : w.heap.size ≤ w'.heap.size
  base : N ≤ w.heap.size
  old : ∀ k, k < N → k ≠ B → k ≠ X → w'.heap[k]? = w.heap[k]?
theorem Kp.refl {N B X : Nat} {w : World} (h : N ≤ w.heap.size) : Kp N B X w w := ⟨rfl, rfl, rfl, Nat.le_refl _, h, fun _ _ _ _ => rfl⟩
theorem Kp.grown {N B X : Nat} {w w1 w2 : World} {r : Option Nat} (h : Kp N B X w w1) (k : w1.grownBy w2 r) (hr : ∀ x, r = some x → x = B ∨ x = X ∨ N ≤ x) : Kp N B X w w2 :=
  ⟨k.os.trans h.os, k.tape.trans h.tape, k.output.trans h.output, Nat.le_trans h.size k.size, h.base, fun i hi hb hx => by
    have h1 := h.base
    have h2 := h.size
    refine (k.block i (by omega) (fun e => ?_)).trans (h.old i hi hb hx)
    rcases hr i e.symm with q | q | q
    · exact hb q
    · exact hx q
    · omega⟩
theorem Kp.set {N B X Y i : Nat} {w w1 : World} (h : Kp N B X w w1) (hY : Y = X ∨ N ≤ Y) (u : Value) : Kp N B X w (w1.setCell ⟨Y, i, none⟩ u) :=
  ⟨h.os, h.tape, h.output, by simpa using h.size, h.base, fun k hk hb hx => (Below.heap_setCell w1 ⟨Y, i, none⟩ u k (by show k ≠ Y; omega)).trans (h.old k hk hb hx)⟩
theorem Kp.bel {N B X : Nat} {w w1 w2 : World} (h : Kp N B X w w1) (k : Below w1.heap.size w1 w2) : Kp N B X w w2 := h.grown (gr_ofBelow (r := none) k) (fun _ e => by cases e)
theorem Kp.below {N B X b : Nat} {w0 w w' : World} (h : Kp N B X w w') (k : Below b w0 w) (hN : b ≤ N) (hB : b ≤ B) (hX : b ≤ X) : Below b w0 w' :=
  ⟨h.os.trans k.os, h.tape.trans k.tape, h.output.trans k.output, Nat.le_trans k.size h.size, fun i hi => (h.old i (by omega) (by omega) (by omega)).trans (k.block i hi)⟩
theorem VecAt.kp {α : Type} {S : Sty α} {N B X : Nat} {w w' : World} {a : Option Addr} {n c : Nat} {l : List α} (h : VecAt S w a n c l) (hj : Kp N B X w w') (hok : ∀ x, S.ok w x → S.ok w' x) (hne : ∀ b off s, a = some ⟨b, off, s⟩ → b < N ∧ b ≠ B ∧ b ≠ X) : VecAt S w' a n c l :=
  ⟨h.len, h.cap, h.capm, h.nl, fun x hx => hok x (h.all x hx), fun hn => by
    obtain ⟨b, off, ha, hlt, hc⟩ := h.cells hn
    obtain ⟨q1, q2, q3⟩ := hne b off none ha
    have hb : w'.heap[b]? = w.heap[b]? := hj.old b q1 q2 q3
    exact ⟨b, off, ha, Nat.lt_of_lt_of_le hlt hj.size, fun i hi j v hv => (World.cell?_of_block (w := w) (a := ⟨b, _, none⟩) hb).trans (hc i hi j v hv)⟩⟩
theorem gr_cell {w : World} (Y i : Nat) (u : Value) : w.grownBy (w.setCell ⟨Y, i, none⟩ u) (some Y) :=
  ⟨rfl, rfl, rfl, by simp, fun k hk hn => Below.heap_setCell w ⟨Y, i, none⟩ u k (fun e => hn (by rw [show k = Y from e]))⟩
/-- where things lie while one thing of a list is read -/
structure RdLim (N B X Y n : Nat) (a : Option Addr) (v : Value) : Prop where
  bx : B < X
  xn : X < N
  ny : N ≤ Y
  lo : CurLow X a n B
  own : ∀ k, v.ownBlock = some k → N ≤ k ∧ k < Y
structure Rd (N B X Y : Nat) (TY : TypeId) (u0 : World) (cx cy : Array Value) (E : TypeId) (K : Nat) (v : Value) (j : Nat) (L : List Value) (a : Option Addr) (n c : Nat) (xs : List Nat) (s : Nat × Nat) (W : World) : Prop where
  lim : RdLim N B X Y n a v
  cur : CurAt 88 W B a n c xs s.1 s.2
  x : W.heap[X]? = some (.cells cx 26 (0, 0))
  y : W.heap[Y]? = some (.cells cy TY (0, 0))
  kp : Kp N B X u0 W
  own : W.ownsRow N E K v j L
section
variable {N B X Y : Nat} {TY : TypeId} {u0 : World} {cx cy : Array Value} {E : TypeId} {K : Nat} {v : Value} {j : Nat} {L : List Value} {a : Option Addr} {n c : Nat} {xs : List Nat} {s : Nat × Nat} {W : World}
theorem Rd.call (h : Rd N B X Y TY u0 cx cy E K v j L a n c xs s W) {s' : Nat × Nat} {W' : World} (hc : CurAt 88 W' B a n c xs s'.1 s'.2) (hg : W.grownBy W' (some B)) : Rd N B X Y TY u0 cx cy E K v j L a n c xs s' W' := by
  have l1 := h.lim.bx
  have l2 := h.lim.xn
  have l3 := h.lim.ny
  refine ⟨h.lim, hc, (hg.block X (Array.getElem?_eq_some_iff.1 h.x).1 (by intro e; cases e; omega)).trans h.x, (hg.block Y (Array.getElem?_eq_some_iff.1 h.y).1 (by intro e; cases e; omega)).trans h.y, h.kp.grown hg (fun x e => by cases e; exact .inl rfl), h.own.kept hg ?_⟩
  cases e9 : v.ownBlock with
  | none => exact .inl rfl
  | some k =>
    refine .inr (fun e => ?_)
    have h1 := (h.lim.own k e9).1
    cases e
    omega
theorem Rd.set (h : Rd N B X Y TY u0 cx cy E K v j L a n c xs s W) (i : Nat) (u : Value) : Rd N B X Y TY u0 cx (cy.setIfInBounds i u) E K v j L a n c xs s (W.setCell ⟨Y, i, none⟩ u) := by
  have l1 := h.lim.bx
  have l2 := h.lim.xn
  have l3 := h.lim.ny
  refine ⟨h.lim, h.cur.set h.lim.lo (by omega) u, (Below.heap_setCell W ⟨Y, i, none⟩ u X (by show X ≠ Y; omega)).trans h.x, heap_set h.y i u, h.kp.set (.inr l3) u, h.own.kept (gr_cell Y i u) ?_⟩
  cases e9 : v.ownBlock with
  | none => exact .inl rfl
  | some k =>
    refine .inr (fun e => ?_)
    have h1 := (h.lim.own k e9).2
    cases e
    omega
theorem rd_start (hbx : B < X) (hxn : X < N) (hlo : CurLow X a n B) (hc : CurAt 88 W B a n c xs s.1 s.2) (hx : W.heap[X]? = some (.cells cx 26 (0, 0))) (hk : Kp N B X u0 W) (ho : W.ownsRow N E K v j L) : Rd N B X W.heap.size TY u0 cx cy E K v j L a n c xs s (W.alloc (.cells cy TY)) := by
  have hb : Below W.heap.size W (W.alloc (.cells cy TY)) := (Below.refl _ _).alloc (Nat.le_refl _) _
  exact ⟨⟨hbx, hxn, Nat.le_trans hk.base hk.size, hlo, ho.lt⟩, hc.keptB hb, (hb.block X (Array.getElem?_eq_some_iff.1 hx).1).trans hx, heap_alloc_new _ _, hk.bel hb, ho.alloc _⟩
theorem Rd.app (h : Rd N B X Y TY u0 cx cy E K v j L a n c xs s W) {o : Obj} {w4 : World} (hg : (W.alloc o).grownBy w4 v.ownBlock) : CurAt 88 w4 B a n c xs s.1 s.2 ∧ w4.heap[X]? = some (.cells cx 26 (0, 0)) ∧ Kp N B X u0 w4 := by
  have l1 := h.lim.bx
  have l2 := h.lim.xn
  have l3 := h.lim.ny
  have hb : Below W.heap.size W (W.alloc o) := (Below.refl _ _).alloc (Nat.le_refl _) _
  have hX := (Array.getElem?_eq_some_iff.1 h.x).1
  have hs := hb.size
  have hk1 : ∀ k, k < X + 1 → w4.heap[k]? = W.heap[k]? := fun k hk => (hg.block k (by omega) (fun e => by have := (h.lim.own k e.symm).1; omega)).trans (hb.block k (by omega))
  exact ⟨h.cur.low h.lim.lo (fun k hk => hk1 k (by omega)) (Nat.le_trans hb.size hg.size), (hk1 X (by omega)).trans h.x, (h.kp.bel hb).grown hg (fun x e => .inr (.inr (h.lim.own x e).1))⟩
theorem rd_put {m : Nat} {v' : Value} {L' : List Value} (hxn : X < N) (hlo : CurLow X a n B) (hc : CurAt 88 W B a n c xs s.1 s.2) (hx : W.heap[X]? = some (.cells cx 26 (0, 0))) (hk : Kp N B X u0 W) (ho : W.ownsRow N E K v' m L') (i : Nat) (u : Value) : (W.setCell ⟨X, i, none⟩ u).ownsRow N E K v' m L' ∧ (W.setCell ⟨X, i, none⟩ u).heap[X]? = some (.cells (cx.setIfInBounds i u) 26 (0, 0)) ∧ CurAt 88 (W.setCell ⟨X, i, none⟩ u) B a n c xs s.1 s.2 ∧ Kp N B X u0 (W.setCell ⟨X, i, none⟩ u) := by
  refine ⟨ho.kept (gr_cell X i u) ?_, heap_set hx i u, hc.set hlo (Nat.le_refl _) u, hk.set (.inl rfl) u⟩
  cases e9 : v'.ownBlock with
  | none => exact .inl rfl
  | some k =>
    refine .inr (fun e => ?_)
    have h1 := (ho.lt k e9).1
    cases e
    omega
end
end Go.Proofs.YtbdgcfimbblncaaGreatDoor
end PkMR11_1
section PkMR11_2
/- Manifests: the document's numbers and keys, walked. -/
namespace Go.Proofs.YtbdgcfimbblncaaGreatDoor
open Go.RowKit LabPlain
set_option linter.unusedVariables false

def numB (n a : Int) : Bool := decide (a ≤ n) && decide (n ≤ 1099511627775)
set_option maxRecDepth 100000 in
theorem rnum_any (n a : Int) (w : World) : Calls Tryz.prog 30 #[.int .i64 n, .int .i64 a] w fun e w' => e = .returned (.bool (numB n a)) ∧ w' = w := by
  by_cases h1 : a ≤ n
  · by_cases h2 : n ≤ 1099511627775
    · have HT := Lib.hid (show numB n a = true from by simp [numB, h1, h2])
      go_enter Tryz.func30, Tryz.ntmps30
      go_wp2_with fail
      go_ret
      exact ⟨by rw [HT.out]; rfl, rfl⟩
    · have HT := Lib.hid (show numB n a = false from by simp [numB, h2])
      go_enter Tryz.func30, Tryz.ntmps30
      go_wp2_with fail
      go_ret
      exact ⟨by rw [HT.out]; rfl, rfl⟩
  · have HT := Lib.hid (show numB n a = false from by simp [numB, h1])
    go_enter Tryz.func30, Tryz.ntmps30
    go_wp2_with fail
    go_ret
    exact ⟨by rw [HT.out]; rfl, rfl⟩
set_option maxRecDepth 100000 in
set_option maxHeartbeats 1000000 in
theorem rkey_any (s : ByteArray) (hs : s.size ≤ 9223372036854775807) (w : World) :
    Calls Tryz.prog 81 #[.string s] w fun e w' => e = .returned (.bool (keyB s)) ∧ w' = w := by
  by_cases h1 : s.size < 1
  · have hR := Lib.hid (show keyB s = false by unfold keyB; simp [show ¬ 1 ≤ s.size by omega])
    have h1i : (s.size : Int) < 1 := by omega
    clear h1
    go_enter Tryz.func81, Tryz.ntmps81
    go_wp2_with fail
    go_ret
    rw [hR.out]; exact ⟨rfl, rfl⟩
  · by_cases h8 : 40 < s.size
    · have hR := Lib.hid (show keyB s = false by unfold keyB; simp [show ¬ s.size ≤ 40 by omega])
      have h1i : (1 : Int) ≤ (s.size : Int) := by omega
      have h8i : (40 : Int) < (s.size : Int) := by omega
      clear h1 h8
      go_enter Tryz.func81, Tryz.ntmps81
      go_wp2_with fail
      go_ret
      rw [hR.out]; exact ⟨rfl, rfl⟩
    · have h1i : (1 : Int) ≤ (s.size : Int) := by omega
      have h8i : (s.size : Int) ≤ 40 := by omega
      have hR := Lib.hid (show keyB s = allK s s.size by unfold keyB; rw [decide_eq_true (show 1 ≤ s.size by omega), decide_eq_true (show s.size ≤ 40 by omega)]; rfl)
      clear h1 h8
      go_enter Tryz.func81, Tryz.ntmps81
      go_wp2_with fail
      go_loop [3] (fun s3 => ∃ k : Nat, k ≤ s.size ∧ s3 = .int .i64 (k : Int) ∧ Hid (allK s k = true)) (fun s3 => s.size - (intOf s3).toNat)
      case atStart => exact ⟨0, by omega, rfl, Lib.hid rfl⟩
      case round =>
        obtain ⟨k, hk, rfl, HA⟩ := hrel
        by_cases hks : k < s.size
        · obtain ⟨c, hc⟩ : ∃ c, c = at_ s k := ⟨_, rfl⟩
          have hsk : (s[k]'hks).toNat = c := by rw [hc, at_get s k hks]
          have hcl : c < 256 := by rw [hc]; exact at_lt s k
          have HCK := Lib.hid hc
          have HNO := Lib.hid (show (decide (33 ≤ c) && decide (c ≤ 126)) = false → keyB s = false from fun hb => by
            rw [hR.out]
            have := allK_no (s := s) (k := k) (by rw [← hc]; exact hb) (s.size - (k + 1))
            rw [show k + 1 + (s.size - (k + 1)) = s.size from by omega] at this
            exact this)
          clear hc
          by_cases h33 : c ≤ 32
          · have h33i : (c : Int) ≤ 32 := by omega
            have HF := Lib.hid (HNO.out (by simp [show ¬ 33 ≤ c by omega]))
            clear h33
            go_wp2_with fail
            go_ret
            rw [HF.out]; exact ⟨rfl, rfl⟩
          · have h33i : (32 : Int) < (c : Int) := by omega
            by_cases h126 : 127 ≤ c
            · have h126i : (127 : Int) ≤ (c : Int) := by omega
              have HF := Lib.hid (HNO.out (by simp [show ¬ c ≤ 126 by omega]))
              clear h33 h126
              go_wp2_with fail
              go_ret
              rw [HF.out]; exact ⟨rfl, rfl⟩
            · have h126i : (c : Int) < 127 := by omega
              have HA2 := Lib.hid (show allK s (k + 1) = true by rw [allK, HA.out, ← HCK.out, decide_eq_true (show 33 ≤ c by omega), decide_eq_true (show c ≤ 126 by omega)]; rfl)
              clear h33 h126
              go_wp2_with fail
              go_round
              case rel => exact ⟨k + 1, by omega, by go_num, HA2⟩
              case measure => simp [intOf]; omega
        · obtain rfl : k = s.size := by omega
          have HT := Lib.hid (show keyB s = true by rw [hR.out]; exact HA.out)
          clear hks
          go_wp2_with fail
          go_ret
          rw [HT.out]; exact ⟨rfl, rfl⟩
end Go.Proofs.YtbdgcfimbblncaaGreatDoor
end PkMR11_2
section PkMR11_3
/- Manifests: the document's marks and owners, walked. Written by genmfq.py. -/
namespace Go.Proofs.YtbdgcfimbblncaaGreatDoor
open Go.RowKit LabPlain
set_option linter.unusedVariables false

def markB (x : Int × Int) : Bool := (decide (1 ≤ x.1) && decide (x.1 ≤ 64)) && numB x.2 1
def ownerB (x : Int × Int × Int) : Bool := (decide (1 ≤ x.1) && decide (x.1 ≤ 8)) && (numB x.2.1 1 && numB x.2.2 1)

set_option maxRecDepth 100000 in
theorem rmark_any (x0 x1 : Int) (w : World) : Calls Tryz.prog 79 #[.agg #[.int .i64 x0, .int .i64 x1]] w fun e w' => e = .returned (.bool (markB (x0, x1))) ∧ Below w.heap.size w w' := by
  have HB := Lib.hid ((Below.refl w.heap.size w).alloc (Nat.le_refl _) (.cells #[.int .i64 x0, .int .i64 x1] 43))
  obtain ⟨b0, hb0⟩ : ∃ b, b = numB x1 1 := ⟨_, rfl⟩
  have HW0 := Lib.hid (show ∀ W, Calls Tryz.prog 30 #[.int .i64 x1, .int .i64 1] W fun e w' => e = .returned (.bool b0) ∧ w' = W from fun W => by rw [hb0]; exact rnum_any _ _ W)
  have HV := Lib.hid (show markB (x0, x1) = ((decide (1 ≤ x0) && decide (x0 ≤ 64)) && b0) from by rw [hb0]; rfl)
  clear hb0
  go_enter Tryz.func79, Tryz.ntmps79
  by_cases h1 : 1 ≤ x0
  · by_cases h2 : x0 ≤ 64
    · have HV2 := Lib.hid (HV.out.trans (by rw [decide_eq_true h1, decide_eq_true h2]; rfl : ((decide (1 ≤ x0) && decide (x0 ≤ 64)) && b0) = b0))
      go_wp2_with fail
      refine (HW0.out _).mono ?_
      rintro e w1 ⟨rfl, rfl⟩
      cases b0 with
      | false =>
        go_wp2_with fail
        go_ret
        exact ⟨by rw [HV2.out]; rfl, HB.out⟩
      | true =>
        go_wp2_with fail
        go_ret
        exact ⟨by rw [HV2.out]; rfl, HB.out⟩
    · have HV2 := Lib.hid (HV.out.trans (by rw [decide_eq_false h2, Bool.and_false]; rfl : ((decide (1 ≤ x0) && decide (x0 ≤ 64)) && b0) = false))
      go_wp2_with fail
      go_ret
      exact ⟨by rw [HV2.out]; rfl, HB.out⟩
  · have HV2 := Lib.hid (HV.out.trans (by rw [decide_eq_false h1]; rfl : ((decide (1 ≤ x0) && decide (x0 ≤ 64)) && b0) = false))
    go_wp2_with fail
    go_ret
    exact ⟨by rw [HV2.out]; rfl, HB.out⟩

set_option maxRecDepth 100000 in
theorem rowner_any (x0 x1 x2 : Int) (w : World) : Calls Tryz.prog 33 #[.agg #[.int .i64 x0, .int .i64 x1, .int .i64 x2]] w fun e w' => e = .returned (.bool (ownerB (x0, x1, x2))) ∧ Below w.heap.size w w' := by
  have HB := Lib.hid ((Below.refl w.heap.size w).alloc (Nat.le_refl _) (.cells #[.int .i64 x0, .int .i64 x1, .int .i64 x2] 45))
  obtain ⟨b0, hb0⟩ : ∃ b, b = numB x1 1 := ⟨_, rfl⟩
  have HW0 := Lib.hid (show ∀ W, Calls Tryz.prog 30 #[.int .i64 x1, .int .i64 1] W fun e w' => e = .returned (.bool b0) ∧ w' = W from fun W => by rw [hb0]; exact rnum_any _ _ W)
  obtain ⟨b1, hb1⟩ : ∃ b, b = numB x2 1 := ⟨_, rfl⟩
  have HW1 := Lib.hid (show ∀ W, Calls Tryz.prog 30 #[.int .i64 x2, .int .i64 1] W fun e w' => e = .returned (.bool b1) ∧ w' = W from fun W => by rw [hb1]; exact rnum_any _ _ W)
  have HV := Lib.hid (show ownerB (x0, x1, x2) = ((decide (1 ≤ x0) && decide (x0 ≤ 8)) && (b0 && b1)) from by rw [hb0, hb1]; rfl)
  clear hb0 hb1
  go_enter Tryz.func33, Tryz.ntmps33
  by_cases h1 : 1 ≤ x0
  · by_cases h2 : x0 ≤ 8
    · have HV2 := Lib.hid (HV.out.trans (by rw [decide_eq_true h1, decide_eq_true h2]; rfl : ((decide (1 ≤ x0) && decide (x0 ≤ 8)) && (b0 && b1)) = (b0 && b1)))
      go_wp2_with fail
      refine (HW0.out _).mono ?_
      rintro e w1 ⟨rfl, rfl⟩
      cases b0 with
      | false =>
        go_wp2_with fail
        go_ret
        exact ⟨by rw [HV2.out]; rfl, HB.out⟩
      | true =>
        go_wp2_with fail
        refine (HW1.out _).mono ?_
        rintro e w1 ⟨rfl, rfl⟩
        cases b1 with
        | false =>
          go_wp2_with fail
          go_ret
          exact ⟨by rw [HV2.out]; rfl, HB.out⟩
        | true =>
          go_wp2_with fail
          go_ret
          exact ⟨by rw [HV2.out]; rfl, HB.out⟩
    · have HV2 := Lib.hid (HV.out.trans (by rw [decide_eq_false h2, Bool.and_false]; rfl : ((decide (1 ≤ x0) && decide (x0 ≤ 8)) && (b0 && b1)) = false))
      go_wp2_with fail
      go_ret
      exact ⟨by rw [HV2.out]; rfl, HB.out⟩
  · have HV2 := Lib.hid (HV.out.trans (by rw [decide_eq_false h1]; rfl : ((decide (1 ≤ x0) && decide (x0 ≤ 8)) && (b0 && b1)) = false))
    go_wp2_with fail
    go_ret
    exact ⟨by rw [HV2.out]; rfl, HB.out⟩

end Go.Proofs.YtbdgcfimbblncaaGreatDoor
end PkMR11_3
section PkMR11_4
/- Manifests: the document's marks of any list, walked. Written by genrmarks.py. -/
namespace Go.Proofs.YtbdgcfimbblncaaGreatDoor
open Go.RowKit LabPlain
set_option linter.unusedVariables false

theorem cell_blk' {w : World} {B : Nat} {cur : Array Value} {t : TypeId} (g : w.heap[B]? = some (.cells cur t (0, 0))) {i : Nat} {u : Value} (h : cur[i]? = some u) : w.cell? ⟨B, i, none⟩ = some u := by rw [cell_of_row w _ _ _ _ (0, 0) g]; exact h

set_option maxRecDepth 100000 in
set_option maxHeartbeats 8000000 in
theorem rmarks_any {w : World} {a : Option Addr} {n c : Nat} {l : List (Int × Int)} (h : VecAt MarkS w a n c l) :
    Calls Tryz.prog 31 #[.slice a n c] w fun e w' => RisIs markB (fun a b => a.1 - b.1) MarkS.z l n e ∧ Below w.heap.size w w' := by
  have hcap := h.cap
  have hcm := h.capm
  have HH := Lib.hid h
  clear h
  go_enter Tryz.func31, Tryz.ntmps31
  go_wp2_with fail
  go_loopw [3, 4, 7] (fun _ _ s7 wr => ∃ k : Nat, k ≤ n ∧ s7 = .int .i64 (k : Int) ∧ Hid (RisOk markB (fun a b => a.1 - b.1) MarkS.z l k) ∧ Hid (Below w.heap.size w wr)) (fun _ _ s7 _ => n - (intOf s7).toNat)
  case atStart => exact ⟨0, by omega, rfl, Lib.hid (fun j hj => by omega), Lib.hid (Below.refl _ _)⟩
  case round =>
    obtain ⟨k, hk, rfl, HOK, HB⟩ := hrel
    rename World => wr
    by_cases hkn : k < n
    · have hki : (k : Int) < (n : Int) := by omega
      obtain ⟨sb, so, rfl, hsl, hok, hsc9⟩ := (HH.out.kept HB.out).get hkn
      obtain ⟨s, hse⟩ : ∃ s, s = l.getD k MarkS.z := ⟨_, rfl⟩
      obtain ⟨r, hre⟩ : ∃ r, r = l.getD (k - 1) MarkS.z := ⟨_, rfl⟩
      rw [← hse] at hsc9
      have HSE := Lib.hid hse
      have HRE := Lib.hid hre
      have HSY := Lib.hid (show ∀ j u, (MarkS.f r)[j]? = some u → wr.cell? ⟨sb, so + (k - 1) * 2 + j, none⟩ = some u from by
        obtain ⟨sb2, so2, e2, _, _, hy⟩ := (HH.out.kept HB.out).get (show k - 1 < n by omega)
        cases e2
        rw [← hre] at hy
        exact hy)
      obtain ⟨x0, x1⟩ := s
      obtain ⟨y0, y1⟩ := r
      have d0 : wr.cell? ⟨sb, so + k * 2, none⟩ = some (.int .i64 x0) := hsc9 0 _ rfl
      have d1 : wr.cell? ⟨sb, so + k * 2 + 1, none⟩ = some (.int .i64 x1) := hsc9 1 _ rfl
      have HXA := Lib.hid (heap_alloc_new wr (.cells #[.int .i64 x0, .int .i64 x1] 43))
      have HXL := Lib.hid ((Array.getElem?_eq_some_iff.1 (heap_alloc_new wr (.cells #[.int .i64 x0, .int .i64 x1] 43))).1)
      have HAL := Lib.hid (show Below w.heap.size w (wr.alloc (.cells #[.int .i64 x0, .int .i64 x1] 43)) from HB.out.alloc HB.out.size _)
      obtain ⟨bx, hbx⟩ : ∃ bx, bx = markB (x0, x1) := ⟨_, rfl⟩
      have HBX := Lib.hid hbx
      have HSLA := Lib.hid (show sb < (wr.alloc (.cells #[.int .i64 x0, .int .i64 x1] 43)).heap.size from Nat.lt_of_lt_of_le hsl ((Below.refl wr.heap.size wr).alloc (Nat.le_refl _) _).size)
      have HSYA := Lib.hid (show ∀ j u, (MarkS.f (y0, y1))[j]? = some u → (wr.alloc (.cells #[.int .i64 x0, .int .i64 x1] 43)).cell? ⟨sb, so + (k - 1) * 2 + j, none⟩ = some u from fun j u hu => (((Below.refl wr.heap.size wr).alloc (Nat.le_refl _) (.cells #[.int .i64 x0, .int .i64 x1] 43)).cell (p := ⟨sb, so + (k - 1) * 2 + j, none⟩) hsl).trans (HSY.out j u hu))
      have HRX := Lib.hid (show ∀ W9, Below (wr.alloc (.cells #[.int .i64 x0, .int .i64 x1] 43)).heap.size (wr.alloc (.cells #[.int .i64 x0, .int .i64 x1] 43)) W9 → Calls Tryz.prog 79 #[.agg #[.int .i64 x0, .int .i64 x1]] W9 fun e w' => e = .returned (.bool bx) ∧ Below W9.heap.size W9 w' from fun W9 hB => by
        rw [hbx]
        exact rmark_any x0 x1 W9)
      clear hsc9 hse hre hsl hok HSY
      have HSL := HSLA
      have HSY := HSYA
      clear HSLA HSYA
      go_wp2_with fail
      cases bx with
      | false =>
        have HNO := Lib.hid (RisIs.no (p := markB) (cm := fun a b => a.1 - b.1) (d := MarkS.z) (l := l) hkn (fun g => by have h1 := g.1; rw [← HSE.out, ← HBX.out] at h1; cases h1))
        clear hbx
        refine wp_region_fill (by kernel_rfl) (by kernel_rfl) (by kernel_rfl) (Below (wr.alloc (.cells #[.int .i64 x0, .int .i64 x1] 43)).heap.size (wr.alloc (.cells #[.int .i64 x0, .int .i64 x1] 43))) (FV (fun j_9 => match j_9 with | 0 => some (.agg #[.int .i64 x0, .int .i64 x1]) | 1 => some (.bool false) | 2 => some (.bool true) | 3 => some (.bool true) | 4 => some (undef) | 5 => some (undef) | 6 => some (undef) | 7 => some (undef) | 8 => some (undef) | 9 => some (undef) | 10 => some (undef) | 11 => some (undef) | 12 => some (undef) | 13 => some (undef) | 14 => some (undef) | 15 => some (undef) | 16 => some (undef) | 17 => some (.bool true) | _ => none) (fun _ _ => True)) (Below.refl _ _).drew ?_ ?_
        · intro i9 o ho V w9 K hJ hdep hK
          have HJ := Lib.hid hJ
          simp only [fill, slotOf, List.size_toArray, List.length_cons, List.length_nil, Nat.reduceAdd, List.getElem?_toArray, List.getElem?_cons_zero, List.getElem?_cons_succ, Option.bind_some, Act.put, List.setIfInBounds_toArray, List.set_cons_zero, List.set_cons_succ] at hK ⊢
          have hin : i9 < 18 := (Array.getElem?_eq_some_iff.1 ho).1
          have hcs : i9 = 0 ∨ i9 = 1 ∨ i9 = 2 ∨ i9 = 3 ∨ i9 = 4 ∨ i9 = 5 ∨ i9 = 6 ∨ i9 = 7 ∨ i9 = 8 ∨ i9 = 9 ∨ i9 = 10 ∨ i9 = 11 ∨ i9 = 12 ∨ i9 = 13 ∨ i9 = 14 ∨ i9 = 15 ∨ i9 = 16 ∨ i9 = 17 := by omega
          clear hin
          rcases hcs with rfl | rfl | rfl | rfl | rfl | rfl | rfl | rfl | rfl | rfl | rfl | rfl | rfl | rfl | rfl | rfl | rfl | rfl
          · obtain rfl := Option.some.inj ho.symm
            have e0 : w9.cell? ⟨wr.heap.size, 0, none⟩ = some (.int .i64 x0) := (hJ.cell (p := ⟨wr.heap.size, 0, none⟩) HXL.out).trans (cell_blk' HXA.out rfl)
            have e1 : w9.cell? ⟨wr.heap.size, 1, none⟩ = some (.int .i64 x1) := (hJ.cell (p := ⟨wr.heap.size, 1, none⟩) HXL.out).trans (cell_blk' HXA.out rfl)
            clear hdep ho hJ
            try simp only [fill, slotOf, List.size_toArray, List.length_cons, List.length_nil, Nat.reduceAdd, List.getElem?_toArray, List.getElem?_cons_zero, List.getElem?_cons_succ, Option.bind_some, Act.put, List.setIfInBounds_toArray, List.set_cons_zero, List.set_cons_succ] at hK ⊢
            go_simp
            exact hK (.agg #[.int .i64 x0, .int .i64 x1]) _ HJ.out rfl (fun j y h => h) _ rfl
          · obtain rfl := Option.some.inj ho.symm
            have d0 : V 0 = .agg #[.int .i64 x0, .int .i64 x1] := hdep ⟨0, .data⟩ (by simp) rfl
            clear hdep ho hJ
            try simp only [fill, slotOf, List.size_toArray, List.length_cons, List.length_nil, Nat.reduceAdd, List.getElem?_toArray, List.getElem?_cons_zero, List.getElem?_cons_succ, Option.bind_some, Act.put, List.setIfInBounds_toArray, List.set_cons_zero, List.set_cons_succ] at hK ⊢
            rw [d0] at hK ⊢
            go_simp
            refine (HRX.out w9 HJ.out).mono ?_
            rintro e w8 ⟨rfl, hb8⟩
            exact hK (.bool false) _ (HJ.out.trans (hb8.mono HJ.out.size)) rfl (FV.mono ((fun _ _ _ => trivial) hb8)) _ rfl
          · obtain rfl := Option.some.inj ho.symm
            have d1 : V 1 = .bool false := hdep ⟨1, .data⟩ (by simp) rfl
            clear hdep ho hJ
            try simp only [fill, slotOf, List.size_toArray, List.length_cons, List.length_nil, Nat.reduceAdd, List.getElem?_toArray, List.getElem?_cons_zero, List.getElem?_cons_succ, Option.bind_some, Act.put, List.setIfInBounds_toArray, List.set_cons_zero, List.set_cons_succ] at hK ⊢
            rw [d1] at hK ⊢
            go_simp
            exact hK (.bool true) _ HJ.out rfl (fun j y h => h) _ rfl
          · obtain rfl := Option.some.inj ho.symm
            have d2 : V 2 = .bool true := hdep ⟨2, .data⟩ (by simp) rfl
            clear hdep ho hJ
            try simp only [fill, slotOf, List.size_toArray, List.length_cons, List.length_nil, Nat.reduceAdd, List.getElem?_toArray, List.getElem?_cons_zero, List.getElem?_cons_succ, Option.bind_some, Act.put, List.setIfInBounds_toArray, List.set_cons_zero, List.set_cons_succ] at hK ⊢
            rw [d2] at hK ⊢
            go_simp
            exact hK (.bool true) _ HJ.out rfl (fun j y h => h) _ rfl
          · obtain rfl := Option.some.inj ho.symm
            have d3 : V 3 = .bool true := hdep ⟨3, .guard⟩ (by simp) rfl
            clear hdep ho hJ
            try simp only [fill, slotOf, List.size_toArray, List.length_cons, List.length_nil, Nat.reduceAdd, List.getElem?_toArray, List.getElem?_cons_zero, List.getElem?_cons_succ, Option.bind_some, Act.put, List.setIfInBounds_toArray, List.set_cons_zero, List.set_cons_succ] at hK ⊢
            rw [d3] at hK ⊢
            go_simp
            exact hK (undef) _ HJ.out rfl (fun j y h => h) _ rfl
          · obtain rfl := Option.some.inj ho.symm
            have d3 : V 3 = .bool true := hdep ⟨3, .guard⟩ (by simp) rfl
            clear hdep ho hJ
            try simp only [fill, slotOf, List.size_toArray, List.length_cons, List.length_nil, Nat.reduceAdd, List.getElem?_toArray, List.getElem?_cons_zero, List.getElem?_cons_succ, Option.bind_some, Act.put, List.setIfInBounds_toArray, List.set_cons_zero, List.set_cons_succ] at hK ⊢
            rw [d3] at hK ⊢
            go_simp
            exact hK (undef) _ HJ.out rfl (fun j y h => h) _ rfl
          · obtain rfl := Option.some.inj ho.symm
            have d3 : V 3 = .bool true := hdep ⟨3, .guard⟩ (by simp) rfl
            clear hdep ho hJ
            try simp only [fill, slotOf, List.size_toArray, List.length_cons, List.length_nil, Nat.reduceAdd, List.getElem?_toArray, List.getElem?_cons_zero, List.getElem?_cons_succ, Option.bind_some, Act.put, List.setIfInBounds_toArray, List.set_cons_zero, List.set_cons_succ] at hK ⊢
            rw [d3] at hK ⊢
            go_simp
            exact hK (undef) _ HJ.out rfl (fun j y h => h) _ rfl
          · obtain rfl := Option.some.inj ho.symm
            have d6 : V 6 = undef := hdep ⟨6, .guard⟩ (by simp) rfl
            clear hdep ho hJ
            try simp only [fill, slotOf, List.size_toArray, List.length_cons, List.length_nil, Nat.reduceAdd, List.getElem?_toArray, List.getElem?_cons_zero, List.getElem?_cons_succ, Option.bind_some, Act.put, List.setIfInBounds_toArray, List.set_cons_zero, List.set_cons_succ] at hK ⊢
            rw [d6] at hK ⊢
            go_simp
            exact hK (undef) _ HJ.out rfl (fun j y h => h) _ rfl
          · obtain rfl := Option.some.inj ho.symm
            have d6 : V 6 = undef := hdep ⟨6, .guard⟩ (by simp) rfl
            clear hdep ho hJ
            try simp only [fill, slotOf, List.size_toArray, List.length_cons, List.length_nil, Nat.reduceAdd, List.getElem?_toArray, List.getElem?_cons_zero, List.getElem?_cons_succ, Option.bind_some, Act.put, List.setIfInBounds_toArray, List.set_cons_zero, List.set_cons_succ] at hK ⊢
            rw [d6] at hK ⊢
            go_simp
            exact hK (undef) _ HJ.out rfl (fun j y h => h) _ rfl
          · obtain rfl := Option.some.inj ho.symm
            have d6 : V 6 = undef := hdep ⟨6, .guard⟩ (by simp) rfl
            clear hdep ho hJ
            try simp only [fill, slotOf, List.size_toArray, List.length_cons, List.length_nil, Nat.reduceAdd, List.getElem?_toArray, List.getElem?_cons_zero, List.getElem?_cons_succ, Option.bind_some, Act.put, List.setIfInBounds_toArray, List.set_cons_zero, List.set_cons_succ] at hK ⊢
            rw [d6] at hK ⊢
            go_simp
            exact hK (undef) _ HJ.out rfl (fun j y h => h) _ rfl
          · obtain rfl := Option.some.inj ho.symm
            have d6 : V 6 = undef := hdep ⟨6, .guard⟩ (by simp) rfl
            clear hdep ho hJ
            try simp only [fill, slotOf, List.size_toArray, List.length_cons, List.length_nil, Nat.reduceAdd, List.getElem?_toArray, List.getElem?_cons_zero, List.getElem?_cons_succ, Option.bind_some, Act.put, List.setIfInBounds_toArray, List.set_cons_zero, List.set_cons_succ] at hK ⊢
            rw [d6] at hK ⊢
            go_simp
            exact hK (undef) _ HJ.out rfl (fun j y h => h) _ rfl
          · obtain rfl := Option.some.inj ho.symm
            have d6 : V 6 = undef := hdep ⟨6, .guard⟩ (by simp) rfl
            clear hdep ho hJ
            try simp only [fill, slotOf, List.size_toArray, List.length_cons, List.length_nil, Nat.reduceAdd, List.getElem?_toArray, List.getElem?_cons_zero, List.getElem?_cons_succ, Option.bind_some, Act.put, List.setIfInBounds_toArray, List.set_cons_zero, List.set_cons_succ] at hK ⊢
            rw [d6] at hK ⊢
            go_simp
            exact hK (undef) _ HJ.out rfl (fun j y h => h) _ rfl
          · obtain rfl := Option.some.inj ho.symm
            have d6 : V 6 = undef := hdep ⟨6, .guard⟩ (by simp) rfl
            clear hdep ho hJ
            try simp only [fill, slotOf, List.size_toArray, List.length_cons, List.length_nil, Nat.reduceAdd, List.getElem?_toArray, List.getElem?_cons_zero, List.getElem?_cons_succ, Option.bind_some, Act.put, List.setIfInBounds_toArray, List.set_cons_zero, List.set_cons_succ] at hK ⊢
            rw [d6] at hK ⊢
            go_simp
            exact hK (undef) _ HJ.out rfl (fun j y h => h) _ rfl
          · obtain rfl := Option.some.inj ho.symm
            have d6 : V 6 = undef := hdep ⟨6, .guard⟩ (by simp) rfl
            clear hdep ho hJ
            try simp only [fill, slotOf, List.size_toArray, List.length_cons, List.length_nil, Nat.reduceAdd, List.getElem?_toArray, List.getElem?_cons_zero, List.getElem?_cons_succ, Option.bind_some, Act.put, List.setIfInBounds_toArray, List.set_cons_zero, List.set_cons_succ] at hK ⊢
            rw [d6] at hK ⊢
            go_simp
            exact hK (undef) _ HJ.out rfl (fun j y h => h) _ rfl
          · obtain rfl := Option.some.inj ho.symm
            have d6 : V 6 = undef := hdep ⟨6, .guard⟩ (by simp) rfl
            clear hdep ho hJ
            try simp only [fill, slotOf, List.size_toArray, List.length_cons, List.length_nil, Nat.reduceAdd, List.getElem?_toArray, List.getElem?_cons_zero, List.getElem?_cons_succ, Option.bind_some, Act.put, List.setIfInBounds_toArray, List.set_cons_zero, List.set_cons_succ] at hK ⊢
            rw [d6] at hK ⊢
            go_simp
            exact hK (undef) _ HJ.out rfl (fun j y h => h) _ rfl
          · obtain rfl := Option.some.inj ho.symm
            have d6 : V 6 = undef := hdep ⟨6, .guard⟩ (by simp) rfl
            clear hdep ho hJ
            try simp only [fill, slotOf, List.size_toArray, List.length_cons, List.length_nil, Nat.reduceAdd, List.getElem?_toArray, List.getElem?_cons_zero, List.getElem?_cons_succ, Option.bind_some, Act.put, List.setIfInBounds_toArray, List.set_cons_zero, List.set_cons_succ] at hK ⊢
            rw [d6] at hK ⊢
            go_simp
            exact hK (undef) _ HJ.out rfl (fun j y h => h) _ rfl
          · obtain rfl := Option.some.inj ho.symm
            have d3 : V 3 = .bool true := hdep ⟨3, .guard⟩ (by simp) rfl
            clear hdep ho hJ
            try simp only [fill, slotOf, List.size_toArray, List.length_cons, List.length_nil, Nat.reduceAdd, List.getElem?_toArray, List.getElem?_cons_zero, List.getElem?_cons_succ, Option.bind_some, Act.put, List.setIfInBounds_toArray, List.set_cons_zero, List.set_cons_succ] at hK ⊢
            rw [d3] at hK ⊢
            go_simp
            exact hK (undef) _ HJ.out rfl (fun j y h => h) _ rfl
          · obtain rfl := Option.some.inj ho.symm
            have d3 : V 3 = .bool true := hdep ⟨3, .data⟩ (by simp) rfl
            clear hdep ho hJ
            try simp only [fill, slotOf, List.size_toArray, List.length_cons, List.length_nil, Nat.reduceAdd, List.getElem?_toArray, List.getElem?_cons_zero, List.getElem?_cons_succ, Option.bind_some, Act.put, List.setIfInBounds_toArray, List.set_cons_zero, List.set_cons_succ] at hK ⊢
            rw [d3] at hK ⊢
            go_simp
            exact hK (.bool true) _ HJ.out rfl (fun j y h => h) _ rfl
        · intro V w9 hJ hall
          have dL : V 17 = .bool true := hall 17 (by decide)
          have HJ9 := Lib.hid hJ
          clear hall hJ
          simp only [fill, slotOf, List.size_toArray, List.length_cons, List.length_nil, Nat.reduceAdd, List.getElem?_toArray, List.getElem?_cons_zero, List.getElem?_cons_succ, Option.bind_some, Act.put, List.setIfInBounds_toArray, List.set_cons_zero, List.set_cons_succ]
          rw [dL]
          clear dL
          have HBZ := Lib.hid (HAL.out.trans (HJ9.out.mono HAL.out.size))
          go_wp2_with fail
          go_ret
          exact ⟨HNO.out, HBZ.out⟩
      | true =>
        by_cases hk0 : k = 0
        · subst hk0
          have HOK2 := Lib.hid (HOK.out.succ (by rw [← HSE.out, ← HBX.out]) (fun g => absurd g (Nat.lt_irrefl 0)))
          clear hbx
          refine wp_region_fill (by kernel_rfl) (by kernel_rfl) (by kernel_rfl) (Below (wr.alloc (.cells #[.int .i64 x0, .int .i64 x1] 43)).heap.size (wr.alloc (.cells #[.int .i64 x0, .int .i64 x1] 43))) (FV (fun j_9 => match j_9 with | 0 => some (.agg #[.int .i64 x0, .int .i64 x1]) | 1 => some (.bool true) | 2 => some (.bool false) | 3 => some (.bool false) | 4 => some (.int .i64 0) | 5 => some (.bool false) | 6 => some (.bool false) | 7 => some (undef) | 8 => some (undef) | 9 => some (undef) | 10 => some (undef) | 11 => some (undef) | 12 => some (undef) | 13 => some (undef) | 14 => some (undef) | 15 => some (undef) | 16 => some (.bool false) | 17 => some (.bool false) | _ => none) (fun _ _ => True)) (Below.refl _ _).drew ?_ ?_
          · intro i9 o ho V w9 K hJ hdep hK
            have HJ := Lib.hid hJ
            simp only [fill, slotOf, List.size_toArray, List.length_cons, List.length_nil, Nat.reduceAdd, List.getElem?_toArray, List.getElem?_cons_zero, List.getElem?_cons_succ, Option.bind_some, Act.put, List.setIfInBounds_toArray, List.set_cons_zero, List.set_cons_succ] at hK ⊢
            have hin : i9 < 18 := (Array.getElem?_eq_some_iff.1 ho).1
            have hcs : i9 = 0 ∨ i9 = 1 ∨ i9 = 2 ∨ i9 = 3 ∨ i9 = 4 ∨ i9 = 5 ∨ i9 = 6 ∨ i9 = 7 ∨ i9 = 8 ∨ i9 = 9 ∨ i9 = 10 ∨ i9 = 11 ∨ i9 = 12 ∨ i9 = 13 ∨ i9 = 14 ∨ i9 = 15 ∨ i9 = 16 ∨ i9 = 17 := by omega
            clear hin
            rcases hcs with rfl | rfl | rfl | rfl | rfl | rfl | rfl | rfl | rfl | rfl | rfl | rfl | rfl | rfl | rfl | rfl | rfl | rfl
            · obtain rfl := Option.some.inj ho.symm
              have e0 : w9.cell? ⟨wr.heap.size, 0, none⟩ = some (.int .i64 x0) := (hJ.cell (p := ⟨wr.heap.size, 0, none⟩) HXL.out).trans (cell_blk' HXA.out rfl)
              have e1 : w9.cell? ⟨wr.heap.size, 1, none⟩ = some (.int .i64 x1) := (hJ.cell (p := ⟨wr.heap.size, 1, none⟩) HXL.out).trans (cell_blk' HXA.out rfl)
              clear hdep ho hJ
              try simp only [fill, slotOf, List.size_toArray, List.length_cons, List.length_nil, Nat.reduceAdd, List.getElem?_toArray, List.getElem?_cons_zero, List.getElem?_cons_succ, Option.bind_some, Act.put, List.setIfInBounds_toArray, List.set_cons_zero, List.set_cons_succ] at hK ⊢
              go_simp
              exact hK (.agg #[.int .i64 x0, .int .i64 x1]) _ HJ.out rfl (fun j y h => h) _ rfl
            · obtain rfl := Option.some.inj ho.symm
              have d0 : V 0 = .agg #[.int .i64 x0, .int .i64 x1] := hdep ⟨0, .data⟩ (by simp) rfl
              clear hdep ho hJ
              try simp only [fill, slotOf, List.size_toArray, List.length_cons, List.length_nil, Nat.reduceAdd, List.getElem?_toArray, List.getElem?_cons_zero, List.getElem?_cons_succ, Option.bind_some, Act.put, List.setIfInBounds_toArray, List.set_cons_zero, List.set_cons_succ] at hK ⊢
              rw [d0] at hK ⊢
              go_simp
              refine (HRX.out w9 HJ.out).mono ?_
              rintro e w8 ⟨rfl, hb8⟩
              exact hK (.bool true) _ (HJ.out.trans (hb8.mono HJ.out.size)) rfl (FV.mono ((fun _ _ _ => trivial) hb8)) _ rfl
            · obtain rfl := Option.some.inj ho.symm
              have d1 : V 1 = .bool true := hdep ⟨1, .data⟩ (by simp) rfl
              clear hdep ho hJ
              try simp only [fill, slotOf, List.size_toArray, List.length_cons, List.length_nil, Nat.reduceAdd, List.getElem?_toArray, List.getElem?_cons_zero, List.getElem?_cons_succ, Option.bind_some, Act.put, List.setIfInBounds_toArray, List.set_cons_zero, List.set_cons_succ] at hK ⊢
              rw [d1] at hK ⊢
              go_simp
              exact hK (.bool false) _ HJ.out rfl (fun j y h => h) _ rfl
            · obtain rfl := Option.some.inj ho.symm
              have d2 : V 2 = .bool false := hdep ⟨2, .data⟩ (by simp) rfl
              clear hdep ho hJ
              try simp only [fill, slotOf, List.size_toArray, List.length_cons, List.length_nil, Nat.reduceAdd, List.getElem?_toArray, List.getElem?_cons_zero, List.getElem?_cons_succ, Option.bind_some, Act.put, List.setIfInBounds_toArray, List.set_cons_zero, List.set_cons_succ] at hK ⊢
              rw [d2] at hK ⊢
              go_simp
              exact hK (.bool false) _ HJ.out rfl (fun j y h => h) _ rfl
            · obtain rfl := Option.some.inj ho.symm
              have d3 : V 3 = .bool false := hdep ⟨3, .guard⟩ (by simp) rfl
              clear hdep ho hJ
              try simp only [fill, slotOf, List.size_toArray, List.length_cons, List.length_nil, Nat.reduceAdd, List.getElem?_toArray, List.getElem?_cons_zero, List.getElem?_cons_succ, Option.bind_some, Act.put, List.setIfInBounds_toArray, List.set_cons_zero, List.set_cons_succ] at hK ⊢
              rw [d3] at hK ⊢
              go_simp
              exact hK (.int .i64 0) _ HJ.out rfl (fun j y h => h) _ rfl
            · obtain rfl := Option.some.inj ho.symm
              have d4 : V 4 = .int .i64 0 := hdep ⟨4, .data⟩ (by simp) rfl
              have d3 : V 3 = .bool false := hdep ⟨3, .guard⟩ (by simp) rfl
              clear hdep ho hJ
              try simp only [fill, slotOf, List.size_toArray, List.length_cons, List.length_nil, Nat.reduceAdd, List.getElem?_toArray, List.getElem?_cons_zero, List.getElem?_cons_succ, Option.bind_some, Act.put, List.setIfInBounds_toArray, List.set_cons_zero, List.set_cons_succ] at hK ⊢
              rw [d4, d3] at hK ⊢
              go_simp
              exact hK (.bool false) _ HJ.out rfl (fun j y h => h) _ rfl
            · obtain rfl := Option.some.inj ho.symm
              have d5 : V 5 = .bool false := hdep ⟨5, .data⟩ (by simp) rfl
              have d3 : V 3 = .bool false := hdep ⟨3, .guard⟩ (by simp) rfl
              clear hdep ho hJ
              try simp only [fill, slotOf, List.size_toArray, List.length_cons, List.length_nil, Nat.reduceAdd, List.getElem?_toArray, List.getElem?_cons_zero, List.getElem?_cons_succ, Option.bind_some, Act.put, List.setIfInBounds_toArray, List.set_cons_zero, List.set_cons_succ] at hK ⊢
              rw [d5, d3] at hK ⊢
              go_simp
              exact hK (.bool false) _ HJ.out rfl (fun j y h => h) _ rfl
            · obtain rfl := Option.some.inj ho.symm
              have d6 : V 6 = .bool false := hdep ⟨6, .guard⟩ (by simp) rfl
              clear hdep ho hJ
              try simp only [fill, slotOf, List.size_toArray, List.length_cons, List.length_nil, Nat.reduceAdd, List.getElem?_toArray, List.getElem?_cons_zero, List.getElem?_cons_succ, Option.bind_some, Act.put, List.setIfInBounds_toArray, List.set_cons_zero, List.set_cons_succ] at hK ⊢
              rw [d6] at hK ⊢
              go_simp
              exact hK (undef) _ HJ.out rfl (fun j y h => h) _ rfl
            · obtain rfl := Option.some.inj ho.symm
              have d6 : V 6 = .bool false := hdep ⟨6, .guard⟩ (by simp) rfl
              clear hdep ho hJ
              try simp only [fill, slotOf, List.size_toArray, List.length_cons, List.length_nil, Nat.reduceAdd, List.getElem?_toArray, List.getElem?_cons_zero, List.getElem?_cons_succ, Option.bind_some, Act.put, List.setIfInBounds_toArray, List.set_cons_zero, List.set_cons_succ] at hK ⊢
              rw [d6] at hK ⊢
              go_simp
              exact hK (undef) _ HJ.out rfl (fun j y h => h) _ rfl
            · obtain rfl := Option.some.inj ho.symm
              have d6 : V 6 = .bool false := hdep ⟨6, .guard⟩ (by simp) rfl
              clear hdep ho hJ
              try simp only [fill, slotOf, List.size_toArray, List.length_cons, List.length_nil, Nat.reduceAdd, List.getElem?_toArray, List.getElem?_cons_zero, List.getElem?_cons_succ, Option.bind_some, Act.put, List.setIfInBounds_toArray, List.set_cons_zero, List.set_cons_succ] at hK ⊢
              rw [d6] at hK ⊢
              go_simp
              exact hK (undef) _ HJ.out rfl (fun j y h => h) _ rfl
            · obtain rfl := Option.some.inj ho.symm
              have d6 : V 6 = .bool false := hdep ⟨6, .guard⟩ (by simp) rfl
              clear hdep ho hJ
              try simp only [fill, slotOf, List.size_toArray, List.length_cons, List.length_nil, Nat.reduceAdd, List.getElem?_toArray, List.getElem?_cons_zero, List.getElem?_cons_succ, Option.bind_some, Act.put, List.setIfInBounds_toArray, List.set_cons_zero, List.set_cons_succ] at hK ⊢
              rw [d6] at hK ⊢
              go_simp
              exact hK (undef) _ HJ.out rfl (fun j y h => h) _ rfl
            · obtain rfl := Option.some.inj ho.symm
              have d6 : V 6 = .bool false := hdep ⟨6, .guard⟩ (by simp) rfl
              clear hdep ho hJ
              try simp only [fill, slotOf, List.size_toArray, List.length_cons, List.length_nil, Nat.reduceAdd, List.getElem?_toArray, List.getElem?_cons_zero, List.getElem?_cons_succ, Option.bind_some, Act.put, List.setIfInBounds_toArray, List.set_cons_zero, List.set_cons_succ] at hK ⊢
              rw [d6] at hK ⊢
              go_simp
              exact hK (undef) _ HJ.out rfl (fun j y h => h) _ rfl
            · obtain rfl := Option.some.inj ho.symm
              have d6 : V 6 = .bool false := hdep ⟨6, .guard⟩ (by simp) rfl
              clear hdep ho hJ
              try simp only [fill, slotOf, List.size_toArray, List.length_cons, List.length_nil, Nat.reduceAdd, List.getElem?_toArray, List.getElem?_cons_zero, List.getElem?_cons_succ, Option.bind_some, Act.put, List.setIfInBounds_toArray, List.set_cons_zero, List.set_cons_succ] at hK ⊢
              rw [d6] at hK ⊢
              go_simp
              exact hK (undef) _ HJ.out rfl (fun j y h => h) _ rfl
            · obtain rfl := Option.some.inj ho.symm
              have d6 : V 6 = .bool false := hdep ⟨6, .guard⟩ (by simp) rfl
              clear hdep ho hJ
              try simp only [fill, slotOf, List.size_toArray, List.length_cons, List.length_nil, Nat.reduceAdd, List.getElem?_toArray, List.getElem?_cons_zero, List.getElem?_cons_succ, Option.bind_some, Act.put, List.setIfInBounds_toArray, List.set_cons_zero, List.set_cons_succ] at hK ⊢
              rw [d6] at hK ⊢
              go_simp
              exact hK (undef) _ HJ.out rfl (fun j y h => h) _ rfl
            · obtain rfl := Option.some.inj ho.symm
              have d6 : V 6 = .bool false := hdep ⟨6, .guard⟩ (by simp) rfl
              clear hdep ho hJ
              try simp only [fill, slotOf, List.size_toArray, List.length_cons, List.length_nil, Nat.reduceAdd, List.getElem?_toArray, List.getElem?_cons_zero, List.getElem?_cons_succ, Option.bind_some, Act.put, List.setIfInBounds_toArray, List.set_cons_zero, List.set_cons_succ] at hK ⊢
              rw [d6] at hK ⊢
              go_simp
              exact hK (undef) _ HJ.out rfl (fun j y h => h) _ rfl
            · obtain rfl := Option.some.inj ho.symm
              have d6 : V 6 = .bool false := hdep ⟨6, .guard⟩ (by simp) rfl
              clear hdep ho hJ
              try simp only [fill, slotOf, List.size_toArray, List.length_cons, List.length_nil, Nat.reduceAdd, List.getElem?_toArray, List.getElem?_cons_zero, List.getElem?_cons_succ, Option.bind_some, Act.put, List.setIfInBounds_toArray, List.set_cons_zero, List.set_cons_succ] at hK ⊢
              rw [d6] at hK ⊢
              go_simp
              exact hK (undef) _ HJ.out rfl (fun j y h => h) _ rfl
            · obtain rfl := Option.some.inj ho.symm
              have d6 : V 6 = .bool false := hdep ⟨6, .data⟩ (by simp) rfl
              have d3 : V 3 = .bool false := hdep ⟨3, .guard⟩ (by simp) rfl
              clear hdep ho hJ
              try simp only [fill, slotOf, List.size_toArray, List.length_cons, List.length_nil, Nat.reduceAdd, List.getElem?_toArray, List.getElem?_cons_zero, List.getElem?_cons_succ, Option.bind_some, Act.put, List.setIfInBounds_toArray, List.set_cons_zero, List.set_cons_succ] at hK ⊢
              rw [d6, d3] at hK ⊢
              go_simp
              exact hK (.bool false) _ HJ.out rfl (fun j y h => h) _ rfl
            · obtain rfl := Option.some.inj ho.symm
              have d3 : V 3 = .bool false := hdep ⟨3, .data⟩ (by simp) rfl
              have d16 : V 16 = .bool false := hdep ⟨16, .data⟩ (by simp) rfl
              clear hdep ho hJ
              try simp only [fill, slotOf, List.size_toArray, List.length_cons, List.length_nil, Nat.reduceAdd, List.getElem?_toArray, List.getElem?_cons_zero, List.getElem?_cons_succ, Option.bind_some, Act.put, List.setIfInBounds_toArray, List.set_cons_zero, List.set_cons_succ] at hK ⊢
              rw [d3, d16] at hK ⊢
              go_simp
              exact hK (.bool false) _ HJ.out rfl (fun j y h => h) _ rfl
          · intro V w9 hJ hall
            have dL : V 17 = .bool false := hall 17 (by decide)
            have HJ9 := Lib.hid hJ
            clear hall hJ
            simp only [fill, slotOf, List.size_toArray, List.length_cons, List.length_nil, Nat.reduceAdd, List.getElem?_toArray, List.getElem?_cons_zero, List.getElem?_cons_succ, Option.bind_some, Act.put, List.setIfInBounds_toArray, List.set_cons_zero, List.set_cons_succ]
            rw [dL]
            clear dL
            have HBZ := Lib.hid (HAL.out.trans (HJ9.out.mono HAL.out.size))
            go_wp2_with fail
            go_roundw
            case rel => exact ⟨1, by omega, rfl, HOK2, HBZ⟩
            case measure => simp [intOf]; try omega
        · obtain ⟨j, rfl⟩ : ∃ j, k = j + 1 := ⟨k - 1, by omega⟩
          have HSYJ := Lib.hid HSY.out
          simp only [Nat.add_sub_cancel] at HSYJ
          clear HSY
          have HSY := HSYJ
          clear HSYJ
          by_cases hge : y0 ≥ x0
          · have HZ := Lib.hid (show decide (y0 ≥ x0) = true from decide_eq_true hge)
            have HNO := Lib.hid (RisIs.no (p := markB) (cm := fun a b => a.1 - b.1) (d := MarkS.z) (l := l) hkn (fun g => by have h1 := g.2 (by omega); rw [← HSE.out, ← HRE.out] at h1; have h2 : y0 - x0 < 0 := h1; omega))
            clear hbx hge
            refine wp_region_fill (by kernel_rfl) (by kernel_rfl) (by kernel_rfl) (Below (wr.alloc (.cells #[.int .i64 x0, .int .i64 x1] 43)).heap.size (wr.alloc (.cells #[.int .i64 x0, .int .i64 x1] 43))) (FV (fun j_9 => match j_9 with | 0 => some (.agg #[.int .i64 x0, .int .i64 x1]) | 1 => some (.bool true) | 2 => some (.bool false) | 3 => some (.bool false) | 4 => some (.int .i64 ((j : Int) + 1)) | 5 => some (.bool true) | 6 => some (.bool true) | 7 => some (.slice (some ⟨sb, so, none⟩) n c) | 8 => some (.int .i64 ((j : Int) + 1)) | 9 => some (.int .i64 (j : Int)) | 10 => some (.pointer (some ⟨sb, so + j * 2, none⟩)) | 11 => some (.pointer (some ⟨sb, so + j * 2, none⟩)) | 12 => some (.int .i64 y0) | 13 => some (.pointer (some ⟨wr.heap.size, 0, none⟩)) | 14 => some (.int .i64 x0) | 15 => some (.bool true) | 16 => some (.bool true) | 17 => some (.bool true) | _ => none) (fun _ _ => True)) (Below.refl _ _).drew ?_ ?_
            · intro i9 o ho V w9 K hJ hdep hK
              have HJ := Lib.hid hJ
              simp only [fill, slotOf, List.size_toArray, List.length_cons, List.length_nil, Nat.reduceAdd, List.getElem?_toArray, List.getElem?_cons_zero, List.getElem?_cons_succ, Option.bind_some, Act.put, List.setIfInBounds_toArray, List.set_cons_zero, List.set_cons_succ] at hK ⊢
              have hin : i9 < 18 := (Array.getElem?_eq_some_iff.1 ho).1
              have hcs : i9 = 0 ∨ i9 = 1 ∨ i9 = 2 ∨ i9 = 3 ∨ i9 = 4 ∨ i9 = 5 ∨ i9 = 6 ∨ i9 = 7 ∨ i9 = 8 ∨ i9 = 9 ∨ i9 = 10 ∨ i9 = 11 ∨ i9 = 12 ∨ i9 = 13 ∨ i9 = 14 ∨ i9 = 15 ∨ i9 = 16 ∨ i9 = 17 := by omega
              clear hin
              rcases hcs with rfl | rfl | rfl | rfl | rfl | rfl | rfl | rfl | rfl | rfl | rfl | rfl | rfl | rfl | rfl | rfl | rfl | rfl
              · obtain rfl := Option.some.inj ho.symm
                have e0 : w9.cell? ⟨wr.heap.size, 0, none⟩ = some (.int .i64 x0) := (hJ.cell (p := ⟨wr.heap.size, 0, none⟩) HXL.out).trans (cell_blk' HXA.out rfl)
                have e1 : w9.cell? ⟨wr.heap.size, 1, none⟩ = some (.int .i64 x1) := (hJ.cell (p := ⟨wr.heap.size, 1, none⟩) HXL.out).trans (cell_blk' HXA.out rfl)
                clear hdep ho hJ
                try simp only [fill, slotOf, List.size_toArray, List.length_cons, List.length_nil, Nat.reduceAdd, List.getElem?_toArray, List.getElem?_cons_zero, List.getElem?_cons_succ, Option.bind_some, Act.put, List.setIfInBounds_toArray, List.set_cons_zero, List.set_cons_succ] at hK ⊢
                go_simp
                exact hK (.agg #[.int .i64 x0, .int .i64 x1]) _ HJ.out rfl (fun j y h => h) _ rfl
              · obtain rfl := Option.some.inj ho.symm
                have d0 : V 0 = .agg #[.int .i64 x0, .int .i64 x1] := hdep ⟨0, .data⟩ (by simp) rfl
                clear hdep ho hJ
                try simp only [fill, slotOf, List.size_toArray, List.length_cons, List.length_nil, Nat.reduceAdd, List.getElem?_toArray, List.getElem?_cons_zero, List.getElem?_cons_succ, Option.bind_some, Act.put, List.setIfInBounds_toArray, List.set_cons_zero, List.set_cons_succ] at hK ⊢
                rw [d0] at hK ⊢
                go_simp
                refine (HRX.out w9 HJ.out).mono ?_
                rintro e w8 ⟨rfl, hb8⟩
                exact hK (.bool true) _ (HJ.out.trans (hb8.mono HJ.out.size)) rfl (FV.mono ((fun _ _ _ => trivial) hb8)) _ rfl
              · obtain rfl := Option.some.inj ho.symm
                have d1 : V 1 = .bool true := hdep ⟨1, .data⟩ (by simp) rfl
                clear hdep ho hJ
                try simp only [fill, slotOf, List.size_toArray, List.length_cons, List.length_nil, Nat.reduceAdd, List.getElem?_toArray, List.getElem?_cons_zero, List.getElem?_cons_succ, Option.bind_some, Act.put, List.setIfInBounds_toArray, List.set_cons_zero, List.set_cons_succ] at hK ⊢
                rw [d1] at hK ⊢
                go_simp
                exact hK (.bool false) _ HJ.out rfl (fun j y h => h) _ rfl
              · obtain rfl := Option.some.inj ho.symm
                have d2 : V 2 = .bool false := hdep ⟨2, .data⟩ (by simp) rfl
                clear hdep ho hJ
                try simp only [fill, slotOf, List.size_toArray, List.length_cons, List.length_nil, Nat.reduceAdd, List.getElem?_toArray, List.getElem?_cons_zero, List.getElem?_cons_succ, Option.bind_some, Act.put, List.setIfInBounds_toArray, List.set_cons_zero, List.set_cons_succ] at hK ⊢
                rw [d2] at hK ⊢
                go_simp
                exact hK (.bool false) _ HJ.out rfl (fun j y h => h) _ rfl
              · obtain rfl := Option.some.inj ho.symm
                have d3 : V 3 = .bool false := hdep ⟨3, .guard⟩ (by simp) rfl
                clear hdep ho hJ
                try simp only [fill, slotOf, List.size_toArray, List.length_cons, List.length_nil, Nat.reduceAdd, List.getElem?_toArray, List.getElem?_cons_zero, List.getElem?_cons_succ, Option.bind_some, Act.put, List.setIfInBounds_toArray, List.set_cons_zero, List.set_cons_succ] at hK ⊢
                rw [d3] at hK ⊢
                go_simp
                exact hK (.int .i64 ((j : Int) + 1)) _ HJ.out rfl (fun j y h => h) _ rfl
              · obtain rfl := Option.some.inj ho.symm
                have d4 : V 4 = .int .i64 ((j : Int) + 1) := hdep ⟨4, .data⟩ (by simp) rfl
                have d3 : V 3 = .bool false := hdep ⟨3, .guard⟩ (by simp) rfl
                have hk9 : decide ((j : Int) + 1 > 0) = true := decide_eq_true (by omega)
                clear hdep ho hJ
                try simp only [fill, slotOf, List.size_toArray, List.length_cons, List.length_nil, Nat.reduceAdd, List.getElem?_toArray, List.getElem?_cons_zero, List.getElem?_cons_succ, Option.bind_some, Act.put, List.setIfInBounds_toArray, List.set_cons_zero, List.set_cons_succ] at hK ⊢
                rw [d4, d3] at hK ⊢
                go_simp
                exact hK (.bool true) _ HJ.out rfl (fun j y h => h) _ rfl
              · obtain rfl := Option.some.inj ho.symm
                have d5 : V 5 = .bool true := hdep ⟨5, .data⟩ (by simp) rfl
                have d3 : V 3 = .bool false := hdep ⟨3, .guard⟩ (by simp) rfl
                clear hdep ho hJ
                try simp only [fill, slotOf, List.size_toArray, List.length_cons, List.length_nil, Nat.reduceAdd, List.getElem?_toArray, List.getElem?_cons_zero, List.getElem?_cons_succ, Option.bind_some, Act.put, List.setIfInBounds_toArray, List.set_cons_zero, List.set_cons_succ] at hK ⊢
                rw [d5, d3] at hK ⊢
                go_simp
                exact hK (.bool true) _ HJ.out rfl (fun j y h => h) _ rfl
              · obtain rfl := Option.some.inj ho.symm
                have d6 : V 6 = .bool true := hdep ⟨6, .guard⟩ (by simp) rfl
                clear hdep ho hJ
                try simp only [fill, slotOf, List.size_toArray, List.length_cons, List.length_nil, Nat.reduceAdd, List.getElem?_toArray, List.getElem?_cons_zero, List.getElem?_cons_succ, Option.bind_some, Act.put, List.setIfInBounds_toArray, List.set_cons_zero, List.set_cons_succ] at hK ⊢
                rw [d6] at hK ⊢
                go_simp
                exact hK (.slice (some ⟨sb, so, none⟩) n c) _ HJ.out rfl (fun j y h => h) _ rfl
              · obtain rfl := Option.some.inj ho.symm
                have d6 : V 6 = .bool true := hdep ⟨6, .guard⟩ (by simp) rfl
                clear hdep ho hJ
                try simp only [fill, slotOf, List.size_toArray, List.length_cons, List.length_nil, Nat.reduceAdd, List.getElem?_toArray, List.getElem?_cons_zero, List.getElem?_cons_succ, Option.bind_some, Act.put, List.setIfInBounds_toArray, List.set_cons_zero, List.set_cons_succ] at hK ⊢
                rw [d6] at hK ⊢
                go_simp
                exact hK (.int .i64 ((j : Int) + 1)) _ HJ.out rfl (fun j y h => h) _ rfl
              · obtain rfl := Option.some.inj ho.symm
                have d8 : V 8 = .int .i64 ((j : Int) + 1) := hdep ⟨8, .data⟩ (by simp) rfl
                have d6 : V 6 = .bool true := hdep ⟨6, .guard⟩ (by simp) rfl
                have hw1 : IntKind.i64.wrap (j : Int) = (j : Int) := IntWalk.i64_in _ (by omega)
                have hw2 : IntKind.i64.wrap ((j : Int) + 1 - 1) = (j : Int) := by rw [Int.add_sub_cancel]; exact hw1
                clear hdep ho hJ
                try simp only [fill, slotOf, List.size_toArray, List.length_cons, List.length_nil, Nat.reduceAdd, List.getElem?_toArray, List.getElem?_cons_zero, List.getElem?_cons_succ, Option.bind_some, Act.put, List.setIfInBounds_toArray, List.set_cons_zero, List.set_cons_succ] at hK ⊢
                rw [d8, d6] at hK ⊢
                go_simp
                exact hK (.int .i64 (j : Int)) _ HJ.out rfl (fun j y h => h) _ rfl
              · obtain rfl := Option.some.inj ho.symm
                have d7 : V 7 = .slice (some ⟨sb, so, none⟩) n c := hdep ⟨7, .data⟩ (by simp) rfl
                have d9 : V 9 = .int .i64 (j : Int) := hdep ⟨9, .data⟩ (by simp) rfl
                have d6 : V 6 = .bool true := hdep ⟨6, .guard⟩ (by simp) rfl
                have hjn : j < n := by omega
                have hjn2 : (j : Int) < (n : Int) := by omega
                clear hdep ho hJ
                try simp only [fill, slotOf, List.size_toArray, List.length_cons, List.length_nil, Nat.reduceAdd, List.getElem?_toArray, List.getElem?_cons_zero, List.getElem?_cons_succ, Option.bind_some, Act.put, List.setIfInBounds_toArray, List.set_cons_zero, List.set_cons_succ] at hK ⊢
                rw [d7, d9, d6] at hK ⊢
                go_simp
                exact hK (.pointer (some ⟨sb, so + j * 2, none⟩)) _ HJ.out rfl (fun j y h => h) _ rfl
              · obtain rfl := Option.some.inj ho.symm
                have d10 : V 10 = .pointer (some ⟨sb, so + j * 2, none⟩) := hdep ⟨10, .data⟩ (by simp) rfl
                have d6 : V 6 = .bool true := hdep ⟨6, .guard⟩ (by simp) rfl
                clear hdep ho hJ
                try simp only [fill, slotOf, List.size_toArray, List.length_cons, List.length_nil, Nat.reduceAdd, List.getElem?_toArray, List.getElem?_cons_zero, List.getElem?_cons_succ, Option.bind_some, Act.put, List.setIfInBounds_toArray, List.set_cons_zero, List.set_cons_succ] at hK ⊢
                rw [d10, d6] at hK ⊢
                go_simp
                exact hK (.pointer (some ⟨sb, so + j * 2, none⟩)) _ HJ.out rfl (fun j y h => h) _ rfl
              · obtain rfl := Option.some.inj ho.symm
                have d11 : V 11 = .pointer (some ⟨sb, so + j * 2, none⟩) := hdep ⟨11, .data⟩ (by simp) rfl
                have d6 : V 6 = .bool true := hdep ⟨6, .guard⟩ (by simp) rfl
                have u0 : w9.cell? ⟨sb, so + j * 2, none⟩ = some (.int .i64 y0) := (hJ.cell (p := ⟨sb, so + j * 2 + 0, none⟩) HSL.out).trans (HSY.out 0 _ rfl)
                clear hdep ho hJ
                try simp only [fill, slotOf, List.size_toArray, List.length_cons, List.length_nil, Nat.reduceAdd, List.getElem?_toArray, List.getElem?_cons_zero, List.getElem?_cons_succ, Option.bind_some, Act.put, List.setIfInBounds_toArray, List.set_cons_zero, List.set_cons_succ] at hK ⊢
                rw [d11, d6] at hK ⊢
                go_simp
                exact hK (.int .i64 y0) _ HJ.out rfl (fun j y h => h) _ rfl
              · obtain rfl := Option.some.inj ho.symm
                have d6 : V 6 = .bool true := hdep ⟨6, .guard⟩ (by simp) rfl
                clear hdep ho hJ
                try simp only [fill, slotOf, List.size_toArray, List.length_cons, List.length_nil, Nat.reduceAdd, List.getElem?_toArray, List.getElem?_cons_zero, List.getElem?_cons_succ, Option.bind_some, Act.put, List.setIfInBounds_toArray, List.set_cons_zero, List.set_cons_succ] at hK ⊢
                rw [d6] at hK ⊢
                go_simp
                exact hK (.pointer (some ⟨wr.heap.size, 0, none⟩)) _ HJ.out rfl (fun j y h => h) _ rfl
              · obtain rfl := Option.some.inj ho.symm
                have d13 : V 13 = .pointer (some ⟨wr.heap.size, 0, none⟩) := hdep ⟨13, .data⟩ (by simp) rfl
                have d6 : V 6 = .bool true := hdep ⟨6, .guard⟩ (by simp) rfl
                have e0 : w9.cell? ⟨wr.heap.size, 0, none⟩ = some (.int .i64 x0) := (hJ.cell (p := ⟨wr.heap.size, 0, none⟩) HXL.out).trans (cell_blk' HXA.out rfl)
                clear hdep ho hJ
                try simp only [fill, slotOf, List.size_toArray, List.length_cons, List.length_nil, Nat.reduceAdd, List.getElem?_toArray, List.getElem?_cons_zero, List.getElem?_cons_succ, Option.bind_some, Act.put, List.setIfInBounds_toArray, List.set_cons_zero, List.set_cons_succ] at hK ⊢
                rw [d13, d6] at hK ⊢
                go_simp
                exact hK (.int .i64 x0) _ HJ.out rfl (fun j y h => h) _ rfl
              · obtain rfl := Option.some.inj ho.symm
                have d12 : V 12 = .int .i64 y0 := hdep ⟨12, .data⟩ (by simp) rfl
                have d14 : V 14 = .int .i64 x0 := hdep ⟨14, .data⟩ (by simp) rfl
                have d6 : V 6 = .bool true := hdep ⟨6, .guard⟩ (by simp) rfl
                have hz9 : decide (y0 ≥ x0) = true := HZ.out
                clear hdep ho hJ
                try simp only [fill, slotOf, List.size_toArray, List.length_cons, List.length_nil, Nat.reduceAdd, List.getElem?_toArray, List.getElem?_cons_zero, List.getElem?_cons_succ, Option.bind_some, Act.put, List.setIfInBounds_toArray, List.set_cons_zero, List.set_cons_succ] at hK ⊢
                rw [d12, d14, d6] at hK ⊢
                go_simp
                exact hK (.bool true) _ HJ.out rfl (fun j y h => h) _ rfl
              · obtain rfl := Option.some.inj ho.symm
                have d6 : V 6 = .bool true := hdep ⟨6, .data⟩ (by simp) rfl
                have d15 : V 15 = .bool true := hdep ⟨15, .data⟩ (by simp) rfl
                have d3 : V 3 = .bool false := hdep ⟨3, .guard⟩ (by simp) rfl
                clear hdep ho hJ
                try simp only [fill, slotOf, List.size_toArray, List.length_cons, List.length_nil, Nat.reduceAdd, List.getElem?_toArray, List.getElem?_cons_zero, List.getElem?_cons_succ, Option.bind_some, Act.put, List.setIfInBounds_toArray, List.set_cons_zero, List.set_cons_succ] at hK ⊢
                rw [d6, d15, d3] at hK ⊢
                go_simp
                exact hK (.bool true) _ HJ.out rfl (fun j y h => h) _ rfl
              · obtain rfl := Option.some.inj ho.symm
                have d3 : V 3 = .bool false := hdep ⟨3, .data⟩ (by simp) rfl
                have d16 : V 16 = .bool true := hdep ⟨16, .data⟩ (by simp) rfl
                clear hdep ho hJ
                try simp only [fill, slotOf, List.size_toArray, List.length_cons, List.length_nil, Nat.reduceAdd, List.getElem?_toArray, List.getElem?_cons_zero, List.getElem?_cons_succ, Option.bind_some, Act.put, List.setIfInBounds_toArray, List.set_cons_zero, List.set_cons_succ] at hK ⊢
                rw [d3, d16] at hK ⊢
                go_simp
                exact hK (.bool true) _ HJ.out rfl (fun j y h => h) _ rfl
            · intro V w9 hJ hall
              have dL : V 17 = .bool true := hall 17 (by decide)
              have HJ9 := Lib.hid hJ
              clear hall hJ
              simp only [fill, slotOf, List.size_toArray, List.length_cons, List.length_nil, Nat.reduceAdd, List.getElem?_toArray, List.getElem?_cons_zero, List.getElem?_cons_succ, Option.bind_some, Act.put, List.setIfInBounds_toArray, List.set_cons_zero, List.set_cons_succ]
              rw [dL]
              clear dL
              have HBZ := Lib.hid (HAL.out.trans (HJ9.out.mono HAL.out.size))
              go_wp2_with fail
              go_ret
              exact ⟨HNO.out, HBZ.out⟩
          · have HZ := Lib.hid (show decide (y0 ≥ x0) = false from decide_eq_false hge)
            have HOK2 := Lib.hid (HOK.out.succ (by rw [← HSE.out, ← HBX.out]) (fun _ => by rw [← HSE.out, ← HRE.out]; show y0 - x0 < 0; omega))
            clear hbx hge
            refine wp_region_fill (by kernel_rfl) (by kernel_rfl) (by kernel_rfl) (Below (wr.alloc (.cells #[.int .i64 x0, .int .i64 x1] 43)).heap.size (wr.alloc (.cells #[.int .i64 x0, .int .i64 x1] 43))) (FV (fun j_9 => match j_9 with | 0 => some (.agg #[.int .i64 x0, .int .i64 x1]) | 1 => some (.bool true) | 2 => some (.bool false) | 3 => some (.bool false) | 4 => some (.int .i64 ((j : Int) + 1)) | 5 => some (.bool true) | 6 => some (.bool true) | 7 => some (.slice (some ⟨sb, so, none⟩) n c) | 8 => some (.int .i64 ((j : Int) + 1)) | 9 => some (.int .i64 (j : Int)) | 10 => some (.pointer (some ⟨sb, so + j * 2, none⟩)) | 11 => some (.pointer (some ⟨sb, so + j * 2, none⟩)) | 12 => some (.int .i64 y0) | 13 => some (.pointer (some ⟨wr.heap.size, 0, none⟩)) | 14 => some (.int .i64 x0) | 15 => some (.bool false) | 16 => some (.bool false) | 17 => some (.bool false) | _ => none) (fun _ _ => True)) (Below.refl _ _).drew ?_ ?_
            · intro i9 o ho V w9 K hJ hdep hK
              have HJ := Lib.hid hJ
              simp only [fill, slotOf, List.size_toArray, List.length_cons, List.length_nil, Nat.reduceAdd, List.getElem?_toArray, List.getElem?_cons_zero, List.getElem?_cons_succ, Option.bind_some, Act.put, List.setIfInBounds_toArray, List.set_cons_zero, List.set_cons_succ] at hK ⊢
              have hin : i9 < 18 := (Array.getElem?_eq_some_iff.1 ho).1
              have hcs : i9 = 0 ∨ i9 = 1 ∨ i9 = 2 ∨ i9 = 3 ∨ i9 = 4 ∨ i9 = 5 ∨ i9 = 6 ∨ i9 = 7 ∨ i9 = 8 ∨ i9 = 9 ∨ i9 = 10 ∨ i9 = 11 ∨ i9 = 12 ∨ i9 = 13 ∨ i9 = 14 ∨ i9 = 15 ∨ i9 = 16 ∨ i9 = 17 := by omega
              clear hin
              rcases hcs with rfl | rfl | rfl | rfl | rfl | rfl | rfl | rfl | rfl | rfl | rfl | rfl | rfl | rfl | rfl | rfl | rfl | rfl
              · obtain rfl := Option.some.inj ho.symm
                have e0 : w9.cell? ⟨wr.heap.size, 0, none⟩ = some (.int .i64 x0) := (hJ.cell (p := ⟨wr.heap.size, 0, none⟩) HXL.out).trans (cell_blk' HXA.out rfl)
                have e1 : w9.cell? ⟨wr.heap.size, 1, none⟩ = some (.int .i64 x1) := (hJ.cell (p := ⟨wr.heap.size, 1, none⟩) HXL.out).trans (cell_blk' HXA.out rfl)
                clear hdep ho hJ
                try simp only [fill, slotOf, List.size_toArray, List.length_cons, List.length_nil, Nat.reduceAdd, List.getElem?_toArray, List.getElem?_cons_zero, List.getElem?_cons_succ, Option.bind_some, Act.put, List.setIfInBounds_toArray, List.set_cons_zero, List.set_cons_succ] at hK ⊢
                go_simp
                exact hK (.agg #[.int .i64 x0, .int .i64 x1]) _ HJ.out rfl (fun j y h => h) _ rfl
              · obtain rfl := Option.some.inj ho.symm
                have d0 : V 0 = .agg #[.int .i64 x0, .int .i64 x1] := hdep ⟨0, .data⟩ (by simp) rfl
                clear hdep ho hJ
                try simp only [fill, slotOf, List.size_toArray, List.length_cons, List.length_nil, Nat.reduceAdd, List.getElem?_toArray, List.getElem?_cons_zero, List.getElem?_cons_succ, Option.bind_some, Act.put, List.setIfInBounds_toArray, List.set_cons_zero, List.set_cons_succ] at hK ⊢
                rw [d0] at hK ⊢
                go_simp
                refine (HRX.out w9 HJ.out).mono ?_
                rintro e w8 ⟨rfl, hb8⟩
                exact hK (.bool true) _ (HJ.out.trans (hb8.mono HJ.out.size)) rfl (FV.mono ((fun _ _ _ => trivial) hb8)) _ rfl
              · obtain rfl := Option.some.inj ho.symm
                have d1 : V 1 = .bool true := hdep ⟨1, .data⟩ (by simp) rfl
                clear hdep ho hJ
                try simp only [fill, slotOf, List.size_toArray, List.length_cons, List.length_nil, Nat.reduceAdd, List.getElem?_toArray, List.getElem?_cons_zero, List.getElem?_cons_succ, Option.bind_some, Act.put, List.setIfInBounds_toArray, List.set_cons_zero, List.set_cons_succ] at hK ⊢
                rw [d1] at hK ⊢
                go_simp
                exact hK (.bool false) _ HJ.out rfl (fun j y h => h) _ rfl
              · obtain rfl := Option.some.inj ho.symm
                have d2 : V 2 = .bool false := hdep ⟨2, .data⟩ (by simp) rfl
                clear hdep ho hJ
                try simp only [fill, slotOf, List.size_toArray, List.length_cons, List.length_nil, Nat.reduceAdd, List.getElem?_toArray, List.getElem?_cons_zero, List.getElem?_cons_succ, Option.bind_some, Act.put, List.setIfInBounds_toArray, List.set_cons_zero, List.set_cons_succ] at hK ⊢
                rw [d2] at hK ⊢
                go_simp
                exact hK (.bool false) _ HJ.out rfl (fun j y h => h) _ rfl
              · obtain rfl := Option.some.inj ho.symm
                have d3 : V 3 = .bool false := hdep ⟨3, .guard⟩ (by simp) rfl
                clear hdep ho hJ
                try simp only [fill, slotOf, List.size_toArray, List.length_cons, List.length_nil, Nat.reduceAdd, List.getElem?_toArray, List.getElem?_cons_zero, List.getElem?_cons_succ, Option.bind_some, Act.put, List.setIfInBounds_toArray, List.set_cons_zero, List.set_cons_succ] at hK ⊢
                rw [d3] at hK ⊢
                go_simp
                exact hK (.int .i64 ((j : Int) + 1)) _ HJ.out rfl (fun j y h => h) _ rfl
              · obtain rfl := Option.some.inj ho.symm
                have d4 : V 4 = .int .i64 ((j : Int) + 1) := hdep ⟨4, .data⟩ (by simp) rfl
                have d3 : V 3 = .bool false := hdep ⟨3, .guard⟩ (by simp) rfl
                have hk9 : decide ((j : Int) + 1 > 0) = true := decide_eq_true (by omega)
                clear hdep ho hJ
                try simp only [fill, slotOf, List.size_toArray, List.length_cons, List.length_nil, Nat.reduceAdd, List.getElem?_toArray, List.getElem?_cons_zero, List.getElem?_cons_succ, Option.bind_some, Act.put, List.setIfInBounds_toArray, List.set_cons_zero, List.set_cons_succ] at hK ⊢
                rw [d4, d3] at hK ⊢
                go_simp
                exact hK (.bool true) _ HJ.out rfl (fun j y h => h) _ rfl
              · obtain rfl := Option.some.inj ho.symm
                have d5 : V 5 = .bool true := hdep ⟨5, .data⟩ (by simp) rfl
                have d3 : V 3 = .bool false := hdep ⟨3, .guard⟩ (by simp) rfl
                clear hdep ho hJ
                try simp only [fill, slotOf, List.size_toArray, List.length_cons, List.length_nil, Nat.reduceAdd, List.getElem?_toArray, List.getElem?_cons_zero, List.getElem?_cons_succ, Option.bind_some, Act.put, List.setIfInBounds_toArray, List.set_cons_zero, List.set_cons_succ] at hK ⊢
                rw [d5, d3] at hK ⊢
                go_simp
                exact hK (.bool true) _ HJ.out rfl (fun j y h => h) _ rfl
              · obtain rfl := Option.some.inj ho.symm
                have d6 : V 6 = .bool true := hdep ⟨6, .guard⟩ (by simp) rfl
                clear hdep ho hJ
                try simp only [fill, slotOf, List.size_toArray, List.length_cons, List.length_nil, Nat.reduceAdd, List.getElem?_toArray, List.getElem?_cons_zero, List.getElem?_cons_succ, Option.bind_some, Act.put, List.setIfInBounds_toArray, List.set_cons_zero, List.set_cons_succ] at hK ⊢
                rw [d6] at hK ⊢
                go_simp
                exact hK (.slice (some ⟨sb, so, none⟩) n c) _ HJ.out rfl (fun j y h => h) _ rfl
              · obtain rfl := Option.some.inj ho.symm
                have d6 : V 6 = .bool true := hdep ⟨6, .guard⟩ (by simp) rfl
                clear hdep ho hJ
                try simp only [fill, slotOf, List.size_toArray, List.length_cons, List.length_nil, Nat.reduceAdd, List.getElem?_toArray, List.getElem?_cons_zero, List.getElem?_cons_succ, Option.bind_some, Act.put, List.setIfInBounds_toArray, List.set_cons_zero, List.set_cons_succ] at hK ⊢
                rw [d6] at hK ⊢
                go_simp
                exact hK (.int .i64 ((j : Int) + 1)) _ HJ.out rfl (fun j y h => h) _ rfl
              · obtain rfl := Option.some.inj ho.symm
                have d8 : V 8 = .int .i64 ((j : Int) + 1) := hdep ⟨8, .data⟩ (by simp) rfl
                have d6 : V 6 = .bool true := hdep ⟨6, .guard⟩ (by simp) rfl
                have hw1 : IntKind.i64.wrap (j : Int) = (j : Int) := IntWalk.i64_in _ (by omega)
                have hw2 : IntKind.i64.wrap ((j : Int) + 1 - 1) = (j : Int) := by rw [Int.add_sub_cancel]; exact hw1
                clear hdep ho hJ
                try simp only [fill, slotOf, List.size_toArray, List.length_cons, List.length_nil, Nat.reduceAdd, List.getElem?_toArray, List.getElem?_cons_zero, List.getElem?_cons_succ, Option.bind_some, Act.put, List.setIfInBounds_toArray, List.set_cons_zero, List.set_cons_succ] at hK ⊢
                rw [d8, d6] at hK ⊢
                go_simp
                exact hK (.int .i64 (j : Int)) _ HJ.out rfl (fun j y h => h) _ rfl
              · obtain rfl := Option.some.inj ho.symm
                have d7 : V 7 = .slice (some ⟨sb, so, none⟩) n c := hdep ⟨7, .data⟩ (by simp) rfl
                have d9 : V 9 = .int .i64 (j : Int) := hdep ⟨9, .data⟩ (by simp) rfl
                have d6 : V 6 = .bool true := hdep ⟨6, .guard⟩ (by simp) rfl
                have hjn : j < n := by omega
                have hjn2 : (j : Int) < (n : Int) := by omega
                clear hdep ho hJ
                try simp only [fill, slotOf, List.size_toArray, List.length_cons, List.length_nil, Nat.reduceAdd, List.getElem?_toArray, List.getElem?_cons_zero, List.getElem?_cons_succ, Option.bind_some, Act.put, List.setIfInBounds_toArray, List.set_cons_zero, List.set_cons_succ] at hK ⊢
                rw [d7, d9, d6] at hK ⊢
                go_simp
                exact hK (.pointer (some ⟨sb, so + j * 2, none⟩)) _ HJ.out rfl (fun j y h => h) _ rfl
              · obtain rfl := Option.some.inj ho.symm
                have d10 : V 10 = .pointer (some ⟨sb, so + j * 2, none⟩) := hdep ⟨10, .data⟩ (by simp) rfl
                have d6 : V 6 = .bool true := hdep ⟨6, .guard⟩ (by simp) rfl
                clear hdep ho hJ
                try simp only [fill, slotOf, List.size_toArray, List.length_cons, List.length_nil, Nat.reduceAdd, List.getElem?_toArray, List.getElem?_cons_zero, List.getElem?_cons_succ, Option.bind_some, Act.put, List.setIfInBounds_toArray, List.set_cons_zero, List.set_cons_succ] at hK ⊢
                rw [d10, d6] at hK ⊢
                go_simp
                exact hK (.pointer (some ⟨sb, so + j * 2, none⟩)) _ HJ.out rfl (fun j y h => h) _ rfl
              · obtain rfl := Option.some.inj ho.symm
                have d11 : V 11 = .pointer (some ⟨sb, so + j * 2, none⟩) := hdep ⟨11, .data⟩ (by simp) rfl
                have d6 : V 6 = .bool true := hdep ⟨6, .guard⟩ (by simp) rfl
                have u0 : w9.cell? ⟨sb, so + j * 2, none⟩ = some (.int .i64 y0) := (hJ.cell (p := ⟨sb, so + j * 2 + 0, none⟩) HSL.out).trans (HSY.out 0 _ rfl)
                clear hdep ho hJ
                try simp only [fill, slotOf, List.size_toArray, List.length_cons, List.length_nil, Nat.reduceAdd, List.getElem?_toArray, List.getElem?_cons_zero, List.getElem?_cons_succ, Option.bind_some, Act.put, List.setIfInBounds_toArray, List.set_cons_zero, List.set_cons_succ] at hK ⊢
                rw [d11, d6] at hK ⊢
                go_simp
                exact hK (.int .i64 y0) _ HJ.out rfl (fun j y h => h) _ rfl
              · obtain rfl := Option.some.inj ho.symm
                have d6 : V 6 = .bool true := hdep ⟨6, .guard⟩ (by simp) rfl
                clear hdep ho hJ
                try simp only [fill, slotOf, List.size_toArray, List.length_cons, List.length_nil, Nat.reduceAdd, List.getElem?_toArray, List.getElem?_cons_zero, List.getElem?_cons_succ, Option.bind_some, Act.put, List.setIfInBounds_toArray, List.set_cons_zero, List.set_cons_succ] at hK ⊢
                rw [d6] at hK ⊢
                go_simp
                exact hK (.pointer (some ⟨wr.heap.size, 0, none⟩)) _ HJ.out rfl (fun j y h => h) _ rfl
              · obtain rfl := Option.some.inj ho.symm
                have d13 : V 13 = .pointer (some ⟨wr.heap.size, 0, none⟩) := hdep ⟨13, .data⟩ (by simp) rfl
                have d6 : V 6 = .bool true := hdep ⟨6, .guard⟩ (by simp) rfl
                have e0 : w9.cell? ⟨wr.heap.size, 0, none⟩ = some (.int .i64 x0) := (hJ.cell (p := ⟨wr.heap.size, 0, none⟩) HXL.out).trans (cell_blk' HXA.out rfl)
                clear hdep ho hJ
                try simp only [fill, slotOf, List.size_toArray, List.length_cons, List.length_nil, Nat.reduceAdd, List.getElem?_toArray, List.getElem?_cons_zero, List.getElem?_cons_succ, Option.bind_some, Act.put, List.setIfInBounds_toArray, List.set_cons_zero, List.set_cons_succ] at hK ⊢
                rw [d13, d6] at hK ⊢
                go_simp
                exact hK (.int .i64 x0) _ HJ.out rfl (fun j y h => h) _ rfl
              · obtain rfl := Option.some.inj ho.symm
                have d12 : V 12 = .int .i64 y0 := hdep ⟨12, .data⟩ (by simp) rfl
                have d14 : V 14 = .int .i64 x0 := hdep ⟨14, .data⟩ (by simp) rfl
                have d6 : V 6 = .bool true := hdep ⟨6, .guard⟩ (by simp) rfl
                have hz9 : decide (y0 ≥ x0) = false := HZ.out
                clear hdep ho hJ
                try simp only [fill, slotOf, List.size_toArray, List.length_cons, List.length_nil, Nat.reduceAdd, List.getElem?_toArray, List.getElem?_cons_zero, List.getElem?_cons_succ, Option.bind_some, Act.put, List.setIfInBounds_toArray, List.set_cons_zero, List.set_cons_succ] at hK ⊢
                rw [d12, d14, d6] at hK ⊢
                go_simp
                exact hK (.bool false) _ HJ.out rfl (fun j y h => h) _ rfl
              · obtain rfl := Option.some.inj ho.symm
                have d6 : V 6 = .bool true := hdep ⟨6, .data⟩ (by simp) rfl
                have d15 : V 15 = .bool false := hdep ⟨15, .data⟩ (by simp) rfl
                have d3 : V 3 = .bool false := hdep ⟨3, .guard⟩ (by simp) rfl
                clear hdep ho hJ
                try simp only [fill, slotOf, List.size_toArray, List.length_cons, List.length_nil, Nat.reduceAdd, List.getElem?_toArray, List.getElem?_cons_zero, List.getElem?_cons_succ, Option.bind_some, Act.put, List.setIfInBounds_toArray, List.set_cons_zero, List.set_cons_succ] at hK ⊢
                rw [d6, d15, d3] at hK ⊢
                go_simp
                exact hK (.bool false) _ HJ.out rfl (fun j y h => h) _ rfl
              · obtain rfl := Option.some.inj ho.symm
                have d3 : V 3 = .bool false := hdep ⟨3, .data⟩ (by simp) rfl
                have d16 : V 16 = .bool false := hdep ⟨16, .data⟩ (by simp) rfl
                clear hdep ho hJ
                try simp only [fill, slotOf, List.size_toArray, List.length_cons, List.length_nil, Nat.reduceAdd, List.getElem?_toArray, List.getElem?_cons_zero, List.getElem?_cons_succ, Option.bind_some, Act.put, List.setIfInBounds_toArray, List.set_cons_zero, List.set_cons_succ] at hK ⊢
                rw [d3, d16] at hK ⊢
                go_simp
                exact hK (.bool false) _ HJ.out rfl (fun j y h => h) _ rfl
            · intro V w9 hJ hall
              have dL : V 17 = .bool false := hall 17 (by decide)
              have HJ9 := Lib.hid hJ
              clear hall hJ
              simp only [fill, slotOf, List.size_toArray, List.length_cons, List.length_nil, Nat.reduceAdd, List.getElem?_toArray, List.getElem?_cons_zero, List.getElem?_cons_succ, Option.bind_some, Act.put, List.setIfInBounds_toArray, List.set_cons_zero, List.set_cons_succ]
              rw [dL]
              clear dL
              have HBZ := Lib.hid (HAL.out.trans (HJ9.out.mono HAL.out.size))
              go_wp2_with fail
              go_roundw
              case rel => exact ⟨j + 1 + 1, by omega, by go_num, HOK2, HBZ⟩
              case measure => simp [intOf]; omega
    · obtain rfl : k = n := by omega
      have HY := Lib.hid (RisIs.yes HOK.out)
      clear hkn
      go_wp2_with fail
      go_ret
      exact ⟨HY.out, HB.out⟩

end Go.Proofs.YtbdgcfimbblncaaGreatDoor
end PkMR11_4
section PkMR11_5
/- Manifests: the document's Entry and Right, walked. Written by genmfqe.py. -/
namespace Go.Proofs.YtbdgcfimbblncaaGreatDoor
open Go.RowKit LabPlain
set_option linter.unusedVariables false


set_option maxRecDepth 100000 in
set_option maxHeartbeats 4000000 in
theorem rentry_any {w : World} (x0 : ByteArray) (x1 : Int) (x2 : ByteArray) (x3 x4 x5 x6 x7 x8 : Int) (h0 : x0.size ≤ 140737488355328) (h2 : x2.size ≤ 1300) :
    Calls Tryz.prog 32 #[.agg #[.string x0, .int .i64 x1, .string x2, .int .i64 x3, .int .i64 x4, .int .i64 x5, .int .i64 x6, .int .u32 x7, .int .i64 x8]] w fun e w' => e = .returned (.bool (entB ⟨x0, x1, x2, x3, x4, x5, x6, x7, x8⟩ (setIn x2).isSome)) ∧ Below w.heap.size w w' := by
  obtain ⟨wa, hwa⟩ : ∃ wa, wa = w.alloc (.cells #[.string x0, .int .i64 x1, .string x2, .int .i64 x3, .int .i64 x4, .int .i64 x5, .int .i64 x6, .int .u32 x7, .int .i64 x8] 53) := ⟨_, rfl⟩
  have ba : Below w.heap.size w wa := by rw [hwa]; exact (Below.refl _ _).alloc (Nat.le_refl _) _
  have ga : wa.heap[w.heap.size]? = some (.cells #[.string x0, .int .i64 x1, .string x2, .int .i64 x3, .int .i64 x4, .int .i64 x5, .int .i64 x6, .int .u32 x7, .int .i64 x8] 53 (0, 0)) := by rw [hwa]; exact heap_alloc_new _ _
  obtain ⟨ok, hok⟩ : ∃ b, b = (setIn x2).isSome := ⟨_, rfl⟩
  have HP := Lib.hid (rparse_any x2 h2 wa)
  rw [← hok] at HP ⊢
  obtain ⟨b1, hb1⟩ : ∃ b, b = keyB x0 := ⟨_, rfl⟩
  have HK := Lib.hid (show ∀ W, Calls Tryz.prog 81 #[.string x0] W fun e w' => e = .returned (.bool b1) ∧ w' = W from fun W => by rw [hb1]; exact rkey_any x0 (by omega) W)
  obtain ⟨b2, hb2⟩ : ∃ b, b = numB x1 0 := ⟨_, rfl⟩
  have HW2 := Lib.hid (show ∀ W, Calls Tryz.prog 30 #[.int .i64 x1, .int .i64 0] W fun e w' => e = .returned (.bool b2) ∧ w' = W from fun W => by rw [hb2]; exact rnum_any _ _ W)
  obtain ⟨b3, hb3⟩ : ∃ b, b = numB x3 0 := ⟨_, rfl⟩
  have HW3 := Lib.hid (show ∀ W, Calls Tryz.prog 30 #[.int .i64 x3, .int .i64 0] W fun e w' => e = .returned (.bool b3) ∧ w' = W from fun W => by rw [hb3]; exact rnum_any _ _ W)
  obtain ⟨b4, hb4⟩ : ∃ b, b = numB x4 0 := ⟨_, rfl⟩
  have HW4 := Lib.hid (show ∀ W, Calls Tryz.prog 30 #[.int .i64 x4, .int .i64 0] W fun e w' => e = .returned (.bool b4) ∧ w' = W from fun W => by rw [hb4]; exact rnum_any _ _ W)
  obtain ⟨b5, hb5⟩ : ∃ b, b = numB x8 0 := ⟨_, rfl⟩
  have HW5 := Lib.hid (show ∀ W, Calls Tryz.prog 30 #[.int .i64 x8, .int .i64 0] W fun e w' => e = .returned (.bool b5) ∧ w' = W from fun W => by rw [hb5]; exact rnum_any _ _ W)
  have HBA := Lib.hid ba
  have HGA := Lib.hid ga
  have HWA := Lib.hid hwa
  have H1 := Lib.hid hb1
  have H2 := Lib.hid hb2
  have H3 := Lib.hid hb3
  have H4 := Lib.hid hb4
  have H5 := Lib.hid hb5
  clear hwa ba ga hok hb1 hb2 hb3 hb4 hb5 h0 h2
  have a2 : wa.cell? ⟨w.heap.size, 2, none⟩ = some (.string x2) := cell_blk' HGA.out rfl
  go_enter Tryz.func32, Tryz.ntmps32
  go_wp2_with fail
  rw [← HWA.out]
  refine HP.out.mono ?_
  rintro e w1 ⟨ap, np, cp, rfl, _, hbl⟩
  have HB1 := Lib.hid (HBA.out.trans (hbl.mono HBA.out.size))
  have HG1 := Lib.hid ((hbl.block w.heap.size (Array.getElem?_eq_some_iff.1 HGA.out).1).trans HGA.out)
  have c0 : w1.cell? ⟨w.heap.size, 0, none⟩ = some (.string x0) := cell_blk' HG1.out rfl
  have c1 : w1.cell? ⟨w.heap.size, 1, none⟩ = some (.int .i64 x1) := cell_blk' HG1.out rfl
  have c2 : w1.cell? ⟨w.heap.size, 2, none⟩ = some (.string x2) := cell_blk' HG1.out rfl
  have c3 : w1.cell? ⟨w.heap.size, 3, none⟩ = some (.int .i64 x3) := cell_blk' HG1.out rfl
  have c4 : w1.cell? ⟨w.heap.size, 4, none⟩ = some (.int .i64 x4) := cell_blk' HG1.out rfl
  have c5 : w1.cell? ⟨w.heap.size, 5, none⟩ = some (.int .i64 x5) := cell_blk' HG1.out rfl
  have c6 : w1.cell? ⟨w.heap.size, 6, none⟩ = some (.int .i64 x6) := cell_blk' HG1.out rfl
  have c7 : w1.cell? ⟨w.heap.size, 7, none⟩ = some (.int .u32 x7) := cell_blk' HG1.out rfl
  have c8 : w1.cell? ⟨w.heap.size, 8, none⟩ = some (.int .i64 x8) := cell_blk' HG1.out rfl
  clear hbl a2
  cases ok with
  | false =>
    have HZ := Lib.hid (show entB ⟨x0, x1, x2, x3, x4, x5, x6, x7, x8⟩ false = false from by
      rw [Bool.eq_false_iff]
      intro h
      simp only [entB, withinB, Bool.and_eq_true, decide_eq_true_eq] at h
      exact absurd h.2.2.1 (by simp))
    go_wp2_with fail
    go_ret
    exact ⟨by rw [HZ.out]; rfl, HB1.out⟩
  | true =>
  go_wp2_with fail
  refine (HK.out _).mono ?_
  rintro e w2 ⟨rfl, rfl⟩
  cases b1 with
  | false =>
    have HZ := Lib.hid (show entB ⟨x0, x1, x2, x3, x4, x5, x6, x7, x8⟩ true = false from by
      rw [Bool.eq_false_iff]
      intro h
      simp only [entB, withinB, Bool.and_eq_true, decide_eq_true_eq] at h
      have := H1.out; rw [h.1] at this; cases this)
    go_wp2_with fail
    go_ret
    exact ⟨by rw [HZ.out]; rfl, HB1.out⟩
  | true =>
  go_wp2_with fail
  refine (HW2.out _).mono ?_
  rintro e w2 ⟨rfl, rfl⟩
  cases b2 with
  | false =>
    have HZ := Lib.hid (show entB ⟨x0, x1, x2, x3, x4, x5, x6, x7, x8⟩ true = false from by
      rw [Bool.eq_false_iff]
      intro h
      simp only [entB, withinB, Bool.and_eq_true, decide_eq_true_eq] at h
      have q := H2.out.symm; simp only [numB, Bool.and_eq_false_iff, decide_eq_false_iff_not] at q; omega)
    go_wp2_with fail
    go_ret
    exact ⟨by rw [HZ.out]; rfl, HB1.out⟩
  | true =>
  go_wp2_with fail
  refine (HW3.out _).mono ?_
  rintro e w2 ⟨rfl, rfl⟩
  cases b3 with
  | false =>
    have HZ := Lib.hid (show entB ⟨x0, x1, x2, x3, x4, x5, x6, x7, x8⟩ true = false from by
      rw [Bool.eq_false_iff]
      intro h
      simp only [entB, withinB, Bool.and_eq_true, decide_eq_true_eq] at h
      have q := H3.out.symm; simp only [numB, Bool.and_eq_false_iff, decide_eq_false_iff_not] at q; omega)
    go_wp2_with fail
    go_ret
    exact ⟨by rw [HZ.out]; rfl, HB1.out⟩
  | true =>
  go_wp2_with fail
  refine (HW4.out _).mono ?_
  rintro e w2 ⟨rfl, rfl⟩
  cases b4 with
  | false =>
    have HZ := Lib.hid (show entB ⟨x0, x1, x2, x3, x4, x5, x6, x7, x8⟩ true = false from by
      rw [Bool.eq_false_iff]
      intro h
      simp only [entB, withinB, Bool.and_eq_true, decide_eq_true_eq] at h
      have q := H4.out.symm; simp only [numB, Bool.and_eq_false_iff, decide_eq_false_iff_not] at q; omega)
    go_wp2_with fail
    go_ret
    exact ⟨by rw [HZ.out]; rfl, HB1.out⟩
  | true =>
  by_cases g1 : x3 > x4
  · have HZ := Lib.hid (show entB ⟨x0, x1, x2, x3, x4, x5, x6, x7, x8⟩ true = false from by
      rw [Bool.eq_false_iff]
      intro h
      simp only [entB, withinB, Bool.and_eq_true, decide_eq_true_eq] at h
      omega)
    go_wp2_with fail
    go_ret
    exact ⟨by rw [HZ.out]; rfl, HB1.out⟩
  by_cases g2 : x5 ≥ 1
  case neg =>
    have HZ := Lib.hid (show entB ⟨x0, x1, x2, x3, x4, x5, x6, x7, x8⟩ true = false from by
      rw [Bool.eq_false_iff]
      intro h
      simp only [entB, withinB, Bool.and_eq_true, decide_eq_true_eq] at h
      omega)
    go_wp2_with fail
    go_ret
    exact ⟨by rw [HZ.out]; rfl, HB1.out⟩
  by_cases g3 : x5 ≤ 2048
  case neg =>
    have HZ := Lib.hid (show entB ⟨x0, x1, x2, x3, x4, x5, x6, x7, x8⟩ true = false from by
      rw [Bool.eq_false_iff]
      intro h
      simp only [entB, withinB, Bool.and_eq_true, decide_eq_true_eq] at h
      omega)
    go_wp2_with fail
    go_ret
    exact ⟨by rw [HZ.out]; rfl, HB1.out⟩
  by_cases g4 : x6 ≥ 1
  case neg =>
    have HZ := Lib.hid (show entB ⟨x0, x1, x2, x3, x4, x5, x6, x7, x8⟩ true = false from by
      rw [Bool.eq_false_iff]
      intro h
      simp only [entB, withinB, Bool.and_eq_true, decide_eq_true_eq] at h
      omega)
    go_wp2_with fail
    go_ret
    exact ⟨by rw [HZ.out]; rfl, HB1.out⟩
  by_cases g5 : x6 ≤ 262144
  case neg =>
    have HZ := Lib.hid (show entB ⟨x0, x1, x2, x3, x4, x5, x6, x7, x8⟩ true = false from by
      rw [Bool.eq_false_iff]
      intro h
      simp only [entB, withinB, Bool.and_eq_true, decide_eq_true_eq] at h
      omega)
    go_wp2_with fail
    go_ret
    exact ⟨by rw [HZ.out]; rfl, HB1.out⟩
  go_wp2_with fail
  refine (HW5.out _).mono ?_
  rintro e w2 ⟨rfl, rfl⟩
  cases b5 with
  | false =>
    have HZ := Lib.hid (show entB ⟨x0, x1, x2, x3, x4, x5, x6, x7, x8⟩ true = false from by
      rw [Bool.eq_false_iff]
      intro h
      simp only [entB, withinB, Bool.and_eq_true, decide_eq_true_eq] at h
      have q := H5.out.symm; simp only [numB, Bool.and_eq_false_iff, decide_eq_false_iff_not] at q; omega)
    go_wp2_with fail
    go_ret
    exact ⟨by rw [HZ.out]; rfl, HB1.out⟩
  | true =>
    have HZ := Lib.hid (show entB ⟨x0, x1, x2, x3, x4, x5, x6, x7, x8⟩ true = true from by
      have q1 := H1.out.symm
      have q2 := H2.out.symm
      have q3 := H3.out.symm
      have q4 := H4.out.symm
      have q5 := H5.out.symm
      simp only [numB, Bool.and_eq_true, decide_eq_true_eq] at q2 q3 q4 q5
      simp only [entB, withinB, Bool.and_eq_true, decide_eq_true_eq]
      refine ⟨q1, ⟨?_, ?_⟩, trivial, ?_, ?_, ?_, ⟨?_, ?_⟩, ⟨?_, ?_⟩, ⟨?_, ?_⟩⟩ <;> omega)
    go_wp2_with fail
    go_ret
    exact ⟨by rw [HZ.out]; rfl, HB1.out⟩
end Go.Proofs.YtbdgcfimbblncaaGreatDoor
end PkMR11_5
