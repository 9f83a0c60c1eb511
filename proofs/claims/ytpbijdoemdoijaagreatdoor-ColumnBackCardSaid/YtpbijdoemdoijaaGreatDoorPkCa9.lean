/- Texts put together by packtpl2.py: Cur. -/
import Derived.Test.YtpbijdoemdoijaaGreatDoorPkCa1
import Derived.Test.YtpbijdoemdoijaaGreatDoorPkCa8
import Derived.WalkSpells
import Derived.Deep.RegionHeld3
section PkCa9_0
/- A cursor of package nums, walked, for seats beside stage 1's. (Written by catcur.py out of XNumsCur, XNumsCur2, XNumsCur3.) -/
namespace Go.Proofs.YtpbijdoemdoijaaGreatDoor
open Go.RowKit NumsPlain
set_option linter.unusedVariables false

/-- a cursor's block: the bytes, the place, the error -/
structure CurAt (T : TypeId) (w : World) (B : Nat) (a : Option Addr) (n c : Nat) (xs : List Nat) (i e : Nat) : Prop where
  blk : w.heap[B]? = some (.cells #[.slice a n c, .int .i64 (i : Int), .int .i64 (e : Int)] T (0, 0))
  src : BytesAt w a n c xs
  apart : ∀ b off s, 0 < n → a = some ⟨b, off, s⟩ → b ≠ B
  le : i ≤ n

theorem CurAt.c0 {T : TypeId} {w : World} {B : Nat} {a : Option Addr} {n c : Nat} {xs : List Nat} {i e : Nat} (h : CurAt T w B a n c xs i e) : w.cell? ⟨B, 0, none⟩ = some (.slice a n c) := by
  rw [cell_of_row w B 0 _ T (0, 0) h.blk]; rfl
theorem CurAt.c1 {T : TypeId} {w : World} {B : Nat} {a : Option Addr} {n c : Nat} {xs : List Nat} {i e : Nat} (h : CurAt T w B a n c xs i e) : w.cell? ⟨B, 1, none⟩ = some (.int .i64 (i : Int)) := by
  rw [cell_of_row w B 1 _ T (0, 0) h.blk]; rfl
theorem CurAt.c2 {T : TypeId} {w : World} {B : Nat} {a : Option Addr} {n c : Nat} {xs : List Nat} {i e : Nat} (h : CurAt T w B a n c xs i e) : w.cell? ⟨B, 2, none⟩ = some (.int .i64 (e : Int)) := by
  rw [cell_of_row w B 2 _ T (0, 0) h.blk]; rfl
theorem CurAt.f {T : TypeId} {w : World} {B : Nat} {a : Option Addr} {n c : Nat} {xs : List Nat} {i e : Nat} (h : CurAt T w B a n c xs i e) (j : Nat) : w.frozen? ⟨B, j, none⟩ = false := frozen_of_row w B j _ T h.blk

set_option maxHeartbeats 400000 in
theorem reads_yes {w : World} {B : Nat} {a : Option Addr} {n c : Nat} {xs : List Nat} {i : Nat} (h : CurAt 155 w B a n c xs i 0) :
    Calls Tryz.prog 137 #[.pointer (some ⟨B, 0, none⟩)] w fun e w' => e = .returned (.bool true) ∧ w = w' := by
  have h2 := h.c2
  clear h
  go_enter Tryz.func137, Tryz.ntmps137
  go_wp2_with fail
  go_ret
  exact ⟨rfl, rfl⟩
set_option maxHeartbeats 400000 in
theorem reads_no {w : World} {B : Nat} {a : Option Addr} {n c : Nat} {xs : List Nat} {i e : Nat} (h : CurAt 155 w B a n c xs i e) (he : e ≠ 0) :
    Calls Tryz.prog 137 #[.pointer (some ⟨B, 0, none⟩)] w fun e w' => e = .returned (.bool false) ∧ w = w' := by
  have h2 := h.c2
  have z : ((e : Int) == 0) = false := by rw [beq_eq_false_iff_ne]; omega
  clear h
  go_enter Tryz.func137, Tryz.ntmps137
  go_wp2_with fail
  go_ret
  exact ⟨rfl, rfl⟩
set_option maxHeartbeats 400000 in
theorem reads_nil (w : World) :
    Calls Tryz.prog 137 #[.pointer none] w fun e w' => e = .returned (.bool false) ∧ w = w' := by
  go_enter Tryz.func137, Tryz.ntmps137
  go_wp2_with fail
  go_ret
  exact ⟨rfl, rfl⟩

theorem ru_count {xs : List Nat} {i v j : Nat} (hb : ∀ x ∈ xs, x < 256) (h : ru xs (i : Int) = (v, j, 0)) : i + j ≤ xs.length ∨ xs.length < i := by
  rw [ru_nat] at h
  obtain ⟨k, m, rfl, hk, _, _, _⟩ := uu_conv (xs.drop i) 0 0 v j (fun x hx => hb x (List.mem_of_mem_drop hx)) h
  rw [List.length_drop] at hk
  omega

/-- what reading a number makes of the place and the error: the value, the place, the error -/
def cu (xs : List Nat) (i e : Nat) : Nat × Nat × Nat :=
  if e = 0 then (if (ru xs (i : Int)).2.2 = 0 then ((ru xs (i : Int)).1, i + (ru xs (i : Int)).2.1, 0) else (0, i, (ru xs (i : Int)).2.2)) else (0, i, e)

theorem CurAt.set1 {T : TypeId} {w : World} {B : Nat} {a : Option Addr} {n c : Nat} {xs : List Nat} {i e : Nat} (h : CurAt T w B a n c xs i e) (j : Nat) (hj : j ≤ n) :
    CurAt T (w.setCell ⟨B, 1, none⟩ (.int .i64 (j : Int))) B a n c xs j e ∧ w.grownBy (w.setCell ⟨B, 1, none⟩ (.int .i64 (j : Int))) (some B) := by
  have hg : w.grownBy (w.setCell ⟨B, 1, none⟩ (.int .i64 (j : Int))) (some B) := ⟨rfl, rfl, rfl, by simp, fun k _ hk => heap_setCell_other w ⟨B, 1, none⟩ k _ (fun e => hk (by simp [e]))⟩
  refine ⟨⟨?_, ?_, h.apart, hj⟩, hg⟩
  · rw [heap_setCell_same w B 1 _ T _ h.blk]; rfl
  · exact ⟨h.src.len, h.src.cap, h.src.byte, h.src.reach, h.src.capm, h.src.nl, fun hp => by
      obtain ⟨b, off, ha, hlt, hc⟩ := h.src.cells hp
      exact ⟨b, off, ha, Nat.lt_of_lt_of_le hlt hg.size, fun k hk => hg.cell (hc k hk) (fun e => h.apart b off _ hp ha (Option.some.inj e))⟩⟩
theorem CurAt.set2 {T : TypeId} {w : World} {B : Nat} {a : Option Addr} {n c : Nat} {xs : List Nat} {i e : Nat} (h : CurAt T w B a n c xs i e) (j : Nat) :
    CurAt T (w.setCell ⟨B, 2, none⟩ (.int .i64 (j : Int))) B a n c xs i j ∧ w.grownBy (w.setCell ⟨B, 2, none⟩ (.int .i64 (j : Int))) (some B) := by
  have hg : w.grownBy (w.setCell ⟨B, 2, none⟩ (.int .i64 (j : Int))) (some B) := ⟨rfl, rfl, rfl, by simp, fun k _ hk => heap_setCell_other w ⟨B, 2, none⟩ k _ (fun e => hk (by simp [e]))⟩
  refine ⟨⟨?_, ?_, h.apart, h.le⟩, hg⟩
  · rw [heap_setCell_same w B 2 _ T _ h.blk]; rfl
  · exact ⟨h.src.len, h.src.cap, h.src.byte, h.src.reach, h.src.capm, h.src.nl, fun hp => by
      obtain ⟨b, off, ha, hlt, hc⟩ := h.src.cells hp
      exact ⟨b, off, ha, Nat.lt_of_lt_of_le hlt hg.size, fun k hk => hg.cell (hc k hk) (fun e => h.apart b off _ hp ha (Option.some.inj e))⟩⟩
theorem CurAt.drewN {T : TypeId} {w : World} {B : Nat} {a : Option Addr} {n c : Nat} {xs : List Nat} {i e : Nat} (h : CurAt T w B a n c xs i e) (k : Nat) : CurAt T (w.drewN k) B a n c xs i e :=
  ⟨h.blk, h.src.drewN k, h.apart, h.le⟩
set_option maxRecDepth 100000 in
set_option maxHeartbeats 1000000 in
theorem cu_any {w : World} {B : Nat} {a : Option Addr} {n c : Nat} {xs : List Nat} {i e : Nat} (h : CurAt 155 w B a n c xs i e) :
    Calls Tryz.prog 167 #[.pointer (some ⟨B, 0, none⟩)] w fun r w' => r = .returned (.int .u64 ((cu xs i e).1 : Int)) ∧ CurAt 155 w' B a n c xs (cu xs i e).2.1 (cu xs i e).2.2 ∧ w.grownBy w' (some B) := by
  by_cases he : e = 0
  · subst he
    have hr := reads_yes h
    have HR := Lib.hid hr
    have HH := Lib.hid h
    have h0 := h.c0
    have h1 := h.c1
    have h2 := h.c2
    have f1 := h.f 1
    have f2 := h.f 2
    have hin := h.le
    have hnr := h.src.reach
    have hu : ∀ k, Calls Tryz.prog 128 #[.slice a n c, .int .i64 (i : Int)] (w.drewN k) fun e w' => e = .returned (ruV (ru xs i)) ∧ w' = w.drewN k := fun k => (u_any (h.src.drewN k) i).mono fun e w' h => ⟨h.1, h.2.symm⟩
    obtain ⟨v, hv⟩ : ∃ u, u = (ru xs (i : Int)).1 := ⟨_, rfl⟩
    obtain ⟨j, hj⟩ : ∃ m, m = (ru xs (i : Int)).2.1 := ⟨_, rfl⟩
    obtain ⟨f, hf⟩ : ∃ f, f = (ru xs (i : Int)).2.2 := ⟨_, rfl⟩
    have hV : ruV (ru xs (i : Int)) = .tuple #[.int .u64 (v : Int), .int .i64 (j : Int), .int .i64 (f : Int)] := by unfold ruV; rw [hv, hj, hf]
    have hE : ru xs (i : Int) = (v, j, f) := by rw [hv, hj, hf]
    rw [hV] at hu
    have HU := Lib.hid hu
    have HV := Lib.hid hV
    have HE := Lib.hid hE
    clear hr h hu hv hj hf hV hE
    go_enter Tryz.func167, Tryz.ntmps167
    go_wp2_with fail
    refine HR.out.mono ?_
    rintro e w' ⟨rfl, rfl⟩
    go_wp2_with fail
    go_quiet ((go_at_call 128; exact Calls.quiet_of_same (HU.out _)))
    by_cases hf0 : f = 0
    · subst hf0
      have hcnt := ru_count HH.out.src.byte HE.out
      rw [HH.out.src.len] at hcnt
      have hij : i + j ≤ n := by omega
      have hc : cu xs i 0 = (v, i + j, 0) := by unfold cu; rw [HE.out]; rfl
      have HC := Lib.hid hc
      clear hc hcnt
      go_wp2_with fail
      go_ret
      rw [HC.out]
      obtain ⟨hs, hg⟩ := (HH.out.drewN _).set1 (i + j) hij
      exact ⟨rfl, hs, (grown_drewN _ _ _).trans' hg⟩
    · have z0 : ((f : Int) != 0) = true := by rw [bne_iff_ne]; omega
      have hc : cu xs i 0 = (0, i, f) := by unfold cu; rw [HE.out, if_pos rfl, if_neg hf0]
      have HC := Lib.hid hc
      clear hc hf0
      go_wp2_with fail
      go_ret
      rw [HC.out]
      obtain ⟨hs, hg⟩ := (HH.out.drewN _).set2 f
      exact ⟨rfl, hs, (grown_drewN _ _ _).trans' hg⟩
  · have hr := reads_no h he
    have HR := Lib.hid hr
    have hc : cu xs i e = (0, i, e) := by unfold cu; rw [if_neg he]
    have HC := Lib.hid hc
    have HH := Lib.hid h
    clear hr h hc he
    go_enter Tryz.func167, Tryz.ntmps167
    go_wp2_with fail
    refine HR.out.mono ?_
    rintro e w' ⟨rfl, rfl⟩
    go_wp2_with fail
    go_ret
    rw [HC.out]
    exact ⟨rfl, HH.out, World.grownBy.refl _ _⟩


set_option maxRecDepth 100000 in
set_option maxHeartbeats 1000000 in
theorem new_any {a : Option Addr} {n c : Nat} {xs : List Nat} {w : World} (h : BytesAt w a n c xs) :
    Calls Tryz.prog 92 #[.slice a n c] w fun e w' => ∃ B a' c', e = .returned (.pointer (some ⟨B, 0, none⟩)) ∧ CurAt 155 w' B a' n c' xs 0 0 ∧ Below w.heap.size w w' ∧ w.heap.size ≤ B ∧ (∀ b off s, a' = some ⟨b, off, s⟩ → w.heap.size ≤ b) := by
  have hc := clone_any h
  have HC := Lib.hid hc
  clear hc h
  go_enter Tryz.func92, Tryz.ntmps92
  go_wp2_with fail
  refine HC.out.mono ?_
  rintro e w1 ⟨a', c', rfl, hb1, hbel, hfresh⟩
  have HB := Lib.hid hb1
  clear hb1
  go_wp2_with fail
  go_ret
  refine ⟨w1.heap.size, a', c', rfl, ⟨?_, HB.out.alloc _, ?_, Nat.zero_le _⟩, hbel.alloc hbel.size _, hbel.size, hfresh⟩
  · exact heap_alloc_new w1 _
  · intro b off s hp ha
    obtain ⟨b', off', ha', hlt, _⟩ := HB.out.cells hp
    rw [ha] at ha'
    cases ha'
    omega

set_option maxHeartbeats 400000 in
theorem at_any {w : World} {B : Nat} {a : Option Addr} {n c : Nat} {xs : List Nat} {i e : Nat} (h : CurAt 155 w B a n c xs i e) :
    Calls Tryz.prog 100 #[.pointer (some ⟨B, 0, none⟩)] w fun e w' => e = .returned (.int .i64 (i : Int)) ∧ w = w' := by
  have h1 := h.c1
  clear h
  go_enter Tryz.func100, Tryz.ntmps100
  go_wp2_with fail
  go_ret
  exact ⟨rfl, rfl⟩

/-- what the end answers -/
def cend (n i e : Nat) : Nat := if e = 0 then (if i < n then 5 else 0) else e

set_option maxHeartbeats 400000 in
theorem end_any {w : World} {B : Nat} {a : Option Addr} {n c : Nat} {xs : List Nat} {i e : Nat} (h : CurAt 155 w B a n c xs i e) :
    Calls Tryz.prog 125 #[.pointer (some ⟨B, 0, none⟩)] w fun r w' => r = .returned (.int .i64 (cend n i e : Int)) ∧ ∃ q, w' = w.drewN q := by
  have h0 := h.c0
  have h1 := h.c1
  have h2 := h.c2
  clear h
  by_cases he : e = 0
  · subst he
    by_cases hi : i < n
    · have HE := Lib.hid (show cend n i 0 = 5 from by unfold cend; rw [if_pos rfl, if_pos hi])
      have hi' : (i : Int) < (n : Int) := by omega
      go_enter Tryz.func125, Tryz.ntmps125
      go_wp2_with fail
      go_quiet (fail)
      go_wp2_with fail
      go_ret
      exact ⟨by rw [HE.out]; rfl, _, rfl⟩
    · have HE := Lib.hid (show cend n i 0 = 0 from by unfold cend; rw [if_pos rfl, if_neg hi])
      have hi' : ¬ (i : Int) < (n : Int) := by omega
      go_enter Tryz.func125, Tryz.ntmps125
      go_wp2_with fail
      go_quiet (fail)
      go_wp2_with fail
      go_ret
      exact ⟨by rw [HE.out]; rfl, _, rfl⟩
  · have HE := Lib.hid (show cend n i e = e from by unfold cend; rw [if_neg he])
    have z : ((e : Int) != 0) = true := by rw [bne_iff_ne]; omega
    clear he
    go_enter Tryz.func125, Tryz.ntmps125
    go_wp2_with fail
    go_ret
    exact ⟨by rw [HE.out]; rfl, 0, rfl⟩


theorem cu_lt (xs : List Nat) (i e : Nat) : (cu xs i e).1 < 18446744073709551616 := by
  unfold cu
  split
  · split
    · exact ru_lt xs _
    · simp
  · simp
theorem cu_zero {xs : List Nat} {i e : Nat} (h : (cu xs i e).2.2 ≠ 0) : (cu xs i e).1 = 0 ∧ (cu xs i e).2.1 = i := by
  revert h
  unfold cu
  split
  · split
    · simp
    · simp
  · simp


/-- what reading a number up to most makes: the number, the place, the error -/
def ccn (xs : List Nat) (i e : Nat) (most : Int) (above : Nat) : Nat × Nat × Nat :=
  if e ≠ 0 then (0, i, e) else if (cu xs i 0).2.2 ≠ 0 then (0, i, (cu xs i 0).2.2) else if most < 0 ∨ most < ((cu xs i 0).1 : Int) then (0, i, above) else cu xs i 0

set_option maxRecDepth 100000 in
set_option maxHeartbeats 2000000 in
theorem cn_any {w : World} {B : Nat} {a : Option Addr} {n c : Nat} {xs : List Nat} {i e : Nat} (h : CurAt 155 w B a n c xs i e) (most : Int) (hmlo : -9223372036854775808 ≤ most) (hmhi : most ≤ 9223372036854775807) (above : Nat) :
    Calls Tryz.prog 136 #[.pointer (some ⟨B, 0, none⟩), .int .i64 most, .int .i64 (above : Int)] w fun r w' => r = .returned (.int .i64 ((ccn xs i e most above).1 : Int)) ∧ CurAt 155 w' B a n c xs (ccn xs i e most above).2.1 (ccn xs i e most above).2.2 ∧ w.grownBy w' (some B) := by
  by_cases he : e = 0
  · subst he
    have hr := reads_yes h
    have h1 := h.c1
    have HU := Lib.hid (cu_any h)
    have HR := Lib.hid hr
    have HH := Lib.hid h
    obtain ⟨v, hv⟩ : ∃ u, u = (cu xs i 0).1 := ⟨_, rfl⟩
    obtain ⟨j, hj⟩ : ∃ m, m = (cu xs i 0).2.1 := ⟨_, rfl⟩
    obtain ⟨f, hf⟩ : ∃ f, f = (cu xs i 0).2.2 := ⟨_, rfl⟩
    have hvl : v < 18446744073709551616 := by rw [hv]; exact cu_lt xs i 0
    have hz : f ≠ 0 → v = 0 ∧ j = i := by rw [hf, hv, hj]; exact cu_zero
    have HV := Lib.hid hv
    have HJ := Lib.hid hj
    have HF := Lib.hid hf
    have HZ := Lib.hid hz
    have HVL := Lib.hid hvl
    have HM1 := Lib.hid hmlo
    have HM2 := Lib.hid hmhi
    clear h hr hv hj hf hz hvl hmlo hmhi
    go_enter Tryz.func136, Tryz.ntmps136
    go_wp2_with fail
    refine HR.out.mono ?_
    rintro r w' ⟨rfl, rfl⟩
    go_wp2_with fail
    refine HU.out.mono ?_
    rintro r w1 ⟨rfl, hc1, hg1⟩
    rw [← HV.out]
    rw [← HJ.out, ← HF.out] at hc1
    have g1 := hc1.c1
    have g2 := hc1.c2
    have gf1 := hc1.f 1
    have gf2 := hc1.f 2
    have HC1 := Lib.hid hc1
    have HG1 := Lib.hid hg1
    clear hc1 hg1
    by_cases hf0 : f = 0
    · subst hf0
      by_cases hm : most < 0 ∨ most < (v : Int)
      · have hcn : ccn xs i 0 most above = (0, i, above) := by unfold ccn; rw [if_neg (by omega), if_neg (by rw [← HF.out]; simp), if_pos (by rw [← HV.out]; exact hm)]
        have HCN := Lib.hid hcn
        have HMM := Lib.hid hm
        obtain ⟨s1, t1⟩ := HC1.out.set1 i HH.out.le
        obtain ⟨s2, t2⟩ := s1.set2 above
        have HS := Lib.hid s2
        have HT := Lib.hid (HG1.out.trans' (t1.trans' t2))
        clear hcn s1 t1 s2 t2 hm
        by_cases hneg : most < 0
        · have d1 : decide (most < 0) = true := by simp; omega
          go_wp2_with fail
          go_ret
          rw [HCN.out]
          exact ⟨rfl, HS.out, HT.out⟩
        · have hmv : most < (v : Int) := HMM.out.resolve_left hneg
          have e3 : IntKind.u64.wrap most = most := by rw [IntKind.wrap_u64]; have := HM2.out; omega
          go_wp2_with fail
          go_ret
          rw [HCN.out]
          exact ⟨rfl, HS.out, HT.out⟩
      · have hcn : ccn xs i 0 most above = (v, j, 0) := by
          unfold ccn; rw [if_neg (by omega), if_neg (by rw [← HF.out]; simp), if_neg (by rw [← HV.out]; exact hm)]
          exact Prod.ext HV.out.symm (Prod.ext HJ.out.symm HF.out.symm)
        have HCN := Lib.hid hcn
        have hneg : ¬ most < 0 := fun h => hm (Or.inl h)
        have hmv : (v : Int) ≤ most := by have h2 : ¬ most < (v : Int) := fun h => hm (Or.inr h); omega
        have e3 : IntKind.u64.wrap most = most := by rw [IntKind.wrap_u64]; have := HM2.out; omega
        have e4 : wrap64 (v : Int) = (v : Int) := by unfold wrap64; have := HM2.out; omega
        have hv63 : (v : Int) ≤ 9223372036854775807 := by have := HM2.out; omega
        clear hcn hm
        go_wp2_with fail
        go_ret
        rw [HCN.out]
        exact ⟨rfl, HC1.out, HG1.out⟩
    · obtain ⟨hv0, hji⟩ := HZ.out hf0
      have hcn : ccn xs i 0 most above = (0, i, f) := by unfold ccn; rw [if_neg (by omega), if_pos (by rw [← HF.out]; exact hf0), HF.out]
      have HCN := Lib.hid hcn
      have z0 : ((f : Int) == 0) = false := by rw [beq_eq_false_iff_ne]; omega
      have HJI := Lib.hid hji
      clear hcn hji
      subst hv0
      clear hf0
      go_wp2_with fail
      go_ret
      rw [HCN.out]
      exact ⟨rfl, by rw [← HJI.out]; exact HC1.out, HG1.out⟩
  · have hr := reads_no h he
    have HR := Lib.hid hr
    have hc : ccn xs i e most above = (0, i, e) := by unfold ccn; rw [if_pos he]
    have HC := Lib.hid hc
    have HH := Lib.hid h
    clear hr h hc he
    go_enter Tryz.func136, Tryz.ntmps136
    go_wp2_with fail
    refine HR.out.mono ?_
    rintro r w' ⟨rfl, rfl⟩
    go_wp2_with fail
    go_ret
    rw [HC.out]
    exact ⟨rfl, HH.out, World.grownBy.refl _ _⟩

set_option maxHeartbeats 1000000 in
theorem cnum_any {w : World} {B : Nat} {a : Option Addr} {n c : Nat} {xs : List Nat} {i e : Nat} (h : CurAt 155 w B a n c xs i e) (most : Int) (hmlo : -9223372036854775808 ≤ most) (hmhi : most ≤ 9223372036854775807) :
    Calls Tryz.prog 93 #[.pointer (some ⟨B, 0, none⟩), .int .i64 most] w fun r w' => r = .returned (.int .i64 ((ccn xs i e most 2).1 : Int)) ∧ CurAt 155 w' B a n c xs (ccn xs i e most 2).2.1 (ccn xs i e most 2).2.2 ∧ w.grownBy w' (some B) := by
  have H1 := Lib.hid (cn_any h most hmlo hmhi 2)
  clear h hmlo hmhi
  go_enter Tryz.func93, Tryz.ntmps93
  go_wp2_with fail
  refine H1.out.mono ?_
  rintro r w1 ⟨rfl, hc, hg⟩
  have HC := Lib.hid hc
  have HG := Lib.hid hg
  clear hc hg
  go_wp2_with fail
  go_ret
  exact ⟨rfl, HC.out, HG.out⟩

theorem BytesAt.sub {w : World} {b off n c : Nat} {xs : List Nat} (h : BytesAt w (some ⟨b, off, none⟩) n c xs) (i m : Nat) (him : i + m ≤ n) (hm : 0 < m) : BytesAt w (some ⟨b, off + i, none⟩) m (c - i) ((xs.drop i).take m) := by
  have hl := h.len
  have hc := h.cap
  have hr := h.reach
  have hcm := h.capm
  refine ⟨by simp; omega, by omega, fun x hx => h.byte x (List.mem_of_mem_drop (List.mem_of_mem_take hx)), by omega, by omega, (fun e => by cases e), fun _ => ?_⟩
  obtain ⟨b', off', ha, hlt, hcell⟩ := h.cells (by omega)
  cases ha
  refine ⟨b, off + i, rfl, hlt, fun k hk => ?_⟩
  rw [Nat.add_assoc, hcell (i + k) (by omega)]
  have e : ((xs.drop i).take m).getD k 0 = xs.getD (i + k) 0 := by
    simp [List.getD, hk]
  rw [e]

theorem BytesAt.subAny {w : World} {a : Option Addr} {n c : Nat} {xs : List Nat} (h : BytesAt w a n c xs) (i m : Nat) (him : i + m ≤ n) : BytesAt w (if c = i then a else a.map (·.add i)) m (c - i) ((xs.drop i).take m) := by
  have hc := h.cap
  have hcm := h.capm
  rcases Nat.eq_zero_or_pos m with h0 | hp
  · subst h0
    rw [List.take_zero]
    refine BytesAt.empty _ _ _ (by omega) (fun e => ?_)
    split at e
    · omega
    · have hn : a = none := by cases a with | none => rfl | some _ => simp at e
      have := h.nl hn
      omega
  · obtain ⟨b, off, rfl, _, _⟩ := h.cells (by omega)
    rw [if_neg (by omega)]
    have h4 : (⟨b, off, none⟩ : Addr).add i = ⟨b, off + i, none⟩ := by unfold Addr.add; split <;> simp_all
    simp only [Option.map_some, h4]
    exact h.sub i m him hp
theorem size_u8 (w : World) : (Go.sizeOf 5).run Tryz.prog w = .ok 1 w := by kernel_rfl
set_option maxRecDepth 100000 in
theorem slice_run (a : Option Addr) (n c i m : Nat) (him : i + m ≤ c) (w : World) :
    (Instr.slice 27 (.slice a n c) (some (.int .i64 (i : Int))) (some (.int .i64 ((i : Int) + (m : Int)))) none).run Tryz.prog w = .ok (.slice (if c = i then a else a.map (·.add i)) m (c - i)) w := by
  have ht' : Tryz.prog.underlying 27 = some (.slice (Tryz.prog.elem 27)) := by simp [Program.elem, Tryz.underlying27]
  have he : Tryz.prog.elem 27 = 5 := by simp [Program.elem, Tryz.underlying27]
  rw [run_slice_lh w 27 _ _ _ ht' .i64 .i64 _ _ (by omega) (by omega) (by omega), he, size_u8]
  have e1 : ((i : Int) + (m : Int)).toNat = i + m := by omega
  simp only [Result.andThen, sliced, Int.toNat_natCast, e1, Nat.mul_one]
  congr 2
  omega

theorem CurAt.lt {T : TypeId} {w : World} {B : Nat} {a : Option Addr} {n c : Nat} {xs : List Nat} {i e : Nat} (h : CurAt T w B a n c xs i e) : B < w.heap.size := (Array.getElem?_eq_some_iff.1 h.blk).1
theorem CurAt.keptB {T : TypeId} {w w' : World} {B : Nat} {a : Option Addr} {n c : Nat} {xs : List Nat} {i e : Nat} (h : CurAt T w B a n c xs i e) (hb : Below w.heap.size w w') : CurAt T w' B a n c xs i e :=
  ⟨(hb.block B h.lt).trans h.blk, h.src.kept hb, h.apart, h.le⟩
theorem below_grown {w w' : World} (hb : Below w.heap.size w w') (r : Option Nat) : w.grownBy w' r := ⟨hb.os, hb.tape, hb.output, hb.size, fun k hk _ => hb.block k hk⟩
theorem grown_drew (w : World) (r : Option Nat) : w.grownBy w.drew r := ⟨rfl, rfl, rfl, Nat.le_refl _, fun _ _ _ => rfl⟩
theorem CurAt.drew {T : TypeId} {w : World} {B : Nat} {a : Option Addr} {n c : Nat} {xs : List Nat} {i e : Nat} (h : CurAt T w B a n c xs i e) : CurAt T w.drew B a n c xs i e := ⟨h.blk, h.src.drew, h.apart, h.le⟩

/-- what taking n bytes makes: the bytes, the place, the error -/
def cb (xs : List Nat) (i e : Nat) (k : Int) : List Nat × Nat × Nat :=
  if e ≠ 0 then ([], i, e) else if k < 0 ∨ ((xs.length - i : Nat) : Int) < k then ([], i, 3) else ((xs.drop i).take k.toNat, i + k.toNat, 0)

set_option maxRecDepth 100000 in
set_option maxHeartbeats 4000000 in
theorem cb_any {w : World} {B : Nat} {a : Option Addr} {n c : Nat} {xs : List Nat} {i e : Nat} (h : CurAt 155 w B a n c xs i e) (k : Int) (hmlo : -9223372036854775808 ≤ k) (hmhi : k ≤ 9223372036854775807) :
    Calls Tryz.prog 98 #[.pointer (some ⟨B, 0, none⟩), .int .i64 k] w fun r w' => (∃ a' c', r = .returned (.slice a' (cb xs i e k).1.length c') ∧ BytesAt w' a' (cb xs i e k).1.length c' (cb xs i e k).1) ∧ CurAt 155 w' B a n c xs (cb xs i e k).2.1 (cb xs i e k).2.2 ∧ w.grownBy w' (some B) := by
  have hempty : ∀ w, BytesAt w none 0 0 [] := fun w => BytesAt.empty w none 0 (by omega) (fun _ => rfl)
  have HEM := Lib.hid hempty
  clear hempty
  by_cases he : e = 0
  · subst he
    have HR := Lib.hid (reads_yes h)
    have h0 := h.c0
    have h1 := h.c1
    have h2 := h.c2
    have f1 := h.f 1
    have f2 := h.f 2
    have hle := h.le
    have hlen := h.src.len
    have hnr := h.src.reach
    have hcap := h.src.cap
    have hcm := h.src.capm
    have HH := Lib.hid h
    have HLEN := Lib.hid hlen
    have e1 : IntKind.i64.wrap ((n : Int) - (i : Int)) = (n : Int) - (i : Int) := IntWalk.i64_in _ (by omega)
    clear h hlen
    by_cases hneg : k < 0
    · have hc : cb xs i 0 k = ([], i, 3) := by unfold cb; rw [if_neg (by omega), if_pos (Or.inl hneg)]
      have HC := Lib.hid hc
      have d1 : decide (k < 0) = true := by simp; omega
      clear hc
      go_enter Tryz.func98, Tryz.ntmps98
      go_wp2_with fail
      refine HR.out.mono ?_
      rintro r w' ⟨rfl, rfl⟩
      go_wp2_with fail
      go_quiet (fail)
      go_wp2_with fail
      go_ret
      rw [HC.out]
      obtain ⟨s1, t1⟩ := (HH.out.drewN _).set2 3
      exact ⟨⟨none, 0, rfl, HEM.out _⟩, s1, (grown_drewN _ _ _).trans' t1⟩
    · by_cases hbig : (n : Int) - (i : Int) < k
      · have hc : cb xs i 0 k = ([], i, 3) := by unfold cb; rw [if_neg (by omega), if_pos (Or.inr (by rw [HLEN.out]; omega))]
        have HC := Lib.hid hc
        have d0 : decide (k < 0) = false := by simp; omega
        clear hc
        go_enter Tryz.func98, Tryz.ntmps98
        go_wp2_with fail
        refine HR.out.mono ?_
        rintro r w' ⟨rfl, rfl⟩
        go_wp2_with fail
        go_quiet (fail)
        go_wp2_with fail
        go_ret
        rw [HC.out]
        obtain ⟨s1, t1⟩ := (HH.out.drewN _).set2 3
        exact ⟨⟨none, 0, rfl, HEM.out _⟩, s1, (grown_drewN _ _ _).trans' t1⟩
      · obtain ⟨m, rfl⟩ := Int.eq_ofNat_of_zero_le (show 0 ≤ k by omega)
        have him : i + m ≤ n := by omega
        have hc : cb xs i 0 (m : Int) = ((xs.drop i).take m, i + m, 0) := by unfold cb; rw [if_neg (by omega), if_neg (by rw [HLEN.out]; omega)]; simp
        have hml : ((xs.drop i).take m).length = m := by have := HLEN.out; simp; omega
        have HC := Lib.hid hc
        have HML := Lib.hid hml
        have d0 : decide ((m : Int) < 0) = false := by simp
        have hbig2 : (m : Int) ≤ (n : Int) - (i : Int) := by omega
        have e2 : IntKind.i64.wrap ((i : Int) + (m : Int) - (m : Int)) = (i : Int) := by rw [IntWalk.i64_in _ (by omega)]; omega
        have e3 : IntKind.i64.wrap (i : Int) = (i : Int) := IntWalk.i64_in _ (by omega)
        clear hc hml hbig
        go_enter Tryz.func98, Tryz.ntmps98
        go_wp2_with fail
        refine HR.out.mono ?_
        rintro r w' ⟨rfl, rfl⟩
        go_wp2_with fail
        go_quiet (fail)
        go_wp2_with fail
        rename Nat => nq
        obtain ⟨s1, t1⟩ := (HH.out.drewN nq).set1 (i + m) him
        obtain ⟨w2, hw2⟩ : ∃ w2, w2 = (w.drewN nq).setCell ⟨B, 1, none⟩ (.int .i64 ((i : Int) + (m : Int))) := ⟨_, rfl⟩
        have s2 : CurAt 155 w2 B a n c xs (i + m) 0 := by rw [hw2]; exact s1
        have t2 : w.grownBy w2 (some B) := by rw [hw2]; exact (grown_drewN _ _ _).trans' t1
        rw [← hw2]
        have m0 := s2.c0
        have m1 : w2.cell? ⟨B, 1, none⟩ = some (.int .i64 ((i : Int) + (m : Int))) := s2.c1
        have hnl := s2.src.nl
        have S2 := Lib.hid s2
        have T2 := Lib.hid t2
        clear s1 t1 hw2 s2 t2 h0 h1 h2 f1 f2
        have hsl := slice_run a n c i m (by omega)
        have hsub := S2.out.src.subAny i m him
        have hBL : B < w2.heap.size := S2.out.lt
        generalize (if c = i then a else a.map (·.add i)) = A at hsl hsub
        have HSUB := Lib.hid hsub
        clear hsub hnl
        go_region_held3 (fun w' => w'.cell? ⟨B, 0, none⟩ = some (.slice a n c) ∧ w'.cell? ⟨B, 1, none⟩ = some (.int .i64 ((i : Int) + (m : Int)))) (first | go_keep | exact ⟨(hbel3.cell (p := ⟨B, 0, none⟩) hBL).trans m0, (hbel3.cell (p := ⟨B, 1, none⟩) hBL).trans m1⟩) (first | (go_at_call 124; refine (clone_any (HSUB.out.drew)).mono ?_; rintro r w3 ⟨a3, c3, rfl, hb3, hbel3, hf3⟩))
        go_wp2_with fail
        go_ret
        rw [HC.out]
        refine ⟨⟨a3, c3, by rw [HML.out]; rfl, by rw [HML.out]; exact hb3⟩, S2.out.drew.keptB hbel3, T2.out.trans' ((grown_drew w2 _).trans' (below_grown hbel3 _))⟩
  · have HR := Lib.hid (reads_no h he)
    have hc : cb xs i e k = ([], i, e) := by unfold cb; rw [if_pos he]
    have HC := Lib.hid hc
    have HH := Lib.hid h
    clear h hc he
    go_enter Tryz.func98, Tryz.ntmps98
    go_wp2_with fail
    refine HR.out.mono ?_
    rintro r w' ⟨rfl, rfl⟩
    go_wp2_with fail
    go_ret
    rw [HC.out]
    exact ⟨⟨none, 0, rfl, HEM.out _⟩, HH.out, World.grownBy.refl _ _⟩

theorem cb_nil {xs : List Nat} {i e : Nat} {k : Int} (h : (cb xs i e k).2.2 ≠ 0) : (cb xs i e k).1 = [] := by
  revert h
  unfold cb
  split
  · simp
  · split
    · simp
    · simp

/-- what reading a text makes: its bytes, the place, the error -/
def ct (xs : List Nat) (i e : Nat) (most : Int) : List Nat × Nat × Nat :=
  if e ≠ 0 then ([], i, e) else
    if (cb xs (ccn xs i 0 most 5).2.1 (ccn xs i 0 most 5).2.2 ((ccn xs i 0 most 5).1 : Int)).2.2 ≠ 0 then ([], i, (cb xs (ccn xs i 0 most 5).2.1 (ccn xs i 0 most 5).2.2 ((ccn xs i 0 most 5).1 : Int)).2.2)
    else cb xs (ccn xs i 0 most 5).2.1 (ccn xs i 0 most 5).2.2 ((ccn xs i 0 most 5).1 : Int)
theorem curn_le {xs : List Nat} {i e : Nat} {most : Int} {above : Nat} (hmhi : most ≤ 9223372036854775807) : ((ccn xs i e most above).1 : Int) ≤ 9223372036854775807 := by
  unfold ccn
  split
  · simp
  · split
    · simp
    · split
      · simp
      · omega

set_option maxRecDepth 100000 in
set_option maxHeartbeats 4000000 in
theorem ct_any {w : World} {B : Nat} {a : Option Addr} {n c : Nat} {xs : List Nat} {i e : Nat} (h : CurAt 155 w B a n c xs i e) (most : Int) (hmlo : -9223372036854775808 ≤ most) (hmhi : most ≤ 9223372036854775807) :
    Calls Tryz.prog 94 #[.pointer (some ⟨B, 0, none⟩), .int .i64 most] w fun r w' => r = .returned (.string (bs (ct xs i e most).1)) ∧ CurAt 155 w' B a n c xs (ct xs i e most).2.1 (ct xs i e most).2.2 ∧ w.grownBy w' (some B) := by
  by_cases he : e = 0
  · subst he
    have HR := Lib.hid (reads_yes h)
    have h1 := h.c1
    have HU := Lib.hid (cn_any h most hmlo hmhi 5)
    have HH := Lib.hid h
    have hle := curn_le (xs := xs) (i := i) (e := 0) (above := 5) hmhi
    obtain ⟨r, hr⟩ : ∃ r, r = ccn xs i 0 most 5 := ⟨_, rfl⟩
    have hct : ct xs i 0 most = if (cb xs r.2.1 r.2.2 (r.1 : Int)).2.2 ≠ 0 then ([], i, (cb xs r.2.1 r.2.2 (r.1 : Int)).2.2) else cb xs r.2.1 r.2.2 (r.1 : Int) := by
      unfold ct; rw [if_neg (by omega), hr]
    rw [← hr] at HU hle
    obtain ⟨v, j, f⟩ := r
    simp only at hct hle HU
    obtain ⟨s, hs⟩ : ∃ s, s = cb xs j f (v : Int) := ⟨_, rfl⟩
    rw [← hs] at hct
    have HCT := Lib.hid hct
    have HS := Lib.hid hs
    have HLE := Lib.hid hle
    clear h hct hs hle hr hmlo hmhi
    go_enter Tryz.func94, Tryz.ntmps94
    go_wp2_with fail
    refine HR.out.mono ?_
    rintro r w' ⟨rfl, rfl⟩
    go_wp2_with fail
    refine HU.out.mono ?_
    rintro r w1 ⟨rfl, hc1, hg1⟩
    have HB := Lib.hid (cb_any hc1 (v : Int) (by omega) HLE.out)
    have HG1 := Lib.hid hg1
    clear hc1 hg1
    rw [← HS.out] at HB
    go_wp2_with fail
    refine HB.out.mono ?_
    rintro r w2 ⟨⟨a2, c2, rfl, hb2⟩, hc2, hg2⟩
    have g1 := hc2.c1
    have g2 := hc2.c2
    have gf := hc2.f 1
    have HC2 := Lib.hid hc2
    have HB2 := Lib.hid hb2
    have HG2 := Lib.hid (HG1.out.trans' hg2)
    clear hc2 hb2 hg2
    obtain ⟨e2, he2⟩ : ∃ e2, e2 = s.2.2 := ⟨_, rfl⟩
    rw [← he2] at g2
    have HE2 := Lib.hid he2
    clear he2
    by_cases hf0 : e2 = 0
    · have hv : ct xs i 0 most = s := by rw [HCT.out, if_neg (by rw [← HE2.out]; simpa using hf0)]
      have HV := Lib.hid hv
      have hcv := HB2.out.conv
      obtain ⟨l, hl⟩ : ∃ l, l = s.1.length := ⟨_, rfl⟩
      rw [← hl] at hcv ⊢
      subst hf0
      clear hv hl
      go_wp2_with fail
      go_ret
      rw [HV.out]
      exact ⟨rfl, HC2.out, HG2.out⟩
    · have hv : ct xs i 0 most = ([], i, e2) := by rw [HCT.out, if_pos (by rw [← HE2.out]; exact hf0), HE2.out]
      have hnil : s.1 = [] := by rw [HS.out]; exact cb_nil (by rw [← HS.out, ← HE2.out]; exact hf0)
      obtain ⟨s1, t1⟩ := HC2.out.set1 i HH.out.le
      rw [← HE2.out] at s1
      have hba := HB2.out
      rw [hnil] at hba
      have hcv := (BytesAt.empty (w2.setCell ⟨B, 1, none⟩ (.int .i64 (i : Int))) a2 c2 hba.capm hba.nl).conv
      have z : ((e2 : Int) != 0) = true := by rw [bne_iff_ne]; omega
      have HV := Lib.hid hv
      have HS1 := Lib.hid s1
      have HT1 := Lib.hid (HG2.out.trans' t1)
      rw [hnil]
      clear hv hba s1 t1 hf0 hnil
      go_wp2_with fail
      go_ret
      rw [HV.out]
      exact ⟨rfl, HS1.out, HT1.out⟩
  · have HR := Lib.hid (reads_no h he)
    have hc : ct xs i e most = ([], i, e) := by unfold ct; rw [if_pos he]
    have HC := Lib.hid hc
    have HH := Lib.hid h
    clear h hc he
    go_enter Tryz.func94, Tryz.ntmps94
    go_wp2_with fail
    refine HR.out.mono ?_
    rintro r w' ⟨rfl, rfl⟩
    go_wp2_with fail
    go_ret
    rw [HC.out]
    exact ⟨rfl, HH.out, World.grownBy.refl _ _⟩

end Go.Proofs.YtpbijdoemdoijaaGreatDoor
end PkCa9_0
