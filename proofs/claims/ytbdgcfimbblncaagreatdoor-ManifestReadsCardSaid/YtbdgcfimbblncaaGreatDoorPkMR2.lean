/- Texts put together by packtpl2.py: Cur, Vec, LabPlain, MfA, MfB. -/
import Derived.Test.YtbdgcfimbblncaaGreatDoorPkMR1
import Derived.WalkSpells
import Derived.Deep.RegionHeld3
import Derived.Deep.Slices
import Derived.Deep.Fields
import Derived.SizedLaws
import Derived.Below
import Derived.OpenShut
import Derived.WalkKit
import Derived.Laws.Cover1
section PkMR2_0
/- A cursor of package nums, walked, for seats beside stage 1's. (Written by catcur.py out of XNumsCur, XNumsCur2, XNumsCur3.) -/
namespace Go.Proofs.YtbdgcfimbblncaaGreatDoor
open Go.RowKit NumsPlain
set_option linter.unusedVariables false

/-- a cursor's block: the bytes, the place, the error -/
structure CurAt (T : TypeId) (w : World) (B : Nat) (a : Option Addr) (n c : Nat) (xs : List Nat) (i e : Nat) : Prop where
  blk : w.heap[B]? = some (.cells #[.slice a n c, .int .i64 (i : Int), .int .i64 (e : Int)] T (0, 0))
  src : BytesAt w a n c xs
  apart : ∀ b off s, 0 < n → a = some ⟨b, off, s⟩ → b ≠ B
  le : i ≤ n

theorem CurAt.c0 {T : TypeId} {w : World} {B : Nat} {a : Option Addr} {n c : Nat} {xs : List Nat} {i e : Nat} (h : CurAt T w B a n c xs i e) : w.cell? ⟨B, 0, none⟩ = some (.slice a n c) := by
  rw [cell_of_row w B 0 _ T (0, 0) h.blk]; rfl
theorem CurAt.c1 {T : TypeId} {w : World} {B : Nat} {a : Option Addr} {n c : Nat} {xs : List Nat} {i e : Nat} (h : CurAt T w B a n c xs i e) : w.cell? ⟨B, 1, none⟩ = some (.int .i64 (i : Int)) := by
  rw [cell_of_row w B 1 _ T (0, 0) h.blk]; rfl
theorem CurAt.c2 {T : TypeId} {w : World} {B : Nat} {a : Option Addr} {n c : Nat} {xs : List Nat} {i e : Nat} (h : CurAt T w B a n c xs i e) : w.cell? ⟨B, 2, none⟩ = some (.int .i64 (e : Int)) := by
  rw [cell_of_row w B 2 _ T (0, 0) h.blk]; rfl
theorem CurAt.f {T : TypeId} {w : World} {B : Nat} {a : Option Addr} {n c : Nat} {xs : List Nat} {i e : Nat} (h : CurAt T w B a n c xs i e) (j : Nat) : w.frozen? ⟨B, j, none⟩ = false := frozen_of_row w B j _ T h.blk

set_option maxHeartbeats 400000 in
theorem reads_yes {w : World} {B : Nat} {a : Option Addr} {n c : Nat} {xs : List Nat} {i : Nat} (h : CurAt 123 w B a n c xs i 0) :
    Calls Tryz.prog 91 #[.pointer (some ⟨B, 0, none⟩)] w fun e w' => e = .returned (.bool true) ∧ w = w' := by
  have h2 := h.c2
  clear h
  go_enter Tryz.func91, Tryz.ntmps91
  go_wp2_with fail
  go_ret
  exact ⟨rfl, rfl⟩
set_option maxHeartbeats 400000 in
theorem reads_no {w : World} {B : Nat} {a : Option Addr} {n c : Nat} {xs : List Nat} {i e : Nat} (h : CurAt 123 w B a n c xs i e) (he : e ≠ 0) :
    Calls Tryz.prog 91 #[.pointer (some ⟨B, 0, none⟩)] w fun e w' => e = .returned (.bool false) ∧ w = w' := by
  have h2 := h.c2
  have z : ((e : Int) == 0) = false := by rw [beq_eq_false_iff_ne]; omega
  clear h
  go_enter Tryz.func91, Tryz.ntmps91
  go_wp2_with fail
  go_ret
  exact ⟨rfl, rfl⟩
set_option maxHeartbeats 400000 in
theorem reads_nil (w : World) :
    Calls Tryz.prog 91 #[.pointer none] w fun e w' => e = .returned (.bool false) ∧ w = w' := by
  go_enter Tryz.func91, Tryz.ntmps91
  go_wp2_with fail
  go_ret
  exact ⟨rfl, rfl⟩

theorem ru_count {xs : List Nat} {i v j : Nat} (hb : ∀ x ∈ xs, x < 256) (h : ru xs (i : Int) = (v, j, 0)) : i + j ≤ xs.length ∨ xs.length < i := by
  rw [ru_nat] at h
  obtain ⟨k, m, rfl, hk, _, _, _⟩ := uu_conv (xs.drop i) 0 0 v j (fun x hx => hb x (List.mem_of_mem_drop hx)) h
  rw [List.length_drop] at hk
  omega

/-- what reading a number makes of the place and the error: the value, the place, the error -/
def cu (xs : List Nat) (i e : Nat) : Nat × Nat × Nat :=
  if e = 0 then (if (ru xs (i : Int)).2.2 = 0 then ((ru xs (i : Int)).1, i + (ru xs (i : Int)).2.1, 0) else (0, i, (ru xs (i : Int)).2.2)) else (0, i, e)

theorem CurAt.set1 {T : TypeId} {w : World} {B : Nat} {a : Option Addr} {n c : Nat} {xs : List Nat} {i e : Nat} (h : CurAt T w B a n c xs i e) (j : Nat) (hj : j ≤ n) :
    CurAt T (w.setCell ⟨B, 1, none⟩ (.int .i64 (j : Int))) B a n c xs j e ∧ w.grownBy (w.setCell ⟨B, 1, none⟩ (.int .i64 (j : Int))) (some B) := by
  have hg : w.grownBy (w.setCell ⟨B, 1, none⟩ (.int .i64 (j : Int))) (some B) := ⟨rfl, rfl, rfl, by simp, fun k _ hk => heap_setCell_other w ⟨B, 1, none⟩ k _ (fun e => hk (by simp [e]))⟩
  refine ⟨⟨?_, ?_, h.apart, hj⟩, hg⟩
  · rw [heap_setCell_same w B 1 _ T _ h.blk]; rfl
  · exact ⟨h.src.len, h.src.cap, h.src.byte, h.src.reach, h.src.capm, h.src.nl, fun hp => by
      obtain ⟨b, off, ha, hlt, hc⟩ := h.src.cells hp
      exact ⟨b, off, ha, Nat.lt_of_lt_of_le hlt hg.size, fun k hk => hg.cell (hc k hk) (fun e => h.apart b off _ hp ha (Option.some.inj e))⟩⟩
theorem CurAt.set2 {T : TypeId} {w : World} {B : Nat} {a : Option Addr} {n c : Nat} {xs : List Nat} {i e : Nat} (h : CurAt T w B a n c xs i e) (j : Nat) :
    CurAt T (w.setCell ⟨B, 2, none⟩ (.int .i64 (j : Int))) B a n c xs i j ∧ w.grownBy (w.setCell ⟨B, 2, none⟩ (.int .i64 (j : Int))) (some B) := by
  have hg : w.grownBy (w.setCell ⟨B, 2, none⟩ (.int .i64 (j : Int))) (some B) := ⟨rfl, rfl, rfl, by simp, fun k _ hk => heap_setCell_other w ⟨B, 2, none⟩ k _ (fun e => hk (by simp [e]))⟩
  refine ⟨⟨?_, ?_, h.apart, h.le⟩, hg⟩
  · rw [heap_setCell_same w B 2 _ T _ h.blk]; rfl
  · exact ⟨h.src.len, h.src.cap, h.src.byte, h.src.reach, h.src.capm, h.src.nl, fun hp => by
      obtain ⟨b, off, ha, hlt, hc⟩ := h.src.cells hp
      exact ⟨b, off, ha, Nat.lt_of_lt_of_le hlt hg.size, fun k hk => hg.cell (hc k hk) (fun e => h.apart b off _ hp ha (Option.some.inj e))⟩⟩
theorem CurAt.drewN {T : TypeId} {w : World} {B : Nat} {a : Option Addr} {n c : Nat} {xs : List Nat} {i e : Nat} (h : CurAt T w B a n c xs i e) (k : Nat) : CurAt T (w.drewN k) B a n c xs i e :=
  ⟨h.blk, h.src.drewN k, h.apart, h.le⟩
set_option maxRecDepth 100000 in
set_option maxHeartbeats 1000000 in
theorem cu_any {w : World} {B : Nat} {a : Option Addr} {n c : Nat} {xs : List Nat} {i e : Nat} (h : CurAt 123 w B a n c xs i e) :
    Calls Tryz.prog 119 #[.pointer (some ⟨B, 0, none⟩)] w fun r w' => r = .returned (.int .u64 ((cu xs i e).1 : Int)) ∧ CurAt 123 w' B a n c xs (cu xs i e).2.1 (cu xs i e).2.2 ∧ w.grownBy w' (some B) := by
  by_cases he : e = 0
  · subst he
    have hr := reads_yes h
    have HR := Lib.hid hr
    have HH := Lib.hid h
    have h0 := h.c0
    have h1 := h.c1
    have h2 := h.c2
    have f1 := h.f 1
    have f2 := h.f 2
    have hin := h.le
    have hnr := h.src.reach
    have hu : ∀ k, Calls Tryz.prog 140 #[.slice a n c, .int .i64 (i : Int)] (w.drewN k) fun e w' => e = .returned (ruV (ru xs i)) ∧ w' = w.drewN k := fun k => (u_any (h.src.drewN k) i).mono fun e w' h => ⟨h.1, h.2.symm⟩
    obtain ⟨v, hv⟩ : ∃ u, u = (ru xs (i : Int)).1 := ⟨_, rfl⟩
    obtain ⟨j, hj⟩ : ∃ m, m = (ru xs (i : Int)).2.1 := ⟨_, rfl⟩
    obtain ⟨f, hf⟩ : ∃ f, f = (ru xs (i : Int)).2.2 := ⟨_, rfl⟩
    have hV : ruV (ru xs (i : Int)) = .tuple #[.int .u64 (v : Int), .int .i64 (j : Int), .int .i64 (f : Int)] := by unfold ruV; rw [hv, hj, hf]
    have hE : ru xs (i : Int) = (v, j, f) := by rw [hv, hj, hf]
    rw [hV] at hu
    have HU := Lib.hid hu
    have HV := Lib.hid hV
    have HE := Lib.hid hE
    clear hr h hu hv hj hf hV hE
    go_enter Tryz.func119, Tryz.ntmps119
    go_wp2_with fail
    refine HR.out.mono ?_
    rintro e w' ⟨rfl, rfl⟩
    go_wp2_with fail
    go_quiet ((go_at_call 140; exact Calls.quiet_of_same (HU.out _)))
    by_cases hf0 : f = 0
    · subst hf0
      have hcnt := ru_count HH.out.src.byte HE.out
      rw [HH.out.src.len] at hcnt
      have hij : i + j ≤ n := by omega
      have hc : cu xs i 0 = (v, i + j, 0) := by unfold cu; rw [HE.out]; rfl
      have HC := Lib.hid hc
      clear hc hcnt
      go_wp2_with fail
      go_ret
      rw [HC.out]
      obtain ⟨hs, hg⟩ := (HH.out.drewN _).set1 (i + j) hij
      exact ⟨rfl, hs, (grown_drewN _ _ _).trans' hg⟩
    · have z0 : ((f : Int) != 0) = true := by rw [bne_iff_ne]; omega
      have hc : cu xs i 0 = (0, i, f) := by unfold cu; rw [HE.out, if_pos rfl, if_neg hf0]
      have HC := Lib.hid hc
      clear hc hf0
      go_wp2_with fail
      go_ret
      rw [HC.out]
      obtain ⟨hs, hg⟩ := (HH.out.drewN _).set2 f
      exact ⟨rfl, hs, (grown_drewN _ _ _).trans' hg⟩
  · have hr := reads_no h he
    have HR := Lib.hid hr
    have hc : cu xs i e = (0, i, e) := by unfold cu; rw [if_neg he]
    have HC := Lib.hid hc
    have HH := Lib.hid h
    clear hr h hc he
    go_enter Tryz.func119, Tryz.ntmps119
    go_wp2_with fail
    refine HR.out.mono ?_
    rintro e w' ⟨rfl, rfl⟩
    go_wp2_with fail
    go_ret
    rw [HC.out]
    exact ⟨rfl, HH.out, World.grownBy.refl _ _⟩


set_option maxRecDepth 100000 in
set_option maxHeartbeats 1000000 in
theorem new_any {a : Option Addr} {n c : Nat} {xs : List Nat} {w : World} (h : BytesAt w a n c xs) :
    Calls Tryz.prog 48 #[.slice a n c] w fun e w' => ∃ B a' c', e = .returned (.pointer (some ⟨B, 0, none⟩)) ∧ CurAt 123 w' B a' n c' xs 0 0 ∧ Below w.heap.size w w' ∧ w.heap.size ≤ B ∧ (∀ b off s, a' = some ⟨b, off, s⟩ → w.heap.size ≤ b) := by
  have hc := clone_any h
  have HC := Lib.hid hc
  clear hc h
  go_enter Tryz.func48, Tryz.ntmps48
  go_wp2_with fail
  refine HC.out.mono ?_
  rintro e w1 ⟨a', c', rfl, hb1, hbel, hfresh⟩
  have HB := Lib.hid hb1
  clear hb1
  go_wp2_with fail
  go_ret
  refine ⟨w1.heap.size, a', c', rfl, ⟨?_, HB.out.alloc _, ?_, Nat.zero_le _⟩, hbel.alloc hbel.size _, hbel.size, hfresh⟩
  · exact heap_alloc_new w1 _
  · intro b off s hp ha
    obtain ⟨b', off', ha', hlt, _⟩ := HB.out.cells hp
    rw [ha] at ha'
    cases ha'
    omega

/-- what the end answers -/
def cend (n i e : Nat) : Nat := if e = 0 then (if i < n then 5 else 0) else e

set_option maxHeartbeats 400000 in
theorem end_any {w : World} {B : Nat} {a : Option Addr} {n c : Nat} {xs : List Nat} {i e : Nat} (h : CurAt 123 w B a n c xs i e) :
    Calls Tryz.prog 57 #[.pointer (some ⟨B, 0, none⟩)] w fun r w' => r = .returned (.int .i64 (cend n i e : Int)) ∧ ∃ q, w' = w.drewN q := by
  have h0 := h.c0
  have h1 := h.c1
  have h2 := h.c2
  clear h
  by_cases he : e = 0
  · subst he
    by_cases hi : i < n
    · have HE := Lib.hid (show cend n i 0 = 5 from by unfold cend; rw [if_pos rfl, if_pos hi])
      have hi' : (i : Int) < (n : Int) := by omega
      go_enter Tryz.func57, Tryz.ntmps57
      go_wp2_with fail
      go_quiet (fail)
      go_wp2_with fail
      go_ret
      exact ⟨by rw [HE.out]; rfl, _, rfl⟩
    · have HE := Lib.hid (show cend n i 0 = 0 from by unfold cend; rw [if_pos rfl, if_neg hi])
      have hi' : ¬ (i : Int) < (n : Int) := by omega
      go_enter Tryz.func57, Tryz.ntmps57
      go_wp2_with fail
      go_quiet (fail)
      go_wp2_with fail
      go_ret
      exact ⟨by rw [HE.out]; rfl, _, rfl⟩
  · have HE := Lib.hid (show cend n i e = e from by unfold cend; rw [if_neg he])
    have z : ((e : Int) != 0) = true := by rw [bne_iff_ne]; omega
    clear he
    go_enter Tryz.func57, Tryz.ntmps57
    go_wp2_with fail
    go_ret
    exact ⟨by rw [HE.out]; rfl, 0, rfl⟩


theorem cu_lt (xs : List Nat) (i e : Nat) : (cu xs i e).1 < 18446744073709551616 := by
  unfold cu
  split
  · split
    · exact ru_lt xs _
    · simp
  · simp
theorem cu_zero {xs : List Nat} {i e : Nat} (h : (cu xs i e).2.2 ≠ 0) : (cu xs i e).1 = 0 ∧ (cu xs i e).2.1 = i := by
  revert h
  unfold cu
  split
  · split
    · simp
    · simp
  · simp


/-- what reading a number up to most makes: the number, the place, the error -/
def ccn (xs : List Nat) (i e : Nat) (most : Int) (above : Nat) : Nat × Nat × Nat :=
  if e ≠ 0 then (0, i, e) else if (cu xs i 0).2.2 ≠ 0 then (0, i, (cu xs i 0).2.2) else if most < 0 ∨ most < ((cu xs i 0).1 : Int) then (0, i, above) else cu xs i 0

set_option maxRecDepth 100000 in
set_option maxHeartbeats 2000000 in
theorem cn_any {w : World} {B : Nat} {a : Option Addr} {n c : Nat} {xs : List Nat} {i e : Nat} (h : CurAt 123 w B a n c xs i e) (most : Int) (hmlo : -9223372036854775808 ≤ most) (hmhi : most ≤ 9223372036854775807) (above : Nat) :
    Calls Tryz.prog 92 #[.pointer (some ⟨B, 0, none⟩), .int .i64 most, .int .i64 (above : Int)] w fun r w' => r = .returned (.int .i64 ((ccn xs i e most above).1 : Int)) ∧ CurAt 123 w' B a n c xs (ccn xs i e most above).2.1 (ccn xs i e most above).2.2 ∧ w.grownBy w' (some B) := by
  by_cases he : e = 0
  · subst he
    have hr := reads_yes h
    have h1 := h.c1
    have HU := Lib.hid (cu_any h)
    have HR := Lib.hid hr
    have HH := Lib.hid h
    obtain ⟨v, hv⟩ : ∃ u, u = (cu xs i 0).1 := ⟨_, rfl⟩
    obtain ⟨j, hj⟩ : ∃ m, m = (cu xs i 0).2.1 := ⟨_, rfl⟩
    obtain ⟨f, hf⟩ : ∃ f, f = (cu xs i 0).2.2 := ⟨_, rfl⟩
    have hvl : v < 18446744073709551616 := by rw [hv]; exact cu_lt xs i 0
    have hz : f ≠ 0 → v = 0 ∧ j = i := by rw [hf, hv, hj]; exact cu_zero
    have HV := Lib.hid hv
    have HJ := Lib.hid hj
    have HF := Lib.hid hf
    have HZ := Lib.hid hz
    have HVL := Lib.hid hvl
    have HM1 := Lib.hid hmlo
    have HM2 := Lib.hid hmhi
    clear h hr hv hj hf hz hvl hmlo hmhi
    go_enter Tryz.func92, Tryz.ntmps92
    go_wp2_with fail
    refine HR.out.mono ?_
    rintro r w' ⟨rfl, rfl⟩
    go_wp2_with fail
    refine HU.out.mono ?_
    rintro r w1 ⟨rfl, hc1, hg1⟩
    rw [← HV.out]
    rw [← HJ.out, ← HF.out] at hc1
    have g1 := hc1.c1
    have g2 := hc1.c2
    have gf1 := hc1.f 1
    have gf2 := hc1.f 2
    have HC1 := Lib.hid hc1
    have HG1 := Lib.hid hg1
    clear hc1 hg1
    by_cases hf0 : f = 0
    · subst hf0
      by_cases hm : most < 0 ∨ most < (v : Int)
      · have hcn : ccn xs i 0 most above = (0, i, above) := by unfold ccn; rw [if_neg (by omega), if_neg (by rw [← HF.out]; simp), if_pos (by rw [← HV.out]; exact hm)]
        have HCN := Lib.hid hcn
        have HMM := Lib.hid hm
        obtain ⟨s1, t1⟩ := HC1.out.set1 i HH.out.le
        obtain ⟨s2, t2⟩ := s1.set2 above
        have HS := Lib.hid s2
        have HT := Lib.hid (HG1.out.trans' (t1.trans' t2))
        clear hcn s1 t1 s2 t2 hm
        by_cases hneg : most < 0
        · have d1 : decide (most < 0) = true := by simp; omega
          go_wp2_with fail
          go_ret
          rw [HCN.out]
          exact ⟨rfl, HS.out, HT.out⟩
        · have hmv : most < (v : Int) := HMM.out.resolve_left hneg
          have e3 : IntKind.u64.wrap most = most := by rw [IntKind.wrap_u64]; have := HM2.out; omega
          go_wp2_with fail
          go_ret
          rw [HCN.out]
          exact ⟨rfl, HS.out, HT.out⟩
      · have hcn : ccn xs i 0 most above = (v, j, 0) := by
          unfold ccn; rw [if_neg (by omega), if_neg (by rw [← HF.out]; simp), if_neg (by rw [← HV.out]; exact hm)]
          exact Prod.ext HV.out.symm (Prod.ext HJ.out.symm HF.out.symm)
        have HCN := Lib.hid hcn
        have hneg : ¬ most < 0 := fun h => hm (Or.inl h)
        have hmv : (v : Int) ≤ most := by have h2 : ¬ most < (v : Int) := fun h => hm (Or.inr h); omega
        have e3 : IntKind.u64.wrap most = most := by rw [IntKind.wrap_u64]; have := HM2.out; omega
        have e4 : wrap64 (v : Int) = (v : Int) := by unfold wrap64; have := HM2.out; omega
        have hv63 : (v : Int) ≤ 9223372036854775807 := by have := HM2.out; omega
        clear hcn hm
        go_wp2_with fail
        go_ret
        rw [HCN.out]
        exact ⟨rfl, HC1.out, HG1.out⟩
    · obtain ⟨hv0, hji⟩ := HZ.out hf0
      have hcn : ccn xs i 0 most above = (0, i, f) := by unfold ccn; rw [if_neg (by omega), if_pos (by rw [← HF.out]; exact hf0), HF.out]
      have HCN := Lib.hid hcn
      have z0 : ((f : Int) == 0) = false := by rw [beq_eq_false_iff_ne]; omega
      have HJI := Lib.hid hji
      clear hcn hji
      subst hv0
      clear hf0
      go_wp2_with fail
      go_ret
      rw [HCN.out]
      exact ⟨rfl, by rw [← HJI.out]; exact HC1.out, HG1.out⟩
  · have hr := reads_no h he
    have HR := Lib.hid hr
    have hc : ccn xs i e most above = (0, i, e) := by unfold ccn; rw [if_pos he]
    have HC := Lib.hid hc
    have HH := Lib.hid h
    clear hr h hc he
    go_enter Tryz.func92, Tryz.ntmps92
    go_wp2_with fail
    refine HR.out.mono ?_
    rintro r w' ⟨rfl, rfl⟩
    go_wp2_with fail
    go_ret
    rw [HC.out]
    exact ⟨rfl, HH.out, World.grownBy.refl _ _⟩

set_option maxHeartbeats 1000000 in
theorem cnum_any {w : World} {B : Nat} {a : Option Addr} {n c : Nat} {xs : List Nat} {i e : Nat} (h : CurAt 123 w B a n c xs i e) (most : Int) (hmlo : -9223372036854775808 ≤ most) (hmhi : most ≤ 9223372036854775807) :
    Calls Tryz.prog 50 #[.pointer (some ⟨B, 0, none⟩), .int .i64 most] w fun r w' => r = .returned (.int .i64 ((ccn xs i e most 2).1 : Int)) ∧ CurAt 123 w' B a n c xs (ccn xs i e most 2).2.1 (ccn xs i e most 2).2.2 ∧ w.grownBy w' (some B) := by
  have H1 := Lib.hid (cn_any h most hmlo hmhi 2)
  clear h hmlo hmhi
  go_enter Tryz.func50, Tryz.ntmps50
  go_wp2_with fail
  refine H1.out.mono ?_
  rintro r w1 ⟨rfl, hc, hg⟩
  have HC := Lib.hid hc
  have HG := Lib.hid hg
  clear hc hg
  go_wp2_with fail
  go_ret
  exact ⟨rfl, HC.out, HG.out⟩

theorem BytesAt.sub {w : World} {b off n c : Nat} {xs : List Nat} (h : BytesAt w (some ⟨b, off, none⟩) n c xs) (i m : Nat) (him : i + m ≤ n) (hm : 0 < m) : BytesAt w (some ⟨b, off + i, none⟩) m (c - i) ((xs.drop i).take m) := by
  have hl := h.len
  have hc := h.cap
  have hr := h.reach
  have hcm := h.capm
  refine ⟨by simp; omega, by omega, fun x hx => h.byte x (List.mem_of_mem_drop (List.mem_of_mem_take hx)), by omega, by omega, (fun e => by cases e), fun _ => ?_⟩
  obtain ⟨b', off', ha, hlt, hcell⟩ := h.cells (by omega)
  cases ha
  refine ⟨b, off + i, rfl, hlt, fun k hk => ?_⟩
  rw [Nat.add_assoc, hcell (i + k) (by omega)]
  have e : ((xs.drop i).take m).getD k 0 = xs.getD (i + k) 0 := by
    simp [List.getD, hk]
  rw [e]

theorem BytesAt.subAny {w : World} {a : Option Addr} {n c : Nat} {xs : List Nat} (h : BytesAt w a n c xs) (i m : Nat) (him : i + m ≤ n) : BytesAt w (if c = i then a else a.map (·.add i)) m (c - i) ((xs.drop i).take m) := by
  have hc := h.cap
  have hcm := h.capm
  rcases Nat.eq_zero_or_pos m with h0 | hp
  · subst h0
    rw [List.take_zero]
    refine BytesAt.empty _ _ _ (by omega) (fun e => ?_)
    split at e
    · omega
    · have hn : a = none := by cases a with | none => rfl | some _ => simp at e
      have := h.nl hn
      omega
  · obtain ⟨b, off, rfl, _, _⟩ := h.cells (by omega)
    rw [if_neg (by omega)]
    have h4 : (⟨b, off, none⟩ : Addr).add i = ⟨b, off + i, none⟩ := by unfold Addr.add; split <;> simp_all
    simp only [Option.map_some, h4]
    exact h.sub i m him hp
theorem size_u8 (w : World) : (Go.sizeOf 5).run Tryz.prog w = .ok 1 w := by kernel_rfl
set_option maxRecDepth 100000 in
theorem slice_run (a : Option Addr) (n c i m : Nat) (him : i + m ≤ c) (w : World) :
    (Instr.slice 30 (.slice a n c) (some (.int .i64 (i : Int))) (some (.int .i64 ((i : Int) + (m : Int)))) none).run Tryz.prog w = .ok (.slice (if c = i then a else a.map (·.add i)) m (c - i)) w := by
  have ht' : Tryz.prog.underlying 30 = some (.slice (Tryz.prog.elem 30)) := by simp [Program.elem, Tryz.underlying30]
  have he : Tryz.prog.elem 30 = 5 := by simp [Program.elem, Tryz.underlying30]
  rw [run_slice_lh w 30 _ _ _ ht' .i64 .i64 _ _ (by omega) (by omega) (by omega), he, size_u8]
  have e1 : ((i : Int) + (m : Int)).toNat = i + m := by omega
  simp only [Result.andThen, sliced, Int.toNat_natCast, e1, Nat.mul_one]
  congr 2
  omega

theorem CurAt.lt {T : TypeId} {w : World} {B : Nat} {a : Option Addr} {n c : Nat} {xs : List Nat} {i e : Nat} (h : CurAt T w B a n c xs i e) : B < w.heap.size := (Array.getElem?_eq_some_iff.1 h.blk).1
theorem CurAt.keptB {T : TypeId} {w w' : World} {B : Nat} {a : Option Addr} {n c : Nat} {xs : List Nat} {i e : Nat} (h : CurAt T w B a n c xs i e) (hb : Below w.heap.size w w') : CurAt T w' B a n c xs i e :=
  ⟨(hb.block B h.lt).trans h.blk, h.src.kept hb, h.apart, h.le⟩
theorem below_grown {w w' : World} (hb : Below w.heap.size w w') (r : Option Nat) : w.grownBy w' r := ⟨hb.os, hb.tape, hb.output, hb.size, fun k hk _ => hb.block k hk⟩
theorem grown_drew (w : World) (r : Option Nat) : w.grownBy w.drew r := ⟨rfl, rfl, rfl, Nat.le_refl _, fun _ _ _ => rfl⟩
theorem CurAt.drew {T : TypeId} {w : World} {B : Nat} {a : Option Addr} {n c : Nat} {xs : List Nat} {i e : Nat} (h : CurAt T w B a n c xs i e) : CurAt T w.drew B a n c xs i e := ⟨h.blk, h.src.drew, h.apart, h.le⟩

/-- what taking n bytes makes: the bytes, the place, the error -/
def cb (xs : List Nat) (i e : Nat) (k : Int) : List Nat × Nat × Nat :=
  if e ≠ 0 then ([], i, e) else if k < 0 ∨ ((xs.length - i : Nat) : Int) < k then ([], i, 3) else ((xs.drop i).take k.toNat, i + k.toNat, 0)

set_option maxRecDepth 100000 in
set_option maxHeartbeats 4000000 in
theorem cb_any {w : World} {B : Nat} {a : Option Addr} {n c : Nat} {xs : List Nat} {i e : Nat} (h : CurAt 123 w B a n c xs i e) (k : Int) (hmlo : -9223372036854775808 ≤ k) (hmhi : k ≤ 9223372036854775807) :
    Calls Tryz.prog 49 #[.pointer (some ⟨B, 0, none⟩), .int .i64 k] w fun r w' => (∃ a' c', r = .returned (.slice a' (cb xs i e k).1.length c') ∧ BytesAt w' a' (cb xs i e k).1.length c' (cb xs i e k).1) ∧ CurAt 123 w' B a n c xs (cb xs i e k).2.1 (cb xs i e k).2.2 ∧ w.grownBy w' (some B) := by
  have hempty : ∀ w, BytesAt w none 0 0 [] := fun w => BytesAt.empty w none 0 (by omega) (fun _ => rfl)
  have HEM := Lib.hid hempty
  clear hempty
  by_cases he : e = 0
  · subst he
    have HR := Lib.hid (reads_yes h)
    have h0 := h.c0
    have h1 := h.c1
    have h2 := h.c2
    have f1 := h.f 1
    have f2 := h.f 2
    have hle := h.le
    have hlen := h.src.len
    have hnr := h.src.reach
    have hcap := h.src.cap
    have hcm := h.src.capm
    have HH := Lib.hid h
    have HLEN := Lib.hid hlen
    have e1 : IntKind.i64.wrap ((n : Int) - (i : Int)) = (n : Int) - (i : Int) := IntWalk.i64_in _ (by omega)
    clear h hlen
    by_cases hneg : k < 0
    · have hc : cb xs i 0 k = ([], i, 3) := by unfold cb; rw [if_neg (by omega), if_pos (Or.inl hneg)]
      have HC := Lib.hid hc
      have d1 : decide (k < 0) = true := by simp; omega
      clear hc
      go_enter Tryz.func49, Tryz.ntmps49
      go_wp2_with fail
      refine HR.out.mono ?_
      rintro r w' ⟨rfl, rfl⟩
      go_wp2_with fail
      go_quiet (fail)
      go_wp2_with fail
      go_ret
      rw [HC.out]
      obtain ⟨s1, t1⟩ := (HH.out.drewN _).set2 3
      exact ⟨⟨none, 0, rfl, HEM.out _⟩, s1, (grown_drewN _ _ _).trans' t1⟩
    · by_cases hbig : (n : Int) - (i : Int) < k
      · have hc : cb xs i 0 k = ([], i, 3) := by unfold cb; rw [if_neg (by omega), if_pos (Or.inr (by rw [HLEN.out]; omega))]
        have HC := Lib.hid hc
        have d0 : decide (k < 0) = false := by simp; omega
        clear hc
        go_enter Tryz.func49, Tryz.ntmps49
        go_wp2_with fail
        refine HR.out.mono ?_
        rintro r w' ⟨rfl, rfl⟩
        go_wp2_with fail
        go_quiet (fail)
        go_wp2_with fail
        go_ret
        rw [HC.out]
        obtain ⟨s1, t1⟩ := (HH.out.drewN _).set2 3
        exact ⟨⟨none, 0, rfl, HEM.out _⟩, s1, (grown_drewN _ _ _).trans' t1⟩
      · obtain ⟨m, rfl⟩ := Int.eq_ofNat_of_zero_le (show 0 ≤ k by omega)
        have him : i + m ≤ n := by omega
        have hc : cb xs i 0 (m : Int) = ((xs.drop i).take m, i + m, 0) := by unfold cb; rw [if_neg (by omega), if_neg (by rw [HLEN.out]; omega)]; simp
        have hml : ((xs.drop i).take m).length = m := by have := HLEN.out; simp; omega
        have HC := Lib.hid hc
        have HML := Lib.hid hml
        have d0 : decide ((m : Int) < 0) = false := by simp
        have hbig2 : (m : Int) ≤ (n : Int) - (i : Int) := by omega
        have e2 : IntKind.i64.wrap ((i : Int) + (m : Int) - (m : Int)) = (i : Int) := by rw [IntWalk.i64_in _ (by omega)]; omega
        have e3 : IntKind.i64.wrap (i : Int) = (i : Int) := IntWalk.i64_in _ (by omega)
        clear hc hml hbig
        go_enter Tryz.func49, Tryz.ntmps49
        go_wp2_with fail
        refine HR.out.mono ?_
        rintro r w' ⟨rfl, rfl⟩
        go_wp2_with fail
        go_quiet (fail)
        go_wp2_with fail
        rename Nat => nq
        obtain ⟨s1, t1⟩ := (HH.out.drewN nq).set1 (i + m) him
        obtain ⟨w2, hw2⟩ : ∃ w2, w2 = (w.drewN nq).setCell ⟨B, 1, none⟩ (.int .i64 ((i : Int) + (m : Int))) := ⟨_, rfl⟩
        have s2 : CurAt 123 w2 B a n c xs (i + m) 0 := by rw [hw2]; exact s1
        have t2 : w.grownBy w2 (some B) := by rw [hw2]; exact (grown_drewN _ _ _).trans' t1
        rw [← hw2]
        have m0 := s2.c0
        have m1 : w2.cell? ⟨B, 1, none⟩ = some (.int .i64 ((i : Int) + (m : Int))) := s2.c1
        have hnl := s2.src.nl
        have S2 := Lib.hid s2
        have T2 := Lib.hid t2
        clear s1 t1 hw2 s2 t2 h0 h1 h2 f1 f2
        have hsl := slice_run a n c i m (by omega)
        have hsub := S2.out.src.subAny i m him
        have hBL : B < w2.heap.size := S2.out.lt
        generalize (if c = i then a else a.map (·.add i)) = A at hsl hsub
        have HSUB := Lib.hid hsub
        clear hsub hnl
        go_region_held3 (fun w' => w'.cell? ⟨B, 0, none⟩ = some (.slice a n c) ∧ w'.cell? ⟨B, 1, none⟩ = some (.int .i64 ((i : Int) + (m : Int)))) (first | go_keep | exact ⟨(hbel3.cell (p := ⟨B, 0, none⟩) hBL).trans m0, (hbel3.cell (p := ⟨B, 1, none⟩) hBL).trans m1⟩) (first | (go_at_call 89; refine (clone_any (HSUB.out.drew)).mono ?_; rintro r w3 ⟨a3, c3, rfl, hb3, hbel3, hf3⟩))
        go_wp2_with fail
        go_ret
        rw [HC.out]
        refine ⟨⟨a3, c3, by rw [HML.out]; rfl, by rw [HML.out]; exact hb3⟩, S2.out.drew.keptB hbel3, T2.out.trans' ((grown_drew w2 _).trans' (below_grown hbel3 _))⟩
  · have HR := Lib.hid (reads_no h he)
    have hc : cb xs i e k = ([], i, e) := by unfold cb; rw [if_pos he]
    have HC := Lib.hid hc
    have HH := Lib.hid h
    clear h hc he
    go_enter Tryz.func49, Tryz.ntmps49
    go_wp2_with fail
    refine HR.out.mono ?_
    rintro r w' ⟨rfl, rfl⟩
    go_wp2_with fail
    go_ret
    rw [HC.out]
    exact ⟨⟨none, 0, rfl, HEM.out _⟩, HH.out, World.grownBy.refl _ _⟩

theorem cb_nil {xs : List Nat} {i e : Nat} {k : Int} (h : (cb xs i e k).2.2 ≠ 0) : (cb xs i e k).1 = [] := by
  revert h
  unfold cb
  split
  · simp
  · split
    · simp
    · simp

/-- what reading a text makes: its bytes, the place, the error -/
def ct (xs : List Nat) (i e : Nat) (most : Int) : List Nat × Nat × Nat :=
  if e ≠ 0 then ([], i, e) else
    if (cb xs (ccn xs i 0 most 5).2.1 (ccn xs i 0 most 5).2.2 ((ccn xs i 0 most 5).1 : Int)).2.2 ≠ 0 then ([], i, (cb xs (ccn xs i 0 most 5).2.1 (ccn xs i 0 most 5).2.2 ((ccn xs i 0 most 5).1 : Int)).2.2)
    else cb xs (ccn xs i 0 most 5).2.1 (ccn xs i 0 most 5).2.2 ((ccn xs i 0 most 5).1 : Int)
theorem curn_le {xs : List Nat} {i e : Nat} {most : Int} {above : Nat} (hmhi : most ≤ 9223372036854775807) : ((ccn xs i e most above).1 : Int) ≤ 9223372036854775807 := by
  unfold ccn
  split
  · simp
  · split
    · simp
    · split
      · simp
      · omega

set_option maxRecDepth 100000 in
set_option maxHeartbeats 4000000 in
theorem ct_any {w : World} {B : Nat} {a : Option Addr} {n c : Nat} {xs : List Nat} {i e : Nat} (h : CurAt 123 w B a n c xs i e) (most : Int) (hmlo : -9223372036854775808 ≤ most) (hmhi : most ≤ 9223372036854775807) :
    Calls Tryz.prog 93 #[.pointer (some ⟨B, 0, none⟩), .int .i64 most] w fun r w' => r = .returned (.string (bs (ct xs i e most).1)) ∧ CurAt 123 w' B a n c xs (ct xs i e most).2.1 (ct xs i e most).2.2 ∧ w.grownBy w' (some B) := by
  by_cases he : e = 0
  · subst he
    have HR := Lib.hid (reads_yes h)
    have h1 := h.c1
    have HU := Lib.hid (cn_any h most hmlo hmhi 5)
    have HH := Lib.hid h
    have hle := curn_le (xs := xs) (i := i) (e := 0) (above := 5) hmhi
    obtain ⟨r, hr⟩ : ∃ r, r = ccn xs i 0 most 5 := ⟨_, rfl⟩
    have hct : ct xs i 0 most = if (cb xs r.2.1 r.2.2 (r.1 : Int)).2.2 ≠ 0 then ([], i, (cb xs r.2.1 r.2.2 (r.1 : Int)).2.2) else cb xs r.2.1 r.2.2 (r.1 : Int) := by
      unfold ct; rw [if_neg (by omega), hr]
    rw [← hr] at HU hle
    obtain ⟨v, j, f⟩ := r
    simp only at hct hle HU
    obtain ⟨s, hs⟩ : ∃ s, s = cb xs j f (v : Int) := ⟨_, rfl⟩
    rw [← hs] at hct
    have HCT := Lib.hid hct
    have HS := Lib.hid hs
    have HLE := Lib.hid hle
    clear h hct hs hle hr hmlo hmhi
    go_enter Tryz.func93, Tryz.ntmps93
    go_wp2_with fail
    refine HR.out.mono ?_
    rintro r w' ⟨rfl, rfl⟩
    go_wp2_with fail
    refine HU.out.mono ?_
    rintro r w1 ⟨rfl, hc1, hg1⟩
    have HB := Lib.hid (cb_any hc1 (v : Int) (by omega) HLE.out)
    have HG1 := Lib.hid hg1
    clear hc1 hg1
    rw [← HS.out] at HB
    go_wp2_with fail
    refine HB.out.mono ?_
    rintro r w2 ⟨⟨a2, c2, rfl, hb2⟩, hc2, hg2⟩
    have g1 := hc2.c1
    have g2 := hc2.c2
    have gf := hc2.f 1
    have HC2 := Lib.hid hc2
    have HB2 := Lib.hid hb2
    have HG2 := Lib.hid (HG1.out.trans' hg2)
    clear hc2 hb2 hg2
    obtain ⟨e2, he2⟩ : ∃ e2, e2 = s.2.2 := ⟨_, rfl⟩
    rw [← he2] at g2
    have HE2 := Lib.hid he2
    clear he2
    by_cases hf0 : e2 = 0
    · have hv : ct xs i 0 most = s := by rw [HCT.out, if_neg (by rw [← HE2.out]; simpa using hf0)]
      have HV := Lib.hid hv
      have hcv := HB2.out.conv
      obtain ⟨l, hl⟩ : ∃ l, l = s.1.length := ⟨_, rfl⟩
      rw [← hl] at hcv ⊢
      subst hf0
      clear hv hl
      go_wp2_with fail
      go_ret
      rw [HV.out]
      exact ⟨rfl, HC2.out, HG2.out⟩
    · have hv : ct xs i 0 most = ([], i, e2) := by rw [HCT.out, if_pos (by rw [← HE2.out]; exact hf0), HE2.out]
      have hnil : s.1 = [] := by rw [HS.out]; exact cb_nil (by rw [← HS.out, ← HE2.out]; exact hf0)
      obtain ⟨s1, t1⟩ := HC2.out.set1 i HH.out.le
      rw [← HE2.out] at s1
      have hba := HB2.out
      rw [hnil] at hba
      have hcv := (BytesAt.empty (w2.setCell ⟨B, 1, none⟩ (.int .i64 (i : Int))) a2 c2 hba.capm hba.nl).conv
      have z : ((e2 : Int) != 0) = true := by rw [bne_iff_ne]; omega
      have HV := Lib.hid hv
      have HS1 := Lib.hid s1
      have HT1 := Lib.hid (HG2.out.trans' t1)
      rw [hnil]
      clear hv hba s1 t1 hf0 hnil
      go_wp2_with fail
      go_ret
      rw [HV.out]
      exact ⟨rfl, HS1.out, HT1.out⟩
  · have HR := Lib.hid (reads_no h he)
    have hc : ct xs i e most = ([], i, e) := by unfold ct; rw [if_pos he]
    have HC := Lib.hid hc
    have HH := Lib.hid h
    clear h hc he
    go_enter Tryz.func93, Tryz.ntmps93
    go_wp2_with fail
    refine HR.out.mono ?_
    rintro r w' ⟨rfl, rfl⟩
    go_wp2_with fail
    go_ret
    rw [HC.out]
    exact ⟨rfl, HH.out, World.grownBy.refl _ _⟩

end Go.Proofs.YtbdgcfimbblncaaGreatDoor
end PkMR2_0
section PkMR2_1
/- Slices of things of any struct, as walks are told of them: wherever they lie; what a call owns; as a law's argument. -/
namespace Go.Proofs.YtbdgcfimbblncaaGreatDoor
open Go.ChangeShapes Go.WideShapes Go.Deep Go.RowKit
set_option linter.unusedVariables false

theorem vflat_len {α : Type} (f : α → List Value) (K : Nat) (hK : ∀ x, (f x).length = K) : ∀ l : List α, (l.flatMap f).length = l.length * K
  | [] => by simp
  | x :: r => by rw [List.flatMap_cons, List.length_append, hK, vflat_len f K hK r, List.length_cons, Nat.succ_mul]; omega
theorem vflat_at {α : Type} (f : α → List Value) (K : Nat) (hK : ∀ x, (f x).length = K) (d : α) : ∀ (l : List α) (i j : Nat), i < l.length → j < K → (l.flatMap f)[i * K + j]? = (f (l.getD i d))[j]?
  | x :: r, 0, j, _, hj => by
    rw [List.flatMap_cons, Nat.zero_mul, Nat.zero_add, List.getElem?_append_left (by rw [hK]; exact hj)]; rfl
  | x :: r, i + 1, j, hi, hj => by
    rw [List.flatMap_cons, List.getElem?_append_right (by rw [hK, Nat.succ_mul]; omega), hK, show (i + 1) * K + j - K = i * K + j from by rw [Nat.succ_mul]; omega, vflat_at f K hK d r i j (by simpa using hi) hj]
    rfl
/-- things of K cells, and what else holds of them in a world -/
structure Sty (α : Type) where
  f : α → List Value
  K : Nat
  z : α
  ok : World → α → Prop
  pos : 0 < K
  wid : ∀ x, (f x).length = K
  one : ∀ x, ∀ u ∈ f x, u.oneCell' = true
  mono : ∀ {w w' : World} {x : α}, Below w.heap.size w w' → ok w x → ok w' x
def Sty.flat {α : Type} (S : Sty α) (l : List α) : List Value := l.flatMap S.f
structure VecAt {α : Type} (S : Sty α) (w : World) (a : Option Addr) (n c : Nat) (l : List α) : Prop where
  len : l.length = n
  cap : n ≤ c
  capm : c ≤ 9223372036854775807
  nl : a = none → c = 0
  all : ∀ x ∈ l, S.ok w x
  cells : 0 < n → ∃ b off, a = some ⟨b, off, none⟩ ∧ b < w.heap.size ∧ ∀ i, i < n → ∀ j u, (S.f (l.getD i S.z))[j]? = some u → w.cell? ⟨b, off + i * S.K + j, none⟩ = some u
section
variable {α : Type} {S : Sty α} {w w' : World} {a : Option Addr} {n c : Nat} {l : List α}
theorem VecAt.kept (h : VecAt S w a n c l) (hb : Below w.heap.size w w') : VecAt S w' a n c l :=
  ⟨h.len, h.cap, h.capm, h.nl, fun x hx => S.mono hb (h.all x hx), fun hn => by
    obtain ⟨b, off, ha, hlt, hc⟩ := h.cells hn
    exact ⟨b, off, ha, Nat.lt_of_lt_of_le hlt hb.size, fun i hi j u hu => (hb.cell (p := ⟨b, off + i * S.K + j, none⟩) hlt).trans (hc i hi j u hu)⟩⟩
theorem VecAt.empty (w : World) (a : Option Addr) (c : Nat) (hc : c ≤ 9223372036854775807) (ha : a = none → c = 0) : VecAt S w a 0 c [] :=
  ⟨rfl, Nat.zero_le _, hc, ha, (fun x hx => by cases hx), fun h => absurd h (Nat.lt_irrefl 0)⟩
theorem vec_mem {i : Nat} (h : i < l.length) : l.getD i S.z ∈ l := by
  have : l.getD i S.z = l[i] := by simp [h]
  rw [this]; exact List.getElem_mem h
theorem VecAt.get (h : VecAt S w a n c l) {i : Nat} (hi : i < n) : ∃ b off, a = some ⟨b, off, none⟩ ∧ b < w.heap.size ∧ S.ok w (l.getD i S.z) ∧ ∀ j u, (S.f (l.getD i S.z))[j]? = some u → w.cell? ⟨b, off + i * S.K + j, none⟩ = some u := by
  obtain ⟨b, off, ha, hlt, hc⟩ := h.cells (by omega)
  exact ⟨b, off, ha, hlt, h.all _ (vec_mem (by rw [h.len]; exact hi)), hc i hi⟩
theorem VecAt.ofOwn {base : Nat} {e : TypeId} (h : w.ownsRow base e S.K (.slice a n c) n (S.flat l)) (hl : l.length = n) (hok : ∀ x ∈ l, S.ok w x) : VecAt S w a n c l := by
  rcases h.2 with ⟨he, h0⟩ | ⟨g, cap, cur, he, hg, hh, hnc, hcap, hsz, htake⟩
  · cases he
    obtain rfl : l = [] := List.eq_nil_of_length_eq_zero hl
    exact VecAt.empty w none 0 (by omega) (fun _ => rfl)
  · cases he
    refine ⟨hl, hnc, by unfold maxLen at hcap; exact hcap, (fun e => by cases e), hok, fun hp => ⟨g, 0, rfl, (Array.getElem?_eq_some_iff.1 hh).1, fun i hi j u hu => ?_⟩⟩
    have hj : j < S.K := by rw [← S.wid (l.getD i S.z)]; exact (List.getElem?_eq_some_iff.1 hu).1
    have h2 : (S.flat l)[i * S.K + j]? = some u := by
      unfold Sty.flat
      rw [vflat_at S.f S.K S.wid S.z l i j (by omega) hj, hu]
    have hlt : i * S.K + j < n * S.K := by
      have := Nat.mul_le_mul_right S.K (show i + 1 ≤ n by omega)
      rw [Nat.succ_mul] at this; omega
    rw [Nat.zero_add, cell_of_row w _ _ _ _ (0, 0) hh, ← h2, ← htake, List.getElem?_take_of_lt hlt, Array.getElem?_toList]
theorem Sty.flat_len (S : Sty α) (l : List α) : (S.flat l).length = l.length * S.K := Go.Proofs.YtbdgcfimbblncaaGreatDoor.vflat_len S.f S.K S.wid l
theorem Sty.flat_snoc (S : Sty α) (l : List α) (x : α) : S.flat (l ++ [x]) = S.flat l ++ S.f x := by unfold Sty.flat; simp
theorem Sty.flat_one (S : Sty α) (l : List α) : ∀ u ∈ S.flat l, u.oneCell' = true := by
  intro u hu
  obtain ⟨x, _, hx⟩ := List.mem_flatMap.1 hu
  exact S.one x u hx
theorem VecAt.src {ad : Addr} (h : VecAt S w (some ad) n c l) : ∀ j u, (S.flat l)[j]? = some u → w.cell? (ad.add j) = some u := by
  intro j u hu
  have hj : j < n * S.K := by rw [← h.len, ← S.flat_len]; exact (List.getElem?_eq_some_iff.1 hu).1
  have hn : 0 < n := by
    rcases Nat.eq_zero_or_pos n with e | e
    · rw [e, Nat.zero_mul] at hj; omega
    · exact e
  obtain ⟨b, off, he, hlt, hc⟩ := h.cells hn
  cases he
  have hdiv : j / S.K < n := (Nat.div_lt_iff_lt_mul S.pos).2 hj
  have hmod : j % S.K < S.K := Nat.mod_lt _ S.pos
  have e1 : j / S.K * S.K + j % S.K = j := by rw [Nat.mul_comm]; exact Nat.div_add_mod j S.K
  have h2 := vflat_at S.f S.K S.wid S.z l (j / S.K) (j % S.K) (by rw [h.len]; exact hdiv) hmod
  rw [e1] at h2
  have h3 := hc (j / S.K) hdiv (j % S.K) u (by rw [← h2]; exact hu)
  have h4 : (⟨b, off, none⟩ : Addr).add j = ⟨b, off + j, none⟩ := by unfold Addr.add; split <;> simp_all
  rw [h4, ← h3, Nat.add_assoc, e1]
end
/-- one thing, newly laid -/
theorem Sty.src {α : Type} (S : Sty α) (w : World) (x : α) (t : TypeId) {cs : Array Value} (hcs : cs = (S.f x).toArray) : ∀ j u, (S.f x)[j]? = some u → (w.alloc (.cells cs t)).cell? ((⟨w.heap.size, 0, none⟩ : Addr).add j) = some u := by
  intro j u hj
  have hblk := heap_alloc_new w (.cells cs t)
  have hadd : (⟨w.heap.size, 0, none⟩ : Addr).add j = ⟨w.heap.size, 0 + j, none⟩ := by unfold Addr.add; split <;> simp_all
  rw [hadd, Nat.zero_add, cell_of_row _ _ _ _ _ (0, 0) hblk, hcs, List.getElem?_toArray]
  exact hj
theorem vec_wadd {H : Type} {P : Program} {e : TypeId} {d : DataW H} {n : Nat} : ∀ {l : List (DataW H)}, d ∈ l → n ∈ DataW.weights P e d → n ∈ DataW.weightsAll P e l
  | [], h, _ => by cases h
  | x :: r, h, hn => by
    rw [DataW.weightsAll]
    rcases List.mem_cons.1 h with rfl | h
    · exact List.mem_append_left _ hn
    · exact List.mem_append_right _ (vec_wadd h hn)
/-- opened, as a law's argument -/
theorem open_vec {α : Type} (S : Sty α) {H : Type} {enc : TypeId × Value → H} {W : World} {fuel : Nat} {T e : TypeId} {a : Option Addr} {len cap : Nat} {x : DataW H × List MemPlace} (ht : Tryz.prog.underlying T = some (.slice e)) (hK : Tryz.prog.cellsOf e = S.K)
    (hfld : ∀ (fuel : Nat) (cs : List Value) (y : DataW H × List MemPlace), DataW.trod enc Tryz.prog W 0 (fun _ => true) true fuel e cs = some y → (∀ n, n ∈ DataW.weights Tryz.prog e y.1 → n ≤ reachBytes) → ∃ r : α, cs = S.f r ∧ S.ok W r)
    (hf : DataW.trod enc Tryz.prog W 0 (fun _ => true) true fuel T [.slice a len cap] = some x) (hw : ∀ n, n ∈ DataW.weights Tryz.prog T x.1 → n ≤ reachBytes) : ∃ l : List α, VecAt S W a len cap l := by
  rcases open_slice ht hf with ⟨hcs, _⟩ | ⟨x0, l, c, m, n, D, Pl, hcs, _, hl, hm, hmm, hx, hi⟩
  · simp at hcs
    obtain ⟨rfl, rfl, rfl⟩ := hcs
    exact ⟨[], VecAt.empty W none 0 (by omega) (fun _ => rfl)⟩
  · simp at hcs
    obtain ⟨rfl, rfl, rfl⟩ := hcs
    rw [hK] at hi
    have hm2 : m = cap := by rw [hmm]; simp
    have hone : ∀ i : Nat, ∃ r : α, i < len → (∀ j u, (S.f r)[j]? = some u → W.cell? (x0.add (i * S.K + j)) = some u) ∧ S.ok W r := by
      intro i
      by_cases hil : i < len
      · obtain ⟨cs, hcc, ht2⟩ := hi i (by omega)
        obtain ⟨r, rfl, hok⟩ := hfld _ _ _ ht2 (fun n hn => hw n (by
          rw [hx]
          simp only [DataW.weights, ht]
          exact List.mem_cons_of_mem _ (List.mem_append_left _ (vec_wadd (List.mem_map.2 ⟨i, List.mem_range.2 hil, rfl⟩) hn))))
        obtain ⟨_, hl9, hat⟩ := World.cells?_some hcc
        refine ⟨r, fun _ => ⟨fun j u hu => ?_, hok⟩⟩
        have := hat j (by rw [← hl9]; exact (List.getElem?_eq_some_iff.1 hu).1)
        rw [add_add, hu] at this
        exact this
      · exact ⟨S.z, fun h => absurd h hil⟩
    obtain ⟨f, hF⟩ := Classical.skolem.1 hone
    have hget : ∀ i, i < len → ((List.range len).map f).getD i S.z = f i := fun i h => by simp [h]
    refine ⟨(List.range len).map f, by simp, hl, by unfold maxLen at hm; exact hm, (fun e => by cases e), ?_, fun hp => ?_⟩
    · intro y hy
      obtain ⟨i, hi', rfl⟩ := List.mem_map.1 hy
      exact (hF i (List.mem_range.1 hi')).2
    · obtain ⟨b, off, spot⟩ := x0
      have h00 : 0 < (S.f (f 0)).length := by rw [S.wid]; exact S.pos
      have hc := (hF 0 hp).1 0 _ (List.getElem?_eq_getElem h00)
      have hspot : spot = none := by simpa [Addr.add] using World.cell?_spot hc
      subst hspot
      refine ⟨b, off, rfl, ?_, fun i hi' j u hu => ?_⟩
      · have := World.block_lt_of_cell? W _ hc
        simpa [Addr.add] using this
      · rw [hget i hi'] at hu
        have h0 := (hF i hi').1 j u hu
        have h4 : (⟨b, off, none⟩ : Addr).add (i * S.K + j) = ⟨b, off + (i * S.K + j), none⟩ := by unfold Addr.add; split <;> simp_all
        rw [h4, ← Nat.add_assoc] at h0
        exact h0
/-- integers, as things of one cell -/
def IntS : Sty Int := ⟨fun z => [.int .i64 z], 1, 0, fun _ z => (Lit.int .i64 z).wf = true, by decide, fun _ => rfl, (fun x u hu => by rw [List.mem_singleton.1 hu]; rfl), fun _ h => h⟩
end Go.Proofs.YtbdgcfimbblncaaGreatDoor
end PkMR2_1
section PkMR2_2
/- Labels, plainly: names, sets, what is asked of them. No Go in sight. -/
namespace Go.Proofs.YtbdgcfimbblncaaGreatDoor.LabPlain
open Go
set_option linter.unusedVariables false

/-- a text's byte -/
def at_ (s : ByteArray) (i : Nat) : Nat := (s.data.toList.getD i 0).toNat
theorem at_get (s : ByteArray) (i : Nat) (h : i < s.size) : at_ s i = (s[i]'h).toNat := by
  unfold at_
  have h2 : i < s.data.toList.length := by simpa using h
  rw [List.getD_eq_getElem?_getD, List.getElem?_eq_getElem h2]
  rfl
theorem at_lt (s : ByteArray) (i : Nat) : at_ s i < 256 := UInt8.toNat_lt _
/-- is it a small letter; may it stand in a name? -/
def isL (c : Nat) : Bool := decide (97 ≤ c) && decide (c ≤ 122)
def okC (c : Nat) : Bool := isL c || decide (c = 95) || (decide (48 ≤ c) && decide (c ≤ 57))
/-- are the first k bytes such? -/
def allC (s : ByteArray) : Nat → Bool
  | 0 => true
  | k + 1 => allC s k && okC (at_ s k)
theorem allC_no {s : ByteArray} {k : Nat} (h : okC (at_ s k) = false) : ∀ d, allC s (k + 1 + d) = false
  | 0 => by simp [allC, h]
  | d + 1 => by rw [← Nat.add_assoc, allC, allC_no h d]; rfl
/-- a name -/
def isNm (s : ByteArray) : Bool := decide (1 ≤ s.size) && decide (s.size ≤ 8) && isL (at_ s 0) && allC s s.size

/-- one text ahead of another one -/
def ltB (a b : ByteArray) : Bool := Op.bytesLess a.toList b.toList
theorem bl_irrefl : ∀ a : List UInt8, Op.bytesLess a a = false
  | [] => rfl
  | a :: x => by simp [Op.bytesLess, bl_irrefl x]
theorem bl_trans : ∀ a b c : List UInt8, Op.bytesLess a b = true → Op.bytesLess b c = true → Op.bytesLess a c = true
  | a, b, [], _, h2 => by cases b <;> simp [Op.bytesLess] at h2
  | a, [], c :: z, h1, _ => by cases a <;> simp [Op.bytesLess] at h1
  | [], b :: y, c :: z, _, _ => rfl
  | a :: x, b :: y, c :: z, h1, h2 => by
    simp only [Op.bytesLess, Bool.or_eq_true, decide_eq_true_eq, Bool.and_eq_true, beq_iff_eq] at h1 h2 ⊢
    rcases h1 with h1 | ⟨h1, h1'⟩
    · rcases h2 with h2 | ⟨h2, _⟩
      · exact .inl (UInt8.lt_trans h1 h2)
      · subst h2; exact .inl h1
    · subst h1
      rcases h2 with h2 | ⟨h2, h2'⟩
      · exact .inl h2
      · subst h2
        exact .inr ⟨rfl, bl_trans x y z h1' h2'⟩
theorem bl_total : ∀ a b : List UInt8, a ≠ b → Op.bytesLess a b = false → Op.bytesLess b a = true
  | [], [], h, _ => absurd rfl h
  | [], b :: y, _, h => by simp [Op.bytesLess] at h
  | a :: x, [], _, _ => rfl
  | a :: x, b :: y, hne, h => by
    simp only [Op.bytesLess, Bool.or_eq_false_iff, decide_eq_false_iff_not, Bool.and_eq_false_imp, beq_iff_eq] at h
    simp only [Op.bytesLess, Bool.or_eq_true, decide_eq_true_eq, Bool.and_eq_true, beq_iff_eq]
    by_cases e : a = b
    · subst e
      exact .inr ⟨rfl, bl_total x y (fun e => hne (by rw [e])) (h.2 rfl)⟩
    · refine .inl ?_
      have h1 := h.1
      rw [UInt8.not_lt] at h1
      rcases UInt8.lt_or_eq_of_le h1 with g | g
      · exact g
      · exact absurd g.symm e
theorem leq_not (a b : ByteArray) : (Op.bytesLess a.toList b.toList || a.toList == b.toList) = !ltB b a := by
  unfold ltB
  cases h : Op.bytesLess b.toList a.toList with
  | true =>
    rw [Bool.not_true, Bool.or_eq_false_iff]
    refine ⟨?_, ?_⟩
    · cases h2 : Op.bytesLess a.toList b.toList with
      | false => rfl
      | true => have := bl_trans _ _ _ h2 h; rw [bl_irrefl] at this; cases this
    · rw [beq_eq_false_iff_ne]; intro e; rw [e, bl_irrefl] at h; cases h
  | false =>
    rw [Bool.not_false]
    by_cases e : a.toList = b.toList
    · rw [e]; simp
    · rw [bl_total _ _ (fun e2 => e e2.symm) h]; rfl
theorem ltB_irrefl (a : ByteArray) : ltB a a = false := bl_irrefl _
theorem ltB_trans {a b c : ByteArray} (h1 : ltB a b = true) (h2 : ltB b c = true) : ltB a c = true := bl_trans _ _ _ h1 h2
theorem toList_inj {a b : ByteArray} (h : a.toList = b.toList) : a = b := by
  rw [ByteArray.toList_eq, ByteArray.toList_eq] at h
  cases a; cases b
  simpa using h
theorem eq_toList (a b : ByteArray) : (a.toList == b.toList) = decide (a = b) := by
  rw [Bool.eq_iff_iff, beq_iff_eq, decide_eq_true_eq]
  exact ⟨toList_inj, fun h => by rw [h]⟩

/-- a label: a name and a value -/
abbrev Lab := ByteArray × ByteArray
def lab0 : Lab := (ByteArray.empty, ByteArray.empty)
/-- are the first k right, each behind the one ahead of it? -/
def upTo (l : List Lab) : Nat → Bool
  | 0 => true
  | k + 1 => upTo l k && (isNm (l.getD k lab0).1 && decide ((l.getD k lab0).2.size ≤ 16) && (decide (k = 0) || ltB (l.getD (k - 1) lab0).1 (l.getD k lab0).1))
/-- a label set -/
def isSet (l : List Lab) : Bool := decide (l.length ≤ 4) && upTo l l.length
theorem upTo_no {l : List Lab} {k : Nat} (h : (isNm (l.getD k lab0).1 && decide ((l.getD k lab0).2.size ≤ 16) && (decide (k = 0) || ltB (l.getD (k - 1) lab0).1 (l.getD k lab0).1)) = false) : ∀ d, upTo l (k + 1 + d) = false
  | 0 => by rw [upTo, h, Bool.and_false]
  | d + 1 => by rw [← Nat.add_assoc, upTo, upTo_no h d]; rfl
theorem upTo_le {l : List Lab} {k : Nat} (h : upTo l k = true) {j : Nat} (hj : j < k) : isNm (l.getD j lab0).1 = true ∧ (l.getD j lab0).2.size ≤ 16 ∧ (j = 0 ∨ ltB (l.getD (j - 1) lab0).1 (l.getD j lab0).1 = true) := by
  obtain ⟨d, rfl⟩ : ∃ d, k = j + 1 + d := ⟨k - (j + 1), by omega⟩
  cases hc : (isNm (l.getD j lab0).1 && decide ((l.getD j lab0).2.size ≤ 16) && (decide (j = 0) || ltB (l.getD (j - 1) lab0).1 (l.getD j lab0).1)) with
  | false => rw [upTo_no hc d] at h; cases h
  | true => simpa [Bool.and_assoc] using hc
/-- names rise all along -/
theorem upTo_lt {l : List Lab} {k : Nat} (h : upTo l k = true) : ∀ d i, i + 1 + d < k → ltB (l.getD i lab0).1 (l.getD (i + 1 + d) lab0).1 = true
  | 0, i, hi => by
    rcases (upTo_le h (j := i + 1) (by omega)).2.2 with g | g
    · omega
    · exact g
  | d + 1, i, hi => by
    rcases (upTo_le h (j := i + 1 + (d + 1)) (by omega)).2.2 with g | g
    · omega
    · exact ltB_trans (upTo_lt h d i (by omega)) g
end Go.Proofs.YtbdgcfimbblncaaGreatDoor.LabPlain
end PkMR2_2
section PkMR2_3
/- Manifests: entries, marks and owners where they lie; small functions, walked. Written by genmfa.py. -/
namespace Go.Proofs.YtbdgcfimbblncaaGreatDoor
open Go.RowKit LabPlain
set_option linter.unusedVariables false

structure EntV where
  key : ByteArray
  win : Int
  part : ByteArray
  fst : Int
  lst : Int
  rows : Int
  size : Int
  sum : Int
  born : Int
def ent0 : EntV := ⟨ByteArray.empty, 0, ByteArray.empty, 0, 0, 0, 0, 0, 0⟩
def EntV.cells (x : EntV) : List Value := [.string x.key, .int .i64 x.win, .string x.part, .int .i64 x.fst, .int .i64 x.lst, .int .i64 x.rows, .int .i64 x.size, .int .u32 x.sum, .int .i64 x.born]
def EntS : Sty EntV := ⟨EntV.cells, 9, ent0, fun _ x => x.key.size ≤ 140737488355328 ∧ x.part.size ≤ 140737488355328 ∧ (0 ≤ x.sum ∧ x.sum ≤ 4294967295), by decide, fun _ => rfl, (fun x u hu => by simp [EntV.cells] at hu; rcases hu with rfl | rfl | rfl | rfl | rfl | rfl | rfl | rfl | rfl <;> rfl), fun _ h => h⟩
def MarkS : Sty (Int × Int) := ⟨fun x => [.int .i64 x.1, .int .i64 x.2], 2, (0, 0), fun _ _ => True, by decide, fun _ => rfl, (fun x u hu => by simp at hu; rcases hu with rfl | rfl <;> rfl), fun _ h => h⟩
def OwnS : Sty (Int × Int × Int) := ⟨fun x => [.int .i64 x.1, .int .i64 x.2.1, .int .i64 x.2.2], 3, (0, 0, 0), fun _ _ => True, by decide, fun _ => rfl, (fun x u hu => by simp at hu; rcases hu with rfl | rfl | rfl <;> rfl), fun _ h => h⟩

theorem within_yes {n a b : Int} (h1 : a ≤ n) (h2 : n ≤ b) (w : World) : Calls Tryz.prog 34 #[.int .i64 n, .int .i64 a, .int .i64 b] w fun e w' => e = .returned (.bool true) ∧ w' = w := by
  go_enter Tryz.func34, Tryz.ntmps34
  go_wp2_with fail
  go_ret
  exact ⟨rfl, rfl⟩
set_option maxRecDepth 100000 in
theorem rightMark_yes {a b : Int} (h1 : 1 ≤ a ∧ a ≤ 64) (h2 : 1 ≤ b ∧ b ≤ 1099511627775) (w : World) : Calls Tryz.prog 41 #[.agg #[.int .i64 a, .int .i64 b]] w fun e w' => e = .returned (.bool true) ∧ Below w.heap.size w w' := by
  have HB := Lib.hid ((Below.refl w.heap.size w).alloc (Nat.le_refl _) (.cells #[.int .i64 a, .int .i64 b] 43))
  have HW1 := Lib.hid (within_yes h1.1 h1.2 (w.alloc (.cells #[.int .i64 a, .int .i64 b] 43)))
  have HW2 := Lib.hid (within_yes h2.1 h2.2 (w.alloc (.cells #[.int .i64 a, .int .i64 b] 43)))
  clear h1 h2
  go_enter Tryz.func41, Tryz.ntmps41
  go_wp2_with fail
  refine HW1.out.mono ?_
  rintro e w1 ⟨rfl, rfl⟩
  go_wp2_with fail
  refine HW2.out.mono ?_
  rintro e w1 ⟨rfl, rfl⟩
  go_wp2_with fail
  go_ret
  exact ⟨rfl, HB.out⟩
set_option maxRecDepth 100000 in
theorem rightOwner_yes {a b c : Int} (h1 : 1 ≤ a ∧ a ≤ 8) (h2 : 1 ≤ b ∧ b ≤ 1099511627775) (h3 : 1 ≤ c ∧ c ≤ 1099511627775) (w : World) : Calls Tryz.prog 44 #[.agg #[.int .i64 a, .int .i64 b, .int .i64 c]] w fun e w' => e = .returned (.bool true) ∧ Below w.heap.size w w' := by
  have HB := Lib.hid ((Below.refl w.heap.size w).alloc (Nat.le_refl _) (.cells #[.int .i64 a, .int .i64 b, .int .i64 c] 45))
  have HW1 := Lib.hid (within_yes h1.1 h1.2 (w.alloc (.cells #[.int .i64 a, .int .i64 b, .int .i64 c] 45)))
  have HW2 := Lib.hid (within_yes h2.1 h2.2 (w.alloc (.cells #[.int .i64 a, .int .i64 b, .int .i64 c] 45)))
  have HW3 := Lib.hid (within_yes h3.1 h3.2 (w.alloc (.cells #[.int .i64 a, .int .i64 b, .int .i64 c] 45)))
  clear h1 h2 h3
  go_enter Tryz.func44, Tryz.ntmps44
  go_wp2_with fail
  refine HW1.out.mono ?_
  rintro e w1 ⟨rfl, rfl⟩
  go_wp2_with fail
  refine HW2.out.mono ?_
  rintro e w1 ⟨rfl, rfl⟩
  go_wp2_with fail
  refine HW3.out.mono ?_
  rintro e w1 ⟨rfl, rfl⟩
  go_wp2_with fail
  go_ret
  exact ⟨rfl, HB.out⟩

set_option maxRecDepth 100000 in
theorem rising_nilE (a : Option Addr) (c : Nat) (cf rf : Value) (w : World) : Calls Tryz.prog 37 #[.slice a 0 c, cf, rf] w fun e w' => e = .returned (.bool true) ∧ w' = w := by
  go_enter Tryz.func37, Tryz.ntmps37
  go_wp2_with fail
  refine wp_loop_rounds 1 ?_
  rw [rounds_succ]
  go_wp2_with fail
  go_ret
  exact ⟨rfl, rfl⟩

set_option maxRecDepth 100000 in
theorem rising_nilM (a : Option Addr) (c : Nat) (cf rf : Value) (w : World) : Calls Tryz.prog 39 #[.slice a 0 c, cf, rf] w fun e w' => e = .returned (.bool true) ∧ w' = w := by
  go_enter Tryz.func39, Tryz.ntmps39
  go_wp2_with fail
  refine wp_loop_rounds 1 ?_
  rw [rounds_succ]
  go_wp2_with fail
  go_ret
  exact ⟨rfl, rfl⟩

set_option maxRecDepth 100000 in
theorem rising_nilO (a : Option Addr) (c : Nat) (cf rf : Value) (w : World) : Calls Tryz.prog 42 #[.slice a 0 c, cf, rf] w fun e w' => e = .returned (.bool true) ∧ w' = w := by
  go_enter Tryz.func42, Tryz.ntmps42
  go_wp2_with fail
  refine wp_loop_rounds 1 ?_
  rw [rounds_succ]
  go_wp2_with fail
  go_ret
  exact ⟨rfl, rfl⟩

set_option maxRecDepth 100000 in
theorem rising_nilS (a : Option Addr) (c : Nat) (cf rf : Value) (w : World) : Calls Tryz.prog 98 #[.slice a 0 c, cf, rf] w fun e w' => e = .returned (.bool true) ∧ w' = w := by
  go_enter Tryz.func98, Tryz.ntmps98
  go_wp2_with fail
  refine wp_loop_rounds 1 ?_
  rw [rounds_succ]
  go_wp2_with fail
  go_ret
  exact ⟨rfl, rfl⟩

end Go.Proofs.YtbdgcfimbblncaaGreatDoor
end PkMR2_3
section PkMR2_4
/- Manifests: a mark, an entry looked up, walked. Written by genmfb.py. -/
namespace Go.Proofs.YtbdgcfimbblncaaGreatDoor
open Go.RowKit LabPlain
set_option linter.unusedVariables false

def cmp3 (x y : Int) : Int := if x < y then -1 else if y < x then 1 else 0
def cmpS (x y : ByteArray) : Int := if ltB x y = true then -1 else if ltB y x = true then 1 else 0
theorem cmp3_0 {x y : Int} : cmp3 x y = 0 ↔ x = y := by
  unfold cmp3
  by_cases h1 : x < y
  · simp [h1]; omega
  · by_cases h2 : y < x
    · simp [h1, h2]; omega
    · simp [h1, h2]; omega
theorem txt_ne {x y : ByteArray} (h : x ≠ y) : (x.toList == y.toList) = false := by
  rw [beq_eq_false_iff_ne]
  exact fun e => h (ByteArray.ext (Array.toList_inj.1 (by rw [← ByteArray.toList_eq, ← ByteArray.toList_eq]; exact e)))
theorem ltB_total' {x y : ByteArray} (h : ltB x y = false) (h2 : ltB y x = false) : x = y := by
  have h1 := leq_not y x
  rw [h] at h1
  simp only [Bool.not_false, Bool.or_eq_true, beq_iff_eq] at h1
  rcases h1 with g | g
  · have : ltB y x = true := g
    rw [h2] at this; cases this
  · exact (ByteArray.ext (Array.toList_inj.1 (by rw [← ByteArray.toList_eq, ← ByteArray.toList_eq]; exact g))).symm
theorem nan_any (x : Int) (w : World) : Calls Tryz.prog 117 #[.int .i64 x] w fun e w' => e = .returned (.bool false) ∧ w' = w := by
  have z : (x != x) = false := by simp
  go_enter Tryz.func117, Tryz.ntmps117
  go_wp2_with fail
  go_ret
  exact ⟨rfl, rfl⟩
theorem nanS_any (x : ByteArray) (w : World) : Calls Tryz.prog 116 #[.string x] w fun e w' => e = .returned (.bool false) ∧ w' = w := by
  have z : (x.toList == x.toList) = true := by simp
  go_enter Tryz.func116, Tryz.ntmps116
  go_wp2_with fail
  go_ret
  exact ⟨rfl, rfl⟩

theorem cmpI_any (x y : Int) (w : World) : Calls Tryz.prog 85 #[.int .i64 x, .int .i64 y] w fun e w' => e = .returned (.int .i64 (cmp3 x y)) ∧ w' = w := by
  rcases Int.lt_trichotomy x y with h | h | h
  · have hh : ¬ y < x := by omega
    go_enter Tryz.func85, Tryz.ntmps85
    go_wp2_with fail
    refine (nan_any x w).mono ?_
    rintro e w2 ⟨rfl, rfl⟩
    go_wp2_with fail
    refine (nan_any y w2).mono ?_
    rintro e w3 ⟨rfl, rfl⟩
    go_wp2_with fail
    go_ret
    exact ⟨by simp [cmp3, h], rfl⟩
  · subst h
    go_enter Tryz.func85, Tryz.ntmps85
    go_wp2_with fail
    refine (nan_any x w).mono ?_
    rintro e w2 ⟨rfl, rfl⟩
    go_wp2_with fail
    refine (nan_any x w2).mono ?_
    rintro e w3 ⟨rfl, rfl⟩
    go_wp2_with fail
    go_ret
    exact ⟨by simp [cmp3], rfl⟩
  · have hh : ¬ x < y := by omega
    go_enter Tryz.func85, Tryz.ntmps85
    go_wp2_with fail
    refine (nan_any x w).mono ?_
    rintro e w2 ⟨rfl, rfl⟩
    go_wp2_with fail
    refine (nan_any y w2).mono ?_
    rintro e w3 ⟨rfl, rfl⟩
    go_wp2_with fail
    go_ret
    exact ⟨by simp [cmp3, h, hh], rfl⟩
theorem cmpS_any (x y : ByteArray) (w : World) : Calls Tryz.prog 84 #[.string x, .string y] w fun e w' => e = .returned (.int .i64 (cmpS x y)) ∧ w' = w := by
  cases h1 : ltB x y with
  | true =>
    have b1 : Op.bytesLess x.toList y.toList = true := h1
    have HE := Lib.hid h1
    clear h1
    go_enter Tryz.func84, Tryz.ntmps84
    go_wp2_with fail
    refine (nanS_any x w).mono ?_
    rintro e w2 ⟨rfl, rfl⟩
    go_wp2_with fail
    refine (nanS_any y w2).mono ?_
    rintro e w3 ⟨rfl, rfl⟩
    go_wp2_with fail
    go_ret
    exact ⟨by unfold cmpS; rw [if_pos HE.out]; rfl, rfl⟩
  | false =>
    have b1 : Op.bytesLess x.toList y.toList = false := h1
    have HE := Lib.hid h1
    clear h1
    cases h2 : ltB y x with
    | true =>
      have b2 : Op.bytesLess y.toList x.toList = true := h2
      have heq : (x.toList == y.toList) = false := txt_ne (fun e => by rw [e, ltB_irrefl] at h2; cases h2)
      have HE2 := Lib.hid h2
      clear h2
      go_enter Tryz.func84, Tryz.ntmps84
      go_wp2_with fail
      refine (nanS_any x w).mono ?_
      rintro e w2 ⟨rfl, rfl⟩
      go_wp2_with fail
      refine (nanS_any y w2).mono ?_
      rintro e w3 ⟨rfl, rfl⟩
      go_wp2_with fail
      go_ret
      exact ⟨by unfold cmpS; rw [if_neg (by rw [HE.out]; simp), if_pos HE2.out]; rfl, rfl⟩
    | false =>
      have b2 : Op.bytesLess y.toList x.toList = false := h2
      have heq : (x.toList == y.toList) = true := by rw [ltB_total' HE.out h2]; simp
      have HE2 := Lib.hid h2
      clear h2
      go_enter Tryz.func84, Tryz.ntmps84
      go_wp2_with fail
      refine (nanS_any x w).mono ?_
      rintro e w2 ⟨rfl, rfl⟩
      go_wp2_with fail
      refine (nanS_any y w2).mono ?_
      rintro e w3 ⟨rfl, rfl⟩
      go_wp2_with fail
      go_ret
      exact ⟨by unfold cmpS; rw [if_neg (by rw [HE.out]; simp), if_neg (by rw [HE2.out]; simp)]; rfl, rfl⟩
theorem cmpS_0 {x y : ByteArray} : cmpS x y = 0 ↔ x = y := by
  unfold cmpS
  constructor
  · intro h
    split at h
    · cases h
    · split at h
      · cases h
      · rename_i h1 h2
        exact ltB_total' (by simpa using h1) (by simpa using h2)
  · intro h
    rw [h, ltB_irrefl]; rfl
theorem find_at {α : Type} (p : α → Bool) (d : α) : ∀ (l : List α) (k : Nat), k < l.length → (∀ j, j < k → p (l.getD j d) = false) → p (l.getD k d) = true → l.find? p = some (l.getD k d)
  | x :: l, 0, _, _, h => by
    have h' : p x = true := h
    rw [List.find?_cons, h']; rfl
  | x :: l, k + 1, hk, h1, h => by
    have hx : p x = false := h1 0 (by omega)
    rw [List.find?_cons, hx]
    exact find_at p d l k (by simpa using hk) (fun j hj => h1 (j + 1) (by omega)) h
theorem find_no {α : Type} (p : α → Bool) (d : α) : ∀ (l : List α), (∀ j, j < l.length → p (l.getD j d) = false) → l.find? p = none
  | [], _ => rfl
  | x :: l, h => by
    have hx : p x = false := h 0 (by simp)
    rw [List.find?_cons, hx]
    exact find_no p d l (fun j hj => h (j + 1) (by simpa using hj))
theorem hao9 (w : World) (o : Obj) (i : Nat) (h : i < w.heap.size) : (w.alloc o).heap[i]? = w.heap[i]? := by
  show (w.heap.push o)[i]? = _
  rw [Array.getElem?_push]
  simp [Nat.ne_of_lt h]
theorem heap_set {w : World} {B : Nat} {cur : Array Value} {t : TypeId} (g : w.heap[B]? = some (.cells cur t (0, 0))) (i : Nat) (u : Value) : (w.setCell ⟨B, i, none⟩ u).heap[B]? = some (.cells (cur.setIfInBounds i u) t (0, 0)) := heap_setCell_same w B i cur t u g
theorem cell_blk {w : World} {B : Nat} {cur : Array Value} {t : TypeId} (g : w.heap[B]? = some (.cells cur t (0, 0))) {i : Nat} {u : Value} (h : cur[i]? = some u) : w.cell? ⟨B, i, none⟩ = some u := by rw [cell_of_row w _ _ _ _ (0, 0) g]; exact h
theorem fro_blk {w : World} {B : Nat} {cur : Array Value} {t : TypeId} (g : w.heap[B]? = some (.cells cur t (0, 0))) (i : Nat) : w.frozen? ⟨B, i, none⟩ = false := by simp [World.frozen?, g]
theorem ret_cell_tmp {P : Program} {fn : Func} {p u : Tmp} {ty : TypeId} (h : fn.results = #[.cell p ty, .tmp u]) (tmps : Array Value) (w : World) (g : Nat) (t : TypeId) (cs : Array Value) (fr : Nat × Nat) (d : TypeDesc)
    (hp : tmps.getD p undef = .pointer (some ⟨g, 0, none⟩)) (hg : w.heap[g]? = some (.cells cs t fr))
    (hu : P.underlying ty = some d) (hd : (match d with | .struct _ | .array _ _ => true | _ => false) = true) (hi : (P.info? ty).map (·.size) = some cs.size) :
    (results fn tmps).run P w = .ok (.tuple #[.agg cs, tmps.getD u undef]) w := by
  rw [results_cell_tmp h]
  have hp' : tmps[p]?.getD undef = .pointer (some ⟨g, 0, none⟩) := by simpa using hp
  simp [hp', asAddr, run_loadVar_row w g t ty cs fr d hg hu hd hi, Result.andThen]

theorem setM {v : World} {R : Nat} {c0 c1 : Value} {t : TypeId} (g : v.heap[R]? = some (.cells #[c0, c1] t (0, 0))) (x0 : Int) (x1 : Int) : ((v.setCell ⟨R, 0, none⟩ (.int .i64 x0)).setCell ⟨R, 1, none⟩ (.int .i64 x1)).heap[R]? = some (.cells #[.int .i64 x0, .int .i64 x1] t (0, 0)) := by
  have h := heap_set (heap_set (g) 0 (.int .i64 x0)) 1 (.int .i64 x1)
  simp only [List.setIfInBounds_toArray, List.set_cons_zero, List.set_cons_succ] at h
  exact h
theorem belowM {B R : Nat} {w v : World} (h : Below B w v) (hR : B ≤ R) (x0 : Int) (x1 : Int) : Below B w ((v.setCell ⟨R, 0, none⟩ (.int .i64 x0)).setCell ⟨R, 1, none⟩ (.int .i64 x1)) :=
  ((((h).setCell (p := ⟨R, 0, none⟩) hR (.int .i64 x0))).setCell (p := ⟨R, 1, none⟩) hR (.int .i64 x1))

theorem setO {v : World} {R : Nat} {c0 c1 c2 : Value} {t : TypeId} (g : v.heap[R]? = some (.cells #[c0, c1, c2] t (0, 0))) (x0 : Int) (x1 : Int) (x2 : Int) : (((v.setCell ⟨R, 0, none⟩ (.int .i64 x0)).setCell ⟨R, 1, none⟩ (.int .i64 x1)).setCell ⟨R, 2, none⟩ (.int .i64 x2)).heap[R]? = some (.cells #[.int .i64 x0, .int .i64 x1, .int .i64 x2] t (0, 0)) := by
  have h := heap_set (heap_set (heap_set (g) 0 (.int .i64 x0)) 1 (.int .i64 x1)) 2 (.int .i64 x2)
  simp only [List.setIfInBounds_toArray, List.set_cons_zero, List.set_cons_succ] at h
  exact h
theorem belowO {B R : Nat} {w v : World} (h : Below B w v) (hR : B ≤ R) (x0 : Int) (x1 : Int) (x2 : Int) : Below B w (((v.setCell ⟨R, 0, none⟩ (.int .i64 x0)).setCell ⟨R, 1, none⟩ (.int .i64 x1)).setCell ⟨R, 2, none⟩ (.int .i64 x2)) :=
  ((((((h).setCell (p := ⟨R, 0, none⟩) hR (.int .i64 x0))).setCell (p := ⟨R, 1, none⟩) hR (.int .i64 x1))).setCell (p := ⟨R, 2, none⟩) hR (.int .i64 x2))

theorem setE {v : World} {R : Nat} {c0 c1 c2 c3 c4 c5 c6 c7 c8 : Value} {t : TypeId} (g : v.heap[R]? = some (.cells #[c0, c1, c2, c3, c4, c5, c6, c7, c8] t (0, 0))) (x0 : ByteArray) (x1 : Int) (x2 : ByteArray) (x3 : Int) (x4 : Int) (x5 : Int) (x6 : Int) (x7 : Int) (x8 : Int) : (((((((((v.setCell ⟨R, 0, none⟩ (.string x0)).setCell ⟨R, 1, none⟩ (.int .i64 x1)).setCell ⟨R, 2, none⟩ (.string x2)).setCell ⟨R, 3, none⟩ (.int .i64 x3)).setCell ⟨R, 4, none⟩ (.int .i64 x4)).setCell ⟨R, 5, none⟩ (.int .i64 x5)).setCell ⟨R, 6, none⟩ (.int .i64 x6)).setCell ⟨R, 7, none⟩ (.int .u32 x7)).setCell ⟨R, 8, none⟩ (.int .i64 x8)).heap[R]? = some (.cells #[.string x0, .int .i64 x1, .string x2, .int .i64 x3, .int .i64 x4, .int .i64 x5, .int .i64 x6, .int .u32 x7, .int .i64 x8] t (0, 0)) := by
  have h := heap_set (heap_set (heap_set (heap_set (heap_set (heap_set (heap_set (heap_set (heap_set (g) 0 (.string x0)) 1 (.int .i64 x1)) 2 (.string x2)) 3 (.int .i64 x3)) 4 (.int .i64 x4)) 5 (.int .i64 x5)) 6 (.int .i64 x6)) 7 (.int .u32 x7)) 8 (.int .i64 x8)
  simp only [List.setIfInBounds_toArray, List.set_cons_zero, List.set_cons_succ] at h
  exact h
theorem belowE {B R : Nat} {w v : World} (h : Below B w v) (hR : B ≤ R) (x0 : ByteArray) (x1 : Int) (x2 : ByteArray) (x3 : Int) (x4 : Int) (x5 : Int) (x6 : Int) (x7 : Int) (x8 : Int) : Below B w (((((((((v.setCell ⟨R, 0, none⟩ (.string x0)).setCell ⟨R, 1, none⟩ (.int .i64 x1)).setCell ⟨R, 2, none⟩ (.string x2)).setCell ⟨R, 3, none⟩ (.int .i64 x3)).setCell ⟨R, 4, none⟩ (.int .i64 x4)).setCell ⟨R, 5, none⟩ (.int .i64 x5)).setCell ⟨R, 6, none⟩ (.int .i64 x6)).setCell ⟨R, 7, none⟩ (.int .u32 x7)).setCell ⟨R, 8, none⟩ (.int .i64 x8)) :=
  ((((((((((((((((((h).setCell (p := ⟨R, 0, none⟩) hR (.string x0))).setCell (p := ⟨R, 1, none⟩) hR (.int .i64 x1))).setCell (p := ⟨R, 2, none⟩) hR (.string x2))).setCell (p := ⟨R, 3, none⟩) hR (.int .i64 x3))).setCell (p := ⟨R, 4, none⟩) hR (.int .i64 x4))).setCell (p := ⟨R, 5, none⟩) hR (.int .i64 x5))).setCell (p := ⟨R, 6, none⟩) hR (.int .i64 x6))).setCell (p := ⟨R, 7, none⟩) hR (.int .u32 x7))).setCell (p := ⟨R, 8, none⟩) hR (.int .i64 x8))

set_option maxRecDepth 100000 in
theorem byM_any (x0 y0 : Int) (x1 y1 : Int) (w : World) : Calls Tryz.prog 40 #[.agg #[.int .i64 x0, .int .i64 x1], .agg #[.int .i64 y0, .int .i64 y1]] w fun e w' => e = .returned (.int .i64 (cmp3 x0 y0)) ∧ Below w.heap.size w w' := by
  have HB := Lib.hid (((Below.refl w.heap.size w).alloc (Nat.le_refl _) (.cells #[.int .i64 x0, .int .i64 x1] 43)).alloc ((Below.refl w.heap.size w).alloc (Nat.le_refl _) (.cells #[.int .i64 x0, .int .i64 x1] 43)).size (.cells #[.int .i64 y0, .int .i64 y1] 43))
  go_enter Tryz.func40, Tryz.ntmps40
  go_wp2_with fail
  refine (cmpI_any x0 y0 _).mono ?_
  rintro e w2 ⟨rfl, rfl⟩
  go_wp2_with fail
  go_ret
  exact ⟨rfl, HB.out⟩

set_option maxRecDepth 100000 in
theorem byO_any (x0 y0 : Int) (x1 y1 : Int) (x2 y2 : Int) (w : World) : Calls Tryz.prog 43 #[.agg #[.int .i64 x0, .int .i64 x1, .int .i64 x2], .agg #[.int .i64 y0, .int .i64 y1, .int .i64 y2]] w fun e w' => e = .returned (.int .i64 (cmp3 x0 y0)) ∧ Below w.heap.size w w' := by
  have HB := Lib.hid (((Below.refl w.heap.size w).alloc (Nat.le_refl _) (.cells #[.int .i64 x0, .int .i64 x1, .int .i64 x2] 45)).alloc ((Below.refl w.heap.size w).alloc (Nat.le_refl _) (.cells #[.int .i64 x0, .int .i64 x1, .int .i64 x2] 45)).size (.cells #[.int .i64 y0, .int .i64 y1, .int .i64 y2] 45))
  go_enter Tryz.func43, Tryz.ntmps43
  go_wp2_with fail
  refine (cmpI_any x0 y0 _).mono ?_
  rintro e w2 ⟨rfl, rfl⟩
  go_wp2_with fail
  go_ret
  exact ⟨rfl, HB.out⟩

set_option maxRecDepth 100000 in
theorem byE_any (x0 y0 : ByteArray) (x1 y1 : Int) (x2 y2 : ByteArray) (x3 y3 : Int) (x4 y4 : Int) (x5 y5 : Int) (x6 y6 : Int) (x7 y7 : Int) (x8 y8 : Int) (w : World) : Calls Tryz.prog 38 #[.agg #[.string x0, .int .i64 x1, .string x2, .int .i64 x3, .int .i64 x4, .int .i64 x5, .int .i64 x6, .int .u32 x7, .int .i64 x8], .agg #[.string y0, .int .i64 y1, .string y2, .int .i64 y3, .int .i64 y4, .int .i64 y5, .int .i64 y6, .int .u32 y7, .int .i64 y8]] w fun e w' => e = .returned (.int .i64 (cmpS x0 y0)) ∧ Below w.heap.size w w' := by
  have HB := Lib.hid (((Below.refl w.heap.size w).alloc (Nat.le_refl _) (.cells #[.string x0, .int .i64 x1, .string x2, .int .i64 x3, .int .i64 x4, .int .i64 x5, .int .i64 x6, .int .u32 x7, .int .i64 x8] 53)).alloc ((Below.refl w.heap.size w).alloc (Nat.le_refl _) (.cells #[.string x0, .int .i64 x1, .string x2, .int .i64 x3, .int .i64 x4, .int .i64 x5, .int .i64 x6, .int .u32 x7, .int .i64 x8] 53)).size (.cells #[.string y0, .int .i64 y1, .string y2, .int .i64 y3, .int .i64 y4, .int .i64 y5, .int .i64 y6, .int .u32 y7, .int .i64 y8] 53))
  go_enter Tryz.func38, Tryz.ntmps38
  go_wp2_with fail
  refine (cmpS_any x0 y0 _).mono ?_
  rintro e w2 ⟨rfl, rfl⟩
  go_wp2_with fail
  go_ret
  exact ⟨rfl, HB.out⟩

/-- what look answers -/
def LkM (l : List (Int × Int)) (y0 : Int) (e : Ending) : Prop := e = .returned (.tuple #[.agg (MarkS.f ((l.find? fun x => decide (x.1 = y0)).getD MarkS.z)).toArray, .bool (l.find? fun x => decide (x.1 = y0)).isSome])
set_option maxRecDepth 100000 in
set_option maxHeartbeats 4000000 in
theorem lookM_any {w : World} {a : Option Addr} {n c : Nat} {l : List (Int × Int)} (h : VecAt MarkS w a n c l) (y0 : Int) (y1 : Int) :
    Calls Tryz.prog 74 #[.slice a n c, .agg #[.int .i64 y0, .int .i64 y1], .func (.func 40) #[] #[]] w fun e w' => LkM l y0 e ∧ Below w.heap.size w w' := by
  have hcap := h.cap
  have hcm := h.capm
  have HH := Lib.hid h
  have HL := Lib.hid h.len
  obtain ⟨wa, hwa⟩ : ∃ wa, wa = w.alloc (.cells #[.int .i64 y0, .int .i64 y1] 43) := ⟨_, rfl⟩
  obtain ⟨wb, hwb⟩ : ∃ wb, wb = wa.alloc (.cells #[.int .i64 0, .int .i64 0] 43) := ⟨_, rfl⟩
  have sa : wa.heap.size = w.heap.size + 1 := by rw [hwa]; exact Array.size_push _
  have sb : wb.heap.size = w.heap.size + 2 := by rw [hwb]; show (wa.heap.push _).size = _; rw [Array.size_push, sa]
  have ba : Below w.heap.size w wa := by rw [hwa]; exact (Below.refl _ _).alloc (Nat.le_refl _) _
  have bb : Below w.heap.size w wb := by rw [hwb]; exact ba.alloc ba.size _
  have gb : wb.heap[w.heap.size + 1]? = some (.cells #[.int .i64 0, .int .i64 0] 43 (0, 0)) := by rw [hwb, ← sa]; exact heap_alloc_new _ _
  have ga : wb.heap[w.heap.size]? = some (.cells #[.int .i64 y0, .int .i64 y1] 43 (0, 0)) := by rw [hwb, hao9 _ _ _ (by omega), hwa]; exact heap_alloc_new _ _
  have HBB := Lib.hid bb
  have HGB := Lib.hid gb
  have HC4 := Lib.hid (show ∀ i u, (#[.int .i64 y0, .int .i64 y1] : Array Value)[i]? = some u → wb.cell? ⟨w.heap.size, i, none⟩ = some u from fun i u hu => cell_blk ga hu)
  have HL4 := Lib.hid (show w.heap.size < wb.heap.size by omega)
  have HSB := Lib.hid sb
  have HWB := Lib.hid (show wb = (w.alloc (.cells #[.int .i64 y0, .int .i64 y1] 43)).alloc (.cells #[.int .i64 0, .int .i64 0] 43) by rw [hwb, hwa])
  clear h hwa hwb sa sb ba bb gb ga
  go_enter Tryz.func74, Tryz.ntmps74
  go_wp2_with fail
  rw [← HWB.out]
  go_loopw [9, 13] (fun s9 s13 wr => ∃ k : Nat, k ≤ n ∧ s13 = .int .i64 (k : Int) ∧ Hid (∀ j, j < k → (fun x => decide (x.1 = y0)) (l.getD j MarkS.z) = false) ∧ Hid (Below wb.heap.size wb wr)) (fun _ s13 _ => n - (intOf s13).toNat)
  case atStart => exact ⟨0, by omega, rfl, Lib.hid (fun j hj => by omega), Lib.hid (Below.refl _ _)⟩
  case round =>
    obtain ⟨k, hk, rfl, HN, HB⟩ := hrel
    rename World => wr
    have hl4 : w.heap.size < wr.heap.size := Nat.lt_of_lt_of_le HL4.out HB.out.size
    have q0 : wr.cell? ⟨w.heap.size, 0, none⟩ = some (.int .i64 y0) := (HB.out.cell (p := ⟨w.heap.size, 0, none⟩) HL4.out).trans (HC4.out 0 _ rfl)
    have q1 : wr.cell? ⟨w.heap.size, 1, none⟩ = some (.int .i64 y1) := (HB.out.cell (p := ⟨w.heap.size, 1, none⟩) HL4.out).trans (HC4.out 1 _ rfl)
    by_cases hkn : k < n
    · have hki : (k : Int) < (n : Int) := by omega
      obtain ⟨sb, so, rfl, hsl, _, hsc9⟩ := (HH.out.kept (HBB.out.trans (HB.out.mono HBB.out.size))).get hkn
      obtain ⟨s, hse⟩ : ∃ s, s = l.getD k MarkS.z := ⟨_, rfl⟩
      rw [← hse] at hsc9
      have HSE := Lib.hid hse
      obtain ⟨x0, x1⟩ := s
      have d0 : wr.cell? ⟨sb, so + k * 2, none⟩ = some (.int .i64 x0) := hsc9 0 _ rfl
      have d1 : wr.cell? ⟨sb, so + k * 2 + 1, none⟩ = some (.int .i64 x1) := hsc9 1 _ rfl
      have HAL := Lib.hid (show Below wb.heap.size wb (wr.alloc (.cells #[.int .i64 x0, .int .i64 x1] 43)) from HB.out.alloc HB.out.size _)
      have HXA := Lib.hid (heap_alloc_new wr (.cells #[.int .i64 x0, .int .i64 x1] 43))
      have HCM := Lib.hid (byM_any x0 y0 x1 y1 (wr.alloc (.cells #[.int .i64 x0, .int .i64 x1] 43)))
      clear hsc9 hse hsl
      go_wp2_with fail
      refine HCM.out.mono ?_
      rintro e w3 ⟨rfl, hb3⟩
      have HB3 := Lib.hid (HAL.out.trans (hb3.mono HAL.out.size))
      have HX3 := Lib.hid ((hb3.block wr.heap.size (by have := (Array.getElem?_eq_some_iff.1 HXA.out).1; exact this)).trans HXA.out)
      clear hb3
      by_cases hxy : x0 = y0
      · have hz : cmp3 x0 y0 = 0 := cmp3_0.2 hxy
        have HR3 := Lib.hid ((HB3.out.block (w.heap.size + 1) (by have := HSB.out; omega)).trans HGB.out)
        have HF := Lib.hid (show l.find? (fun x => decide (x.1 = y0)) = some ⟨x0, x1⟩ from by
          rw [HSE.out]
          exact find_at _ MarkS.z l k (by rw [HL.out]; exact hkn) HN.out (by rw [← HSE.out]; exact decide_eq_true hxy))
        have e0 : w3.cell? ⟨wr.heap.size, 0, none⟩ = some (.int .i64 x0) := cell_blk HX3.out rfl
        have e1 : w3.cell? ⟨wr.heap.size, 1, none⟩ = some (.int .i64 x1) := cell_blk HX3.out rfl
        have r0 : w3.cell? ⟨w.heap.size + 1, 0, none⟩ = some (.int .i64 0) := cell_blk HR3.out rfl
        have r1 : w3.cell? ⟨w.heap.size + 1, 1, none⟩ = some (.int .i64 0) := cell_blk HR3.out rfl
        have f0 : w3.frozen? ⟨w.heap.size + 1, 0, none⟩ = false := fro_blk HR3.out 0
        have f1 : w3.frozen? ⟨w.heap.size + 1, 1, none⟩ = false := fro_blk HR3.out 1
        clear hxy
        go_wp2_with fail
        refine bodyPost_ret (ret_cell_tmp rfl _ _ (w.heap.size + 1) 43 #[.int .i64 x0, .int .i64 x1] _ _ rfl (setM HR3.out x0 x1) Tryz.underlying43 rfl (by kernel_rfl)) rfl ?_
        refine ⟨?_, HBB.out.trans (belowM (HB3.out.mono HBB.out.size) (by omega) x0 x1)⟩
        unfold LkM
        rw [HF.out]
        rfl
      · have hz : ((cmp3 x0 y0) == 0) = false := by rw [beq_eq_false_iff_ne]; exact fun e => hxy (cmp3_0.1 e)
        have HN2 := Lib.hid (show ∀ j, j < k + 1 → (fun x => decide (x.1 = y0)) (l.getD j MarkS.z) = false from fun j hj => by
          rcases Nat.lt_or_ge j k with g | g
          · exact HN.out j g
          · rw [show j = k from by omega, ← HSE.out]; exact decide_eq_false hxy)
        clear hxy
        go_wp2_with fail
        go_roundw
        case rel => exact ⟨k + 1, by omega, by go_num, HN2, HB3⟩
        case measure => simp [intOf]; omega
    · obtain rfl : n = k := by omega
      have HRN0 := Lib.hid ((HB.out.block (w.heap.size + 1) (by have := HSB.out; omega)).trans HGB.out)
      have HF := Lib.hid (show l.find? (fun x => decide (x.1 = y0)) = none from find_no _ MarkS.z l (by rw [HL.out]; exact HN.out))
      have hl5 : w.heap.size + 1 < wr.heap.size := by have := HSB.out; have := HB.out.size; omega
      have r0 : wr.cell? ⟨w.heap.size + 1, 0, none⟩ = some (.int .i64 0) := cell_blk HRN0.out rfl
      have r1 : wr.cell? ⟨w.heap.size + 1, 1, none⟩ = some (.int .i64 0) := cell_blk HRN0.out rfl
      have f0 : wr.frozen? ⟨w.heap.size + 1, 0, none⟩ = false := fro_blk HRN0.out 0
      have f1 : wr.frozen? ⟨w.heap.size + 1, 1, none⟩ = false := fro_blk HRN0.out 1
      clear hkn
      go_wp2_with fail
      refine bodyPost_ret (ret_cell_tmp rfl _ _ (w.heap.size + 1) 43 #[.int .i64 0, .int .i64 0] _ _ rfl ((hao9 _ _ _ (by simpa using hl5)).trans (setM HRN0.out 0 0)) Tryz.underlying43 rfl (by kernel_rfl)) rfl ?_
      refine ⟨?_, HBB.out.trans ((belowM (HB.out.mono HBB.out.size) (by omega) 0 0).alloc (by simp; have := HB.out.size; have := HBB.out.size; omega) _)⟩
      unfold LkM
      rw [HF.out]
      rfl

/-- what look answers -/
def LkE (l : List EntV) (y0 : ByteArray) (e : Ending) : Prop := e = .returned (.tuple #[.agg (EntS.f ((l.find? fun x => decide (x.key = y0)).getD EntS.z)).toArray, .bool (l.find? fun x => decide (x.key = y0)).isSome])

end Go.Proofs.YtbdgcfimbblncaaGreatDoor
end PkMR2_4
