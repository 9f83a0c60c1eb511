/- Package nums' Cursor: New, reads, U, At, End, walked. The cursor's block is known whole; what else is in memory stays. -/
import Derived.Test.YtbpimhklekcaiaaNumsBackWalk
namespace Go.Proofs.Ytbpimhklekcaiaa
open Go.RowKit NumsPlain
set_option linter.unusedVariables false

/-- a cursor's block: the bytes, the place, the error -/
structure CurAt (T : TypeId) (w : World) (B : Nat) (a : Option Addr) (n c : Nat) (xs : List Nat) (i e : Nat) : Prop where
  blk : w.heap[B]? = some (.cells #[.slice a n c, .int .i64 (i : Int), .int .i64 (e : Int)] T (0, 0))
  src : BytesAt w a n c xs
  apart : ∀ b off s, 0 < n → a = some ⟨b, off, s⟩ → b ≠ B
  le : i ≤ n

theorem CurAt.c0 {T : TypeId} {w : World} {B : Nat} {a : Option Addr} {n c : Nat} {xs : List Nat} {i e : Nat} (h : CurAt T w B a n c xs i e) : w.cell? ⟨B, 0, none⟩ = some (.slice a n c) := by
  rw [cell_of_row w B 0 _ T (0, 0) h.blk]; rfl
theorem CurAt.c1 {T : TypeId} {w : World} {B : Nat} {a : Option Addr} {n c : Nat} {xs : List Nat} {i e : Nat} (h : CurAt T w B a n c xs i e) : w.cell? ⟨B, 1, none⟩ = some (.int .i64 (i : Int)) := by
  rw [cell_of_row w B 1 _ T (0, 0) h.blk]; rfl
theorem CurAt.c2 {T : TypeId} {w : World} {B : Nat} {a : Option Addr} {n c : Nat} {xs : List Nat} {i e : Nat} (h : CurAt T w B a n c xs i e) : w.cell? ⟨B, 2, none⟩ = some (.int .i64 (e : Int)) := by
  rw [cell_of_row w B 2 _ T (0, 0) h.blk]; rfl
theorem CurAt.f {T : TypeId} {w : World} {B : Nat} {a : Option Addr} {n c : Nat} {xs : List Nat} {i e : Nat} (h : CurAt T w B a n c xs i e) (j : Nat) : w.frozen? ⟨B, j, none⟩ = false := frozen_of_row w B j _ T h.blk

set_option maxHeartbeats 400000 in
theorem reads_yes {w : World} {B : Nat} {a : Option Addr} {n c : Nat} {xs : List Nat} {i : Nat} (h : CurAt 59 w B a n c xs i 0) :
    Calls Try.prog 38 #[.pointer (some ⟨B, 0, none⟩)] w fun e w' => e = .returned (.bool true) ∧ w = w' := by
  have h2 := h.c2
  clear h
  go_enter Try.func38, Try.ntmps38
  go_wp2_with fail
  go_ret
  exact ⟨rfl, rfl⟩
set_option maxHeartbeats 400000 in
theorem reads_no {w : World} {B : Nat} {a : Option Addr} {n c : Nat} {xs : List Nat} {i e : Nat} (h : CurAt 59 w B a n c xs i e) (he : e ≠ 0) :
    Calls Try.prog 38 #[.pointer (some ⟨B, 0, none⟩)] w fun e w' => e = .returned (.bool false) ∧ w = w' := by
  have h2 := h.c2
  have z : ((e : Int) == 0) = false := by rw [beq_eq_false_iff_ne]; omega
  clear h
  go_enter Try.func38, Try.ntmps38
  go_wp2_with fail
  go_ret
  exact ⟨rfl, rfl⟩
set_option maxHeartbeats 400000 in
theorem reads_nil (w : World) :
    Calls Try.prog 38 #[.pointer none] w fun e w' => e = .returned (.bool false) ∧ w = w' := by
  go_enter Try.func38, Try.ntmps38
  go_wp2_with fail
  go_ret
  exact ⟨rfl, rfl⟩

theorem BytesAt.drewN {w : World} {a : Option Addr} {n c : Nat} {xs : List Nat} (h : BytesAt w a n c xs) (k : Nat) : BytesAt (w.drewN k) a n c xs :=
  h.kept ⟨rfl, rfl, rfl, Nat.le_refl _, fun _ _ => rfl⟩

theorem ru_count {xs : List Nat} {i v j : Nat} (hb : ∀ x ∈ xs, x < 256) (h : ru xs (i : Int) = (v, j, 0)) : i + j ≤ xs.length ∨ xs.length < i := by
  rw [ru_nat] at h
  obtain ⟨k, m, rfl, hk, _, _, _⟩ := uu_conv (xs.drop i) 0 0 v j (fun x hx => hb x (List.mem_of_mem_drop hx)) h
  rw [List.length_drop] at hk
  omega

/-- what reading a number makes of the place and the error: the value, the place, the error -/
def cu (xs : List Nat) (i e : Nat) : Nat × Nat × Nat :=
  if e = 0 then (if (ru xs (i : Int)).2.2 = 0 then ((ru xs (i : Int)).1, i + (ru xs (i : Int)).2.1, 0) else (0, i, (ru xs (i : Int)).2.2)) else (0, i, e)

theorem CurAt.set1 {T : TypeId} {w : World} {B : Nat} {a : Option Addr} {n c : Nat} {xs : List Nat} {i e : Nat} (h : CurAt T w B a n c xs i e) (j : Nat) (hj : j ≤ n) :
    CurAt T (w.setCell ⟨B, 1, none⟩ (.int .i64 (j : Int))) B a n c xs j e ∧ w.grownBy (w.setCell ⟨B, 1, none⟩ (.int .i64 (j : Int))) (some B) := by
  have hg : w.grownBy (w.setCell ⟨B, 1, none⟩ (.int .i64 (j : Int))) (some B) := ⟨rfl, rfl, rfl, by simp, fun k _ hk => heap_setCell_other w ⟨B, 1, none⟩ k _ (fun e => hk (by simp [e]))⟩
  refine ⟨⟨?_, ?_, h.apart, hj⟩, hg⟩
  · rw [heap_setCell_same w B 1 _ T _ h.blk]; rfl
  · exact ⟨h.src.len, h.src.cap, h.src.byte, h.src.reach, h.src.capm, h.src.nl, fun hp => by
      obtain ⟨b, off, ha, hlt, hc⟩ := h.src.cells hp
      exact ⟨b, off, ha, Nat.lt_of_lt_of_le hlt hg.size, fun k hk => hg.cell (hc k hk) (fun e => h.apart b off _ hp ha (Option.some.inj e))⟩⟩
theorem CurAt.set2 {T : TypeId} {w : World} {B : Nat} {a : Option Addr} {n c : Nat} {xs : List Nat} {i e : Nat} (h : CurAt T w B a n c xs i e) (j : Nat) :
    CurAt T (w.setCell ⟨B, 2, none⟩ (.int .i64 (j : Int))) B a n c xs i j ∧ w.grownBy (w.setCell ⟨B, 2, none⟩ (.int .i64 (j : Int))) (some B) := by
  have hg : w.grownBy (w.setCell ⟨B, 2, none⟩ (.int .i64 (j : Int))) (some B) := ⟨rfl, rfl, rfl, by simp, fun k _ hk => heap_setCell_other w ⟨B, 2, none⟩ k _ (fun e => hk (by simp [e]))⟩
  refine ⟨⟨?_, ?_, h.apart, h.le⟩, hg⟩
  · rw [heap_setCell_same w B 2 _ T _ h.blk]; rfl
  · exact ⟨h.src.len, h.src.cap, h.src.byte, h.src.reach, h.src.capm, h.src.nl, fun hp => by
      obtain ⟨b, off, ha, hlt, hc⟩ := h.src.cells hp
      exact ⟨b, off, ha, Nat.lt_of_lt_of_le hlt hg.size, fun k hk => hg.cell (hc k hk) (fun e => h.apart b off _ hp ha (Option.some.inj e))⟩⟩
theorem CurAt.drewN {T : TypeId} {w : World} {B : Nat} {a : Option Addr} {n c : Nat} {xs : List Nat} {i e : Nat} (h : CurAt T w B a n c xs i e) (k : Nat) : CurAt T (w.drewN k) B a n c xs i e :=
  ⟨h.blk, h.src.drewN k, h.apart, h.le⟩
theorem grown_drewN (w : World) (k : Nat) (r : Option Nat) : w.grownBy (w.drewN k) r := ⟨rfl, rfl, rfl, Nat.le_refl _, fun _ _ _ => rfl⟩
theorem _root_.Go.World.grownBy.trans' {a b c : World} {r : Option Nat} (h : a.grownBy b r) (k : b.grownBy c r) : a.grownBy c r :=
  ⟨k.os.trans h.os, k.tape.trans h.tape, k.output.trans h.output, Nat.le_trans h.size k.size, fun i hi hr => (k.block i (Nat.lt_of_lt_of_le hi h.size) hr).trans (h.block i hi hr)⟩

set_option maxRecDepth 100000 in
set_option maxHeartbeats 1000000 in
theorem cu_any {w : World} {B : Nat} {a : Option Addr} {n c : Nat} {xs : List Nat} {i e : Nat} (h : CurAt 59 w B a n c xs i e) :
    Calls Try.prog 24 #[.pointer (some ⟨B, 0, none⟩)] w fun r w' => r = .returned (.int .u64 ((cu xs i e).1 : Int)) ∧ CurAt 59 w' B a n c xs (cu xs i e).2.1 (cu xs i e).2.2 ∧ w.grownBy w' (some B) := by
  by_cases he : e = 0
  · subst he
    have hr := reads_yes h
    have HR := Lib.hid hr
    have HH := Lib.hid h
    have h0 := h.c0
    have h1 := h.c1
    have h2 := h.c2
    have f1 := h.f 1
    have f2 := h.f 2
    have hin := h.le
    have hnr := h.src.reach
    have hu : ∀ k, Calls Try.prog 20 #[.slice a n c, .int .i64 (i : Int)] (w.drewN k) fun e w' => e = .returned (ruV (ru xs i)) ∧ w' = w.drewN k := fun k => (u_any (h.src.drewN k) i).mono fun e w' h => ⟨h.1, h.2.symm⟩
    obtain ⟨v, hv⟩ : ∃ u, u = (ru xs (i : Int)).1 := ⟨_, rfl⟩
    obtain ⟨j, hj⟩ : ∃ m, m = (ru xs (i : Int)).2.1 := ⟨_, rfl⟩
    obtain ⟨f, hf⟩ : ∃ f, f = (ru xs (i : Int)).2.2 := ⟨_, rfl⟩
    have hV : ruV (ru xs (i : Int)) = .tuple #[.int .u64 (v : Int), .int .i64 (j : Int), .int .i64 (f : Int)] := by unfold ruV; rw [hv, hj, hf]
    have hE : ru xs (i : Int) = (v, j, f) := by rw [hv, hj, hf]
    rw [hV] at hu
    have HU := Lib.hid hu
    have HV := Lib.hid hV
    have HE := Lib.hid hE
    clear hr h hu hv hj hf hV hE
    go_enter Try.func24, Try.ntmps24
    go_wp2_with fail
    refine HR.out.mono ?_
    rintro e w' ⟨rfl, rfl⟩
    go_wp2_with fail
    go_quiet ((go_at_call 20; exact Calls.quiet_of_same (HU.out _)))
    by_cases hf0 : f = 0
    · subst hf0
      have hcnt := ru_count HH.out.src.byte HE.out
      rw [HH.out.src.len] at hcnt
      have hij : i + j ≤ n := by omega
      have hc : cu xs i 0 = (v, i + j, 0) := by unfold cu; rw [HE.out]; rfl
      have HC := Lib.hid hc
      clear hc hcnt
      go_wp2_with fail
      go_ret
      rw [HC.out]
      obtain ⟨hs, hg⟩ := (HH.out.drewN _).set1 (i + j) hij
      exact ⟨rfl, hs, (grown_drewN _ _ _).trans' hg⟩
    · have z0 : ((f : Int) != 0) = true := by rw [bne_iff_ne]; omega
      have hc : cu xs i 0 = (0, i, f) := by unfold cu; rw [HE.out, if_pos rfl, if_neg hf0]
      have HC := Lib.hid hc
      clear hc hf0
      go_wp2_with fail
      go_ret
      rw [HC.out]
      obtain ⟨hs, hg⟩ := (HH.out.drewN _).set2 f
      exact ⟨rfl, hs, (grown_drewN _ _ _).trans' hg⟩
  · have hr := reads_no h he
    have HR := Lib.hid hr
    have hc : cu xs i e = (0, i, e) := by unfold cu; rw [if_neg he]
    have HC := Lib.hid hc
    have HH := Lib.hid h
    clear hr h hc he
    go_enter Try.func24, Try.ntmps24
    go_wp2_with fail
    refine HR.out.mono ?_
    rintro e w' ⟨rfl, rfl⟩
    go_wp2_with fail
    go_ret
    rw [HC.out]
    exact ⟨rfl, HH.out, World.grownBy.refl _ _⟩
end Go.Proofs.Ytbpimhklekcaiaa
