/- The document's reader of bits (layer 2): Bits and Align, walked; package bits' Reader: Align, and what a nil one answers. -/
import Derived.Test.YtachikilcfdngaaBitsRow
import Derived.Deep.RegionHeld3
import Derived.Deep.LoopGhost
namespace Go.Proofs.Ytachikilcfdngaa
open Go.RowKit BitsPlain
set_option linter.unusedVariables false

/-- a reader's block: the row, the place -/
structure RRAt (w : World) (B : Nat) (a : Option Addr) (n c : Nat) (l : List Bool) (p : Nat) : Prop where
  blk : w.heap[B]? = some (.cells #[.slice a n c, .int .i64 (p : Int)] 31 (0, 0))
  src : BoolsAt w a n c l
  apart : ∀ b off s, 0 < n → a = some ⟨b, off, s⟩ → b ≠ B
  le : p ≤ n

section
variable {w w' : World} {B : Nat} {a : Option Addr} {n c : Nat} {l : List Bool} {p : Nat}
theorem RRAt.c0 (h : RRAt w B a n c l p) : w.cell? ⟨B, 0, none⟩ = some (.slice a n c) := by
  rw [cell_of_row w B 0 _ _ (0, 0) h.blk]; rfl
theorem RRAt.c1 (h : RRAt w B a n c l p) : w.cell? ⟨B, 1, none⟩ = some (.int .i64 (p : Int)) := by
  rw [cell_of_row w B 1 _ _ (0, 0) h.blk]; rfl
theorem RRAt.f (h : RRAt w B a n c l p) (j : Nat) : w.frozen? ⟨B, j, none⟩ = false := frozen_of_row w B j _ _ h.blk
theorem RRAt.lt (h : RRAt w B a n c l p) : B < w.heap.size := (Array.getElem?_eq_some_iff.1 h.blk).1
theorem RRAt.drewN (h : RRAt w B a n c l p) (k : Nat) : RRAt (w.drewN k) B a n c l p := ⟨h.blk, h.src.drewN k, h.apart, h.le⟩
theorem RRAt.drew (h : RRAt w B a n c l p) : RRAt w.drew B a n c l p := ⟨h.blk, h.src.drewN 1, h.apart, h.le⟩
theorem RRAt.keptB (h : RRAt w B a n c l p) (hb : Below w.heap.size w w') : RRAt w' B a n c l p :=
  ⟨(hb.block B h.lt).trans h.blk, h.src.kept hb, h.apart, h.le⟩
theorem RRAt.set1 (h : RRAt w B a n c l p) (j : Nat) (hj : j ≤ n) :
    RRAt (w.setCell ⟨B, 1, none⟩ (.int .i64 (j : Int))) B a n c l j ∧ w.grownBy (w.setCell ⟨B, 1, none⟩ (.int .i64 (j : Int))) (some B) := by
  have hg : w.grownBy (w.setCell ⟨B, 1, none⟩ (.int .i64 (j : Int))) (some B) := ⟨rfl, rfl, rfl, by simp, fun k _ hk => heap_setCell_other w ⟨B, 1, none⟩ k _ (fun e => hk (by simp [e]))⟩
  refine ⟨⟨?_, h.src.grownE hg h.apart, h.apart, hj⟩, hg⟩
  rw [heap_setCell_same w B 1 _ _ _ h.blk]; rfl
theorem RRAt.other (h : RRAt w B a n c l p) {r : Nat} (hg : w.grownBy w' (some r)) (hB : B ≠ r) (ha : ∀ b off s, 0 < n → a = some ⟨b, off, s⟩ → b ≠ r) : RRAt w' B a n c l p :=
  ⟨(hg.block B h.lt (fun e => hB (Option.some.inj e))).trans h.blk, h.src.grownE hg ha, h.apart, h.le⟩
/-- the two readers never share memory -/
theorem RRAt.step (h : RRAt w B a n c l p) {B' : Nat} {a' : Option Addr} {n' c' : Nat} {xs : List Nat} {p' : Nat} (h' : RdAt w B' a' n' c' xs p') (hg : w.grownBy w' (some B')) : RRAt w' B a n c l p := by
  refine h.other hg ?_ ?_
  · rintro rfl
    have := h.blk.symm.trans h'.blk
    simp at this
  · rintro b off s hp ha rfl
    obtain ⟨b2, off2, ha2, _, hc⟩ := h.src.cells hp
    rw [ha] at ha2
    cases ha2
    have := hc 0 hp
    rw [cell_of_row w b _ _ _ (0, 0) h'.blk] at this
    match off, this with
    | 0, h => simp at h
    | 1, h => simp at h
    | k + 2, h => simp at h
theorem _root_.Go.Proofs.Ytachikilcfdngaa.RdAt.step {B' : Nat} {a' : Option Addr} {n' c' : Nat} {xs : List Nat} {p' : Nat} (h' : RdAt w B' a' n' c' xs p') (h : RRAt w B a n c l p) (hg : w.grownBy w' (some B)) : RdAt w' B' a' n' c' xs p' := by
  refine h'.other hg ?_ ?_
  · intro e
    cases e
    have := h.blk.symm.trans h'.blk
    simp at this
  · intro hp b off s ha e
    cases e
    obtain ⟨b2, off2, ha2, _, hc⟩ := h'.src.cells hp
    rw [ha] at ha2
    cases ha2
    have := hc 0 hp
    rw [cell_of_row w B _ _ _ (0, 0) h.blk] at this
    match off, this with
    | 0, h => simp at h
    | 1, h => simp at h
    | k + 2, h => simp at h
end

theorem BoolsAt.sub {w : World} {b off n c : Nat} {l : List Bool} (h : BoolsAt w (some ⟨b, off, none⟩) n c l) (i m : Nat) (him : i + m ≤ n) (hm : 0 < m) : BoolsAt w (some ⟨b, off + i, none⟩) m (c - i) ((l.drop i).take m) := by
  have hl := h.len
  have hc := h.cap
  have hr := h.reach
  have hcm := h.capm
  refine ⟨by simp; omega, by omega, by omega, by omega, (fun e => by cases e), fun _ => ?_⟩
  obtain ⟨b', off', ha, hlt, hcell⟩ := h.cells (by omega)
  cases ha
  refine ⟨b, off + i, rfl, hlt, fun k hk => ?_⟩
  rw [Nat.add_assoc, hcell (i + k) (by omega)]
  have e : ((l.drop i).take m).getD k false = l.getD (i + k) false := by
    simp [List.getD, hk]
  rw [e]
theorem BoolsAt.subAny {w : World} {a : Option Addr} {n c : Nat} {l : List Bool} (h : BoolsAt w a n c l) (i m : Nat) (him : i + m ≤ n) : BoolsAt w (if c = i then a else a.map (·.add i)) m (c - i) ((l.drop i).take m) := by
  have hc := h.cap
  have hcm := h.capm
  rcases Nat.eq_zero_or_pos m with h0 | hp
  · subst h0
    rw [List.take_zero]
    refine ⟨rfl, Nat.zero_le _, Nat.zero_le _, by omega, fun e => ?_, fun h => absurd h (Nat.lt_irrefl 0)⟩
    split at e
    · omega
    · have hn : a = none := by cases a with | none => rfl | some _ => simp at e
      have := h.nl hn
      omega
  · obtain ⟨b, off, rfl, _, _⟩ := h.cells (by omega)
    rw [if_neg (by omega)]
    have h4 : (⟨b, off, none⟩ : Addr).add i = ⟨b, off + i, none⟩ := by unfold Addr.add; split <;> simp_all
    simp only [Option.map_some, h4]
    exact h.sub i m him hp
theorem size_bool (w : World) : (Go.sizeOf 4).run Try.prog w = .ok 1 w := by kernel_rfl
set_option maxRecDepth 100000 in
theorem slice_runB (a : Option Addr) (n c i m : Nat) (him : i + m ≤ c) (w : World) :
    (Instr.slice 28 (.slice a n c) (some (.int .i64 (i : Int))) (some (.int .i64 ((i : Int) + (m : Int)))) none).run Try.prog w = .ok (.slice (if c = i then a else a.map (·.add i)) m (c - i)) w := by
  have ht' : Try.prog.underlying 28 = some (.slice (Try.prog.elem 28)) := by simp [Program.elem, Try.underlying28]
  have he : Try.prog.elem 28 = 4 := by simp [Program.elem, Try.underlying28]
  rw [run_slice_lh w 28 _ _ _ ht' .i64 .i64 _ _ (by omega) (by omega) (by omega), he, size_bool]
  have e1 : ((i : Int) + (m : Int)).toNat = i + m := by omega
  simp only [Result.andThen, sliced, Int.toNat_natCast, e1, Nat.mul_one]
  congr 2
  omega

theorem nb_num (xs : List Nat) (p : Nat) : ∀ m, nb ((List.range m).map fun k => bitAt xs (p + k) == 1) = num xs p m
  | 0 => rfl
  | m + 1 => by
    rw [List.range_succ, List.map_append, List.map_singleton, nb_snoc, nb_num xs p m]
    have := bitAt_lt xs (p + m)
    have e : (bitAt xs (p + m) == 1).toNat = bitAt xs (p + m) := by
      rcases (show bitAt xs (p + m) = 0 ∨ bitAt xs (p + m) = 1 by omega) with h | h <;> rw [h] <;> rfl
    simp [num, e]
theorem row_part (xs : List Nat) (N p m : Nat) (h : p + m ≤ N) : ((rowTo xs N).drop p).take m = (List.range m).map fun k => bitAt xs (p + k) == 1 := by
  apply List.ext_getElem
  · simp [rowTo]; omega
  · intro i h1 h2
    simp [rowTo]

set_option maxRecDepth 100000 in
set_option maxHeartbeats 4000000 in
theorem rrbits_any {w : World} {B : Nat} {a : Option Addr} {n c : Nat} {xs : List Nat} {p : Nat} (hn : n ≤ 1024) (hx : xs.length = n) (h : RRAt w B a (8 * n) c (rowTo xs (8 * n)) p) (k : Int) (hmlo : -9223372036854775808 ≤ k) (hmhi : k ≤ 9223372036854775807) :
    Calls Try.prog 13 #[.pointer (some ⟨B, 0, none⟩), .int .i64 k] w fun e w' => e = .returned (.tuple #[.int .u32 ((rb xs p k).1 : Int), .int .i64 ((rb xs p k).2.1 : Int)]) ∧ RRAt w' B a (8 * n) c (rowTo xs (8 * n)) (rb xs p k).2.2 ∧ w.grownBy w' (some B) := by
  have h0 := h.c0
  have h1 := h.c1
  have f1 := h.f 1
  have hle := h.le
  have hcap := h.src.cap
  have hcm := h.src.capm
  have HH := Lib.hid h
  have HX := Lib.hid hx
  obtain ⟨N, hN⟩ : ∃ N, N = 8 * n := ⟨_, rfl⟩
  have hNm : N ≤ 8192 := by omega
  rw [← hN] at h0 hle hcap HH ⊢
  have HN := Lib.hid hN
  have HM1 := Lib.hid hmlo
  have HM2 := Lib.hid hmhi
  have e1 : IntKind.i64.wrap ((N : Int) - (p : Int)) = (N : Int) - (p : Int) := IntWalk.i64_in _ (by omega)
  clear h hx hN hmlo hmhi
  by_cases hneg : k < 0
  · have hr : rb xs p k = (0, 1, p) := by unfold rb; rw [if_pos (Or.inl hneg)]
    have HR := Lib.hid hr
    have d1 : decide (k < 0) = true := by simp; omega
    clear hr
    go_enter Try.func13, Try.ntmps13
    go_wp2_with fail
    go_ret2
    rw [HR.out]
    exact ⟨rfl, HH.out, World.grownBy.refl _ _⟩
  · by_cases hbig : 32 < k
    · have hr : rb xs p k = (0, 1, p) := by unfold rb; rw [if_pos (Or.inr hbig)]
      have HR := Lib.hid hr
      clear hr
      go_enter Try.func13, Try.ntmps13
      go_wp2_with fail
      go_ret2
      rw [HR.out]
      exact ⟨rfl, HH.out, World.grownBy.refl _ _⟩
    · obtain ⟨m, rfl⟩ := Int.eq_ofNat_of_zero_le (show 0 ≤ k by omega)
      have hm32 : m ≤ 32 := by omega
      by_cases hs : (N : Int) - (p : Int) < (m : Int)
      · have hr : rb xs p (m : Int) = (0, 3, p) := by unfold rb; rw [if_neg (by omega), if_pos (by rw [HX.out, ← HN.out]; simp; omega)]
        have HR := Lib.hid hr
        clear hr
        go_enter Try.func13, Try.ntmps13
        go_wp2_with fail
        go_quiet (fail)
        go_wp2_with fail
        go_ret2
        rw [HR.out]
        exact ⟨rfl, HH.out.drewN _, grown_drewN _ _ _⟩
      · have hr : rb xs p (m : Int) = (num xs p m, 0, p + m) := by unfold rb; rw [if_neg (by omega), if_neg (by rw [HX.out, ← HN.out]; simp; omega)]; simp
        have HR := Lib.hid hr
        have him : p + m ≤ N := by omega
        have hs2 : (m : Int) ≤ (N : Int) - (p : Int) := by omega
        have e2 : IntKind.i64.wrap ((p : Int) + (m : Int)) = (p : Int) + (m : Int) := IntWalk.i64_in _ (by omega)
        have e3 : IntKind.i64.wrap (p : Int) = (p : Int) := IntWalk.i64_in _ (by omega)
        clear hr hs
        go_enter Try.func13, Try.ntmps13
        go_wp2_with fail
        go_quiet (fail)
        go_wp2_with fail
        rename Nat => nq
        obtain ⟨w2, hw2⟩ : ∃ w2, w2 = w.drewN nq := ⟨_, rfl⟩
        have s2 : RRAt w2 B a N c (rowTo xs N) p := by rw [hw2]; exact HH.out.drewN nq
        have t2 : w.grownBy w2 (some B) := by rw [hw2]; exact grown_drewN _ _ _
        rw [← hw2]
        have m0 := s2.c0
        have m1 := s2.c1
        have mf := s2.f 1
        have S2 := Lib.hid s2
        have T2 := Lib.hid t2
        have hsl := slice_runB a N c p m (by omega)
        have hsub := s2.src.subAny p m him
        rw [row_part xs N p m him] at hsub
        generalize (if c = p then a else a.map (·.add p)) = A at hsl hsub
        have hnum : ∀ k, Calls Try.prog 35 #[.slice A m (c - p)] (w2.drewN k) fun e w' => e = .returned (.int .u32 (num xs p m : Int)) ∧ w' = w2.drewN k := fun k => (number_any (hsub.drewN k) hm32).mono fun e w' h => ⟨by rw [h.1, nb_num], h.2.symm⟩
        have HNUM := Lib.hid hnum
        clear hw2 s2 t2 h0 h1 f1 hsub hnum
        go_quiet ((go_at_call 35; exact Calls.quiet_of_same (HNUM.out _)))
        go_wp2_with fail
        go_ret2
        rw [HR.out]
        obtain ⟨hs1, hg1⟩ := (S2.out.drewN _).set1 (p + m) him
        exact ⟨rfl, hs1, T2.out.trans' ((grown_drewN _ _ _).trans' hg1)⟩

/-- the next beginning of a byte -/
def al (p : Nat) : Nat := (p + 7) / 8 * 8

set_option maxRecDepth 100000 in
set_option maxHeartbeats 1000000 in
theorem rralign_any {w : World} {B : Nat} {a : Option Addr} {n c : Nat} {l : List Bool} {p : Nat} (hn : n ≤ 1024) (h : RRAt w B a (8 * n) c l p) :
    Calls Try.prog 11 #[.pointer (some ⟨B, 0, none⟩)] w fun e w' => e = .returned (.tuple #[]) ∧ RRAt w' B a (8 * n) c l (al p) ∧ w.grownBy w' (some B) := by
  have HH := Lib.hid h
  have hle := h.le
  clear h
  go_enter Try.func11, Try.ntmps11
  go_wp2_with fail
  go_loopg [] (al p - p) (fun k wr => ∃ q, k = al p - q ∧ p ≤ q ∧ q ≤ al p ∧ Hid (RRAt wr B a (8 * n) c l q) ∧ Hid (w.grownBy wr (some B)))
  case atStart => exact ⟨p, rfl, by omega, by unfold al; omega, HH, Lib.hid (World.grownBy.refl _ _)⟩
  case round =>
    obtain ⟨q, hk, hpq, hqa, HQ, HG⟩ := hrel
    have v1 := HQ.out.c1
    have f1 := HQ.out.f 1
    unfold al at hqa hk
    by_cases hz : q % 8 = 0
    · have e : q = al p := by unfold al; omega
      have z : ((q : Int) % 8 != 0) = false := by rw [bne_eq_false_iff_eq]; omega
      clear hk
      go_wp2_with fail
      go_end0
      exact ⟨rfl, by rw [← e]; exact HQ.out, HG.out⟩
    · have z : ((q : Int) % 8 != 0) = true := by rw [bne_iff_ne]; omega
      have hq1 : q + 1 ≤ 8 * n := by omega
      obtain ⟨s1, g1⟩ := HQ.out.set1 (q + 1) hq1
      have S1 := Lib.hid s1
      have G1 := Lib.hid (HG.out.trans' g1)
      clear s1 g1
      go_wp2_with fail
      go_roundg (al p - (q + 1))
      case rel => exact ⟨q + 1, rfl, by omega, by unfold al; omega, S1, G1⟩
      case measure => unfold al; omega

set_option maxHeartbeats 400000 in
theorem ralign_any {w : World} {B : Nat} {a : Option Addr} {n c : Nat} {xs : List Nat} {p : Nat} (h : RdAt w B a n c xs p) :
    Calls Try.prog 10 #[.pointer (some ⟨B, 0, none⟩)] w fun e w' => e = .returned (.tuple #[]) ∧ RdAt w' B a n c xs (al p) ∧ w.grownBy w' (some B) := by
  have h1 := h.c1
  have f1 := h.f 1
  have hle := h.le
  have hr := h.src.reach
  obtain ⟨s1, g1⟩ := h.set1 (al p) (by unfold al; omega)
  have S1 := Lib.hid s1
  have G1 := Lib.hid g1
  have e1 : IntKind.i64.wrap ((p : Int) + 7) = (p : Int) + 7 := IntWalk.i64_in _ (by omega)
  have e2 : IntKind.i64.wrap (((p : Int) + 7) / 8 * 8) = (al p : Int) := by rw [IntWalk.i64_in _ (by omega)]; unfold al; omega
  clear h s1 g1
  go_enter Try.func10, Try.ntmps10
  go_wp2_with fail
  go_end0
  exact ⟨rfl, S1.out, G1.out⟩

theorem rbits_nil (k : Int) (w : World) : Calls Try.prog 12 #[.pointer none, .int .i64 k] w fun e w' => e = .returned (.tuple #[.int .u32 0, .int .i64 1]) ∧ w = w' := by
  go_enter Try.func12, Try.ntmps12
  go_wp2_with fail
  go_ret2
  exact ⟨rfl, rfl⟩
theorem rat_nil (w : World) : Calls Try.prog 14 #[.pointer none] w fun e w' => e = .returned (.int .i64 0) ∧ w = w' := by
  go_enter Try.func14, Try.ntmps14
  go_wp2_with fail
  go_ret
  exact ⟨rfl, rfl⟩
theorem rleft_nil (w : World) : Calls Try.prog 15 #[.pointer none] w fun e w' => e = .returned (.int .i64 0) ∧ w = w' := by
  go_enter Try.func15, Try.ntmps15
  go_wp2_with fail
  go_ret
  exact ⟨rfl, rfl⟩
end Go.Proofs.Ytachikilcfdngaa
