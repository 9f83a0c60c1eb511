/- Package bits' Reader: NewReader, At, Left, Align, Bits, walked. -/
import Derived.Test.YteggmbfhfoijoaaDoorTwin
import Derived.Test.YteggmbfhfoijoaaDoorBitsPlain
namespace Go.Proofs.YteggmbfhfoijoaaDoor
open Go.RowKit BitsPlain
set_option linter.unusedVariables false

/-- a reader's block: the bytes, the place -/
structure RdAt (w : World) (B : Nat) (a : Option Addr) (n c : Nat) (xs : List Nat) (p : Nat) : Prop where
  blk : w.heap[B]? = some (.cells #[.slice a n c, .int .i64 (p : Int)] 101 (0, 0))
  src : BytesAt w a n c xs
  apart : ∀ b off s, 0 < n → a = some ⟨b, off, s⟩ → b ≠ B
  le : p ≤ 8 * n

section
variable {w : World} {B : Nat} {a : Option Addr} {n c : Nat} {xs : List Nat} {p : Nat}
theorem RdAt.c0 (h : RdAt w B a n c xs p) : w.cell? ⟨B, 0, none⟩ = some (.slice a n c) := by
  rw [cell_of_row w B 0 _ _ (0, 0) h.blk]; rfl
theorem RdAt.c1 (h : RdAt w B a n c xs p) : w.cell? ⟨B, 1, none⟩ = some (.int .i64 (p : Int)) := by
  rw [cell_of_row w B 1 _ _ (0, 0) h.blk]; rfl
theorem RdAt.f (h : RdAt w B a n c xs p) (j : Nat) : w.frozen? ⟨B, j, none⟩ = false := frozen_of_row w B j _ _ h.blk
theorem RdAt.lt (h : RdAt w B a n c xs p) : B < w.heap.size := (Array.getElem?_eq_some_iff.1 h.blk).1
theorem RdAt.drewN (h : RdAt w B a n c xs p) (k : Nat) : RdAt (w.drewN k) B a n c xs p := ⟨h.blk, h.src.drewN k, h.apart, h.le⟩
theorem RdAt.set1 (h : RdAt w B a n c xs p) (j : Nat) (hj : j ≤ 8 * n) :
    RdAt (w.setCell ⟨B, 1, none⟩ (.int .i64 (j : Int))) B a n c xs j ∧ w.grownBy (w.setCell ⟨B, 1, none⟩ (.int .i64 (j : Int))) (some B) := by
  have hg : w.grownBy (w.setCell ⟨B, 1, none⟩ (.int .i64 (j : Int))) (some B) := ⟨rfl, rfl, rfl, by simp, fun k _ hk => heap_setCell_other w ⟨B, 1, none⟩ k _ (fun e => hk (by simp [e]))⟩
  refine ⟨⟨?_, ?_, h.apart, hj⟩, hg⟩
  · rw [heap_setCell_same w B 1 _ _ _ h.blk]; rfl
  · exact ⟨h.src.len, h.src.cap, h.src.byte, h.src.reach, h.src.capm, h.src.nl, fun hp => by
      obtain ⟨b, off, ha, hlt, hc⟩ := h.src.cells hp
      exact ⟨b, off, ha, Nat.lt_of_lt_of_le hlt hg.size, fun k hk => hg.cell (hc k hk) (fun e => h.apart b off _ hp ha (Option.some.inj e))⟩⟩
/-- what another's writes leave -/
theorem RdAt.other {w' : World} (h : RdAt w B a n c xs p) {r : Option Nat} (hg : w.grownBy w' r) (hB : some B ≠ r) (ha : 0 < n → ∀ b off s, a = some ⟨b, off, s⟩ → some b ≠ r) : RdAt w' B a n c xs p :=
  ⟨(hg.block B h.lt hB).trans h.blk, ⟨h.src.len, h.src.cap, h.src.byte, h.src.reach, h.src.capm, h.src.nl, fun hp => by
    obtain ⟨b, off, e, hlt, hc⟩ := h.src.cells hp
    exact ⟨b, off, e, Nat.lt_of_lt_of_le hlt hg.size, fun k hk => hg.cell (hc k hk) (ha hp b off _ e)⟩⟩, h.apart, h.le⟩
end

set_option maxRecDepth 100000 in
set_option maxHeartbeats 1000000 in
theorem rnew_any {a : Option Addr} {n c : Nat} {xs : List Nat} {w : World} (h : BytesAt w a n c xs) :
    Calls Tryd.prog 40 #[.slice a n c] w fun e w' => ∃ B a' c', e = .returned (.pointer (some ⟨B, 0, none⟩)) ∧ RdAt w' B a' n c' xs 0 ∧ Below w.heap.size w w' ∧ w.heap.size ≤ B ∧ (∀ b off s, a' = some ⟨b, off, s⟩ → w.heap.size ≤ b) := by
  have hc := clone_any h
  have HC := Lib.hid hc
  clear hc h
  go_enter Tryd.func40, Tryd.ntmps40
  go_wp2_with fail
  refine HC.out.mono ?_
  rintro e w1 ⟨a', c', rfl, hb1, hbel, hfresh⟩
  have HB := Lib.hid hb1
  clear hb1
  go_wp2_with fail
  go_ret
  refine ⟨w1.heap.size, a', c', rfl, ⟨?_, HB.out.alloc _, ?_, Nat.zero_le _⟩, hbel.alloc hbel.size _, hbel.size, hfresh⟩
  · exact heap_alloc_new w1 _
  · intro b off s hp ha
    obtain ⟨b', off', ha', hlt, _⟩ := HB.out.cells hp
    rw [ha] at ha'
    cases ha'
    omega

set_option maxHeartbeats 400000 in
theorem rat_any {w : World} {B : Nat} {a : Option Addr} {n c : Nat} {xs : List Nat} {p : Nat} (h : RdAt w B a n c xs p) :
    Calls Tryd.prog 75 #[.pointer (some ⟨B, 0, none⟩)] w fun e w' => e = .returned (.int .i64 (p : Int)) ∧ w = w' := by
  have h1 := h.c1
  clear h
  go_enter Tryd.func75, Tryd.ntmps75
  go_wp2_with fail
  go_ret
  exact ⟨rfl, rfl⟩

set_option maxHeartbeats 400000 in
theorem rleft_any {w : World} {B : Nat} {a : Option Addr} {n c : Nat} {xs : List Nat} {p : Nat} (h : RdAt w B a n c xs p) :
    Calls Tryd.prog 59 #[.pointer (some ⟨B, 0, none⟩)] w fun e w' => e = .returned (.int .i64 ((8 * n - p : Nat) : Int)) ∧ ∃ q, w' = w.drewN q := by
  have h0 := h.c0
  have h1 := h.c1
  have hr := h.src.reach
  have hl := h.le
  have e1 : IntKind.i64.wrap (8 * (n : Int)) = 8 * (n : Int) := IntWalk.i64_in _ (by omega)
  have e2 : IntKind.i64.wrap (8 * (n : Int) - (p : Int)) = ((8 * n - p : Nat) : Int) := by rw [IntWalk.i64_in _ (by omega)]; omega
  clear h
  go_enter Tryd.func59, Tryd.ntmps59
  go_wp2_with fail
  go_quiet (fail)
  go_wp2_with fail
  go_ret
  exact ⟨rfl, _, rfl⟩

/-- what reading n bits answers: the number, the error, and the place behind -/
def rb (xs : List Nat) (p : Nat) (k : Int) : Nat × Nat × Nat :=
  if k < 0 ∨ 32 < k then (0, 1, p) else if 8 * xs.length - p < k.toNat then (0, 3, p) else (num xs p k.toNat, 0, p + k.toNat)

set_option maxRecDepth 100000 in
set_option maxHeartbeats 2000000 in
theorem rbits_any {w : World} {B : Nat} {a : Option Addr} {n c : Nat} {xs : List Nat} {p : Nat} (h : RdAt w B a n c xs p) (k : Int) :
    Calls Tryd.prog 42 #[.pointer (some ⟨B, 0, none⟩), .int .i64 k] w fun e w' => e = .returned (.tuple #[.int .u32 ((rb xs p k).1 : Int), .int .i64 ((rb xs p k).2.1 : Int)]) ∧ RdAt w' B a n c xs (rb xs p k).2.2 ∧ w.grownBy w' (some B) := by
  have hlen := h.src.len
  by_cases hneg : k < 0
  · have hr : rb xs p k = (0, 1, p) := by unfold rb; rw [if_pos (Or.inl hneg)]
    have HR := Lib.hid hr
    have HH := Lib.hid h
    have d1 : decide (k < 0) = true := by simp; omega
    clear hr h
    go_enter Tryd.func42, Tryd.ntmps42
    go_wp2_with fail
    go_ret2
    rw [HR.out]
    exact ⟨rfl, HH.out, World.grownBy.refl _ _⟩
  · by_cases hbig : 32 < k
    · have hr : rb xs p k = (0, 1, p) := by unfold rb; rw [if_pos (Or.inr hbig)]
      have HR := Lib.hid hr
      have HH := Lib.hid h
      clear hr h
      go_enter Tryd.func42, Tryd.ntmps42
      go_wp2_with fail
      go_ret2
      rw [HR.out]
      exact ⟨rfl, HH.out, World.grownBy.refl _ _⟩
    · obtain ⟨m, rfl⟩ := Int.eq_ofNat_of_zero_le (show 0 ≤ k by omega)
      have hL := rleft_any h
      have HLf := Lib.hid hL
      have hpn := h.le
      have hnr := h.src.reach
      by_cases hs : 8 * n - p < m
      · have hr : rb xs p (m : Int) = (0, 3, p) := by unfold rb; rw [if_neg (by omega), if_pos (by rw [hlen]; simpa using hs)]
        have HR := Lib.hid hr
        have HH := Lib.hid h
        have hs' : ((8 * n - p : Nat) : Int) < (m : Int) := by omega
        clear hr h hL
        go_enter Tryd.func42, Tryd.ntmps42
        go_wp2_with fail
        refine HLf.out.mono ?_
        rintro e w1 ⟨rfl, q, hw1⟩
        subst hw1
        go_wp2_with fail
        go_ret2
        rw [HR.out]
        exact ⟨rfl, HH.out.drewN q, grown_drewN _ _ _⟩
      · have hr : rb xs p (m : Int) = (num xs p m, 0, p + m) := by unfold rb; rw [if_neg (by omega), if_neg (by rw [hlen]; simpa using hs)]; simp
        have HR := Lib.hid hr
        have HH := Lib.hid h
        have hs' : (m : Int) ≤ ((8 * n - p : Nat) : Int) := by omega
        have h0 := h.c0
        have h1 := h.c1
        have f1 := h.f 1
        clear hr h hL
        go_enter Tryd.func42, Tryd.ntmps42
        go_wp2_with fail
        refine HLf.out.mono ?_
        rintro e w1 ⟨rfl, q, hw1⟩
        subst hw1
        go_wp2_with fail
        go_loop [6, 25] (fun sv si => ∃ i : Nat, i ≤ m ∧ si = .int .i64 i ∧ sv = .int .u32 (num xs p i : Int)) (fun _ si => m - (intOf si).toNat)
        case atStart => exact ⟨0, by omega, rfl, rfl⟩
        case round =>
          obtain ⟨i, hi, rfl, rfl⟩ := hrel
          by_cases him : i < m
          · have hpos : 0 < n := by omega
            obtain ⟨b, off, rfl, _, hc⟩ := HH.out.src.cells hpos
            have hci := hc ((p + i) / 8) (by omega)
            obtain ⟨x, hx⟩ : ∃ x, x = xs.getD ((p + i) / 8) 0 := ⟨_, rfl⟩
            have hx256 : x < 256 := by
              have h1 : (p + i) / 8 < xs.length := by omega
              have : xs.getD ((p + i) / 8) 0 = xs[(p + i) / 8] := by simp [h1]
              rw [hx, this]
              exact HH.out.src.byte _ (List.getElem_mem h1)
            rw [← hx] at hci
            have HX := Lib.hid hx
            clear hc hx
            go_wp2_with fail
            go_round
            case rel =>
              refine ⟨i + 1, by omega, by go_num, ?_⟩
              rw [bit_step (num_lt xs p i) (by omega) hx256, HX.out]
              rfl
            case measure => simp [intOf]; omega
          · have him2 : i = m := by omega
            subst him2
            go_wp2_with fail
            go_ret2
            rw [HR.out]
            obtain ⟨hs1, hg1⟩ := (HH.out.drewN q).set1 (p + i) (by omega)
            exact ⟨rfl, hs1, (grown_drewN _ _ _).trans' hg1⟩
end Go.Proofs.YteggmbfhfoijoaaDoor
