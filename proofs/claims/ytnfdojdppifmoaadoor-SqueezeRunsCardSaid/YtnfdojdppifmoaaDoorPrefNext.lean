/- Package prefix's Next, walked; what it reads, plainly. -/
import Derived.Test.YtnfdojdppifmoaaDoorPrefMk
import Derived.Test.YtnfdojdppifmoaaDoorBitsReader
namespace Go.Proofs.YtnfdojdppifmoaaDoor
open Go.RowKit PrefPlain BitsPlain
set_option linter.unusedVariables false

namespace PrefPlain
/-- reading on: behind k bits that say W; what came of it: the symbol, the error, how many bits -/
def nx (L : List Int) (bit : Nat → Nat) (left : Nat) : Nat → Nat → Nat → Int × Nat × Nat
  | 0, k, _ => (0, 4, k)
  | f + 1, k, W =>
    if left ≤ k then (0, 3, k)
    else if 2 * W + bit k < fw (cn L) (k + 1) + cn L (k + 1) then ((sy L L.length (k + 1)).getD (2 * W + bit k - fw (cn L) (k + 1)) 0, 0, k + 1)
    else nx L bit left f (k + 1) (2 * W + bit k)
end PrefPlain
/-- as at any place of bytes -/
def rn (L : List Int) (xs : List Nat) (p : Nat) : Int × Nat × Nat := nx L (fun k => bitAt xs (p + k)) (8 * xs.length - p) (mo L L.length) 0 0

/-- behind k bits nothing was found -/
structure Yet (L : List Int) (xs : List Nat) (p k W : Nat) : Prop where
  eq : rn L xs p = nx L (fun k => bitAt xs (p + k)) (8 * xs.length - p) (mo L L.length - k) k W
  lt : W < 2 ^ k
  ge : fw (cn L) (k + 1) ≤ 2 * W

theorem mo_le {L : List Int} {k : Nat} (h : okL L k) : mo L k ≤ 15 := by
  induction k with
  | zero => simp [mo]
  | succ k ih =>
    have h1 := ih (fun s hs => h s (by omega))
    have h2 := h k (by omega)
    rw [mo]; omega

set_option maxRecDepth 100000 in
set_option maxHeartbeats 4000000 in
theorem next_any {w : World} {B R : Nat} {L : List Int} {a : Option Addr} {n c : Nat} {xs : List Nat} {p : Nat} (h : TabAt w B L) (hr : RdAt w R a n c xs p) (hBR : B ≠ R) (hSR : ∀ w', w.grownBy w' (some R) → TabAt w' B L) :
    Calls Tryd.prog 36 #[.pointer (some ⟨B, 0, none⟩), .pointer (some ⟨R, 0, none⟩)] w fun e w' => e = .returned (.tuple #[.int .i64 (rn L xs p).1, .int .i64 ((rn L xs p).2.1 : Int)]) ∧ RdAt w' R a n c xs (p + (rn L xs p).2.2) ∧ w.grownBy w' (some R) := by
  have HT := Lib.hid hSR
  have HR := Lib.hid hr
  have hsh := h.short
  have hmo := mo_le h.ok
  have hlen := hr.src.len
  have HL := Lib.hid hlen
  have hY0 : Yet L xs p 0 0 := ⟨rfl, by simp, by simp [fw]⟩
  obtain ⟨M, hM⟩ : ∃ M, M = mo L L.length := ⟨_, rfl⟩
  rw [← hM] at hmo
  have HM := Lib.hid hM
  have hle := hr.le
  have hrch := hr.src.reach
  have HSH := Lib.hid hsh
  clear h hr hSR hlen hM hsh
  go_enter Tryd.func36, Tryd.ntmps36
  go_wp2_with fail
  go_loopw [6, 7] (fun s6 s7 wr => ∃ k W : Nat, k ≤ M ∧ s7 = .int .i64 ((k : Int) + 1) ∧ s6 = .int .u32 (W : Int) ∧ Yet L xs p k W ∧ Hid (RdAt wr R a n c xs (p + k)) ∧ Hid (w.grownBy wr (some R))) (fun _ s7 _ => M + 1 - (intOf s7).toNat)
  case atStart => exact ⟨0, 0, by omega, by rfl, rfl, hY0, HR, Lib.hid (World.grownBy.refl _ _)⟩
  case round =>
    clear hY0
    obtain ⟨k, W, hk, rfl, rfl, hY, HRD, HG⟩ := hrel
    rename World => wr
    have hT := HT.out wr HG.out
    obtain ⟨la, ln, lc, V, hTB, hI, hS⟩ := hT.tab
    have cM := hTB.cM
    rw [← HM.out] at cM
    by_cases hkM : k < M
    · have heq := hY.eq
      rw [← HM.out, show M - k = (M - k - 1) + 1 from by omega] at heq
      rw [nx] at heq
      have hb := rbits_any HRD.out 1
      have hge := hY.ge
      have hlt := hY.lt
      by_cases hleft : 8 * xs.length - p ≤ k
      · rw [if_pos hleft] at heq
        have hrb : rb xs (p + k) 1 = (0, 3, p + k) := by
          unfold rb
          rw [if_neg (by omega), if_pos (by simp; omega)]
        rw [hrb] at hb
        have HBT := Lib.hid hb
        have HE := Lib.hid heq
        clear heq hb hrb hge hlt hY hT hTB hI hS
        go_wp2_with fail
        refine HBT.out.mono ?_
        rintro e w1 ⟨rfl, hr1, hg1⟩
        have HR1 := Lib.hid hr1
        have HG1 := Lib.hid (HG.out.trans' hg1)
        clear hr1 hg1
        go_wp2_with fail
        go_ret2
        rw [HE.out]
        exact ⟨rfl, HR1.out, HG1.out⟩
      · rw [if_neg hleft] at heq
        have hrb : rb xs (p + k) 1 = (bitAt xs (p + k), 0, p + k + 1) := by
          unfold rb
          rw [if_neg (by omega), if_neg (by simp; omega)]
          simp [num]
        rw [hrb] at hb
        obtain ⟨b, hbb⟩ : ∃ b, b = bitAt xs (p + k) := ⟨_, rfl⟩
        have hb2 : b < 2 := by rw [hbb]; exact bitAt_lt _ _
        rw [← hbb] at hb heq
        have HBT := Lib.hid hb
        have hk15 : k + 1 ≤ 15 := by omega
        have hcl := sy_len L L.length (k + 1)
        have h26 := fw_26 (cn L) (cn_le L HSH.out) hk15
        have hW15 : W < 32768 := Nat.lt_of_lt_of_le hlt (Nat.le_trans (Nat.pow_le_pow_right (by omega) (show k ≤ 15 by omega)) (by decide))
        obtain ⟨x, hx⟩ : ∃ x, x = 2 * W + b := ⟨_, rfl⟩
        have hE : bits .or .u32 ((W : Int) * 2) (b : Int) = (x : Int) := by
          have := u32_or_nat (2 * W) b (by omega) (by omega)
          rw [show ((2 * W : Nat) : Int) = (W : Int) * 2 from by omega] at this
          rw [this, hx, nat_join 1 (2 * W) b (by omega) (by omega)]
        obtain ⟨f, hf⟩ : ∃ f, f = fw (cn L) (k + 1) := ⟨_, rfl⟩
        obtain ⟨q, hq⟩ : ∃ q, q = cn L (k + 1) := ⟨_, rfl⟩
        have hql : q ≤ 320 := by rw [hq]; have := HSH.out; unfold cn; omega
        rw [← hf] at heq hge h26
        rw [← hq, ← hx] at heq
        have hxf : f ≤ x := by omega
        obtain ⟨d, hd⟩ : ∃ d, d = x - f := ⟨_, rfl⟩
        have hdi : (x : Int) - (f : Int) = (d : Int) := by omega
        rw [← hd] at heq
        have hx17 : x ≤ 65536 := by omega
        have HEQ := Lib.hid heq
        have HF := Lib.hid hf
        have HQ := Lib.hid hq
        have HXF := Lib.hid hx
        have HD := Lib.hid hd
        have HBB := Lib.hid hbb
        have HLT := Lib.hid hlt
        have hk15i : (k : Int) + 1 < 16 := by omega
        have hkMi : (k : Int) + 1 ≤ (M : Int) := by omega
        clear heq hf hq hx hd hb hrb hge hlt hY hT hTB hI hS hbb hcl
        go_wp2_with fail
        refine HBT.out.mono ?_
        rintro e w1 ⟨rfl, hr1, hg1⟩
        have HR1 := Lib.hid hr1
        have HG1 := Lib.hid (HG.out.trans' hg1)
        obtain ⟨la, ln, lc, V, hTB, hI, hS⟩ := (HT.out w1 HG1.out).tab
        have c1' := hTB.cF (k + 1) (by omega)
        obtain ⟨av, cv, hVn, hiv, _⟩ := IntsAt.ofOwn (hS.own (k + 1) (by omega)) (fun z hz => wf_int (by have := sy_bound z hz; have := HSH.out; omega))
        have c2' := hTB.cV (k + 1) (by omega)
        rw [hVn, show (sy L L.length (k + 1)).length = q from HQ.out.symm] at c2'
        rw [← HF.out] at c1'
        have HIV := Lib.hid hiv
        clear hr1 hg1 hTB hI hS hVn hiv cM
        by_cases hfound : (d : Int) < (q : Int)
        · have hcl : 0 < q := by omega
          obtain ⟨b', off, rfl, hlt', hcell⟩ := HIV.out.cells (by rw [show (sy L L.length (k + 1)).length = q from HQ.out.symm]; exact hcl)
          have hcd := hcell d (by rw [show (sy L L.length (k + 1)).length = q from HQ.out.symm]; omega)
          have HRN := Lib.hid (show rn L xs p = ((sy L L.length (k + 1)).getD d 0, 0, k + 1) by
            rw [HEQ.out, if_pos (by have := HD.out; omega)])
          clear hcell
          go_wp2_with fail
          go_ret2
          rw [HRN.out]
          exact ⟨rfl, HR1.out, HG1.out⟩
        · have hnf : (q : Int) ≤ (d : Int) := by omega
          have HY2 : Yet L xs p (k + 1) x := by
            refine ⟨?_, ?_, ?_⟩
            · rw [HEQ.out, if_neg (by have := HD.out; omega), ← HM.out, show M - (k + 1) = M - k - 1 from by omega]
            · have := HLT.out; rw [Nat.pow_succ]; have := HXF.out; omega
            · rw [fw_next (cn L) (by omega), ← HF.out, ← HQ.out]
              have := HD.out; omega
          clear hfound
          go_wp2_with fail
          go_roundw
          case rel => exact ⟨k + 1, x, by omega, by go_num, rfl, HY2, HR1, HG1⟩
          case measure => simp [intOf]; omega
    · obtain rfl : k = M := by omega
      have heq := hY.eq
      rw [← HM.out, Nat.sub_self] at heq
      have HE := Lib.hid (show rn L xs p = (0, 4, k) from heq)
      have hkMi : (k : Int) < (k : Int) + 1 := by omega
      clear heq hY hT hTB hI hS
      go_wp2_with fail
      go_ret2
      rw [HE.out]
      exact ⟨rfl, HRD.out, HG.out⟩
end Go.Proofs.YtnfdojdppifmoaaDoor
