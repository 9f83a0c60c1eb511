/- The walk of BitsParts: it returns true for all bytes and all numbers. -/
import Derived.Test.YteeppjgblepmpaaBitsReader
namespace Go.Proofs.Yteeppjgblepmpaa
open Go.RowKit BitsPlain
set_option linter.unusedVariables false

/-- two readers of the same bytes, apart, at two places -/
structure Two (w0 w : World) (B1 B2 : Nat) (a1 a2 : Option Addr) (n c1 c2 : Nat) (xs : List Nat) (p q : Nat) : Prop where
  r : RdAt w B1 a1 n c1 xs p
  s : RdAt w B2 a2 n c2 xs q
  ne : B1 ≠ B2
  a1B2 : 0 < n → ∀ b off t, a1 = some ⟨b, off, t⟩ → b ≠ B2
  a2B1 : 0 < n → ∀ b off t, a2 = some ⟨b, off, t⟩ → b ≠ B1
  n1 : w0.heap.size ≤ B1
  n2 : w0.heap.size ≤ B2
  below : Below w0.heap.size w0 w

section
variable {w0 w w' : World} {B1 B2 : Nat} {a1 a2 : Option Addr} {n c1 c2 : Nat} {xs : List Nat} {p q j : Nat}
theorem Two.one (h : Two w0 w B1 B2 a1 a2 n c1 c2 xs p q) (hr : RdAt w' B1 a1 n c1 xs j) (hg : w.grownBy w' (some B1)) : Two w0 w' B1 B2 a1 a2 n c1 c2 xs j q :=
  ⟨hr, h.s.other hg (fun e => h.ne (Option.some.inj e).symm) (fun hp b off t e e2 => h.a2B1 hp b off t e (Option.some.inj e2)), h.ne, h.a1B2, h.a2B1, h.n1, h.n2, h.below.grown hg h.below.size (fun k hk => by cases hk; exact h.n1)⟩
theorem Two.two (h : Two w0 w B1 B2 a1 a2 n c1 c2 xs p q) (hr : RdAt w' B2 a2 n c2 xs j) (hg : w.grownBy w' (some B2)) : Two w0 w' B1 B2 a1 a2 n c1 c2 xs p j :=
  ⟨h.r.other hg (fun e => h.ne (Option.some.inj e)) (fun hp b off t e e2 => h.a1B2 hp b off t e (Option.some.inj e2)), hr, h.ne, h.a1B2, h.a2B1, h.n1, h.n2, h.below.grown hg h.below.size (fun k hk => by cases hk; exact h.n2)⟩
theorem Two.drewN (h : Two w0 w B1 B2 a1 a2 n c1 c2 xs p q) (k : Nat) : Two w0 (w.drewN k) B1 B2 a1 a2 n c1 c2 xs p q :=
  ⟨h.r.drewN k, h.s.drewN k, h.ne, h.a1B2, h.a2B1, h.n1, h.n2, below_drewN h.below k⟩
end

theorem rb_one {xs : List Nat} {p : Nat} (h : p < 8 * xs.length) : rb xs p 1 = (bitAt xs p, 0, p + 1) := by
  unfold rb
  rw [if_neg (by omega), if_neg (by simp; omega)]
  simp [num]

set_option maxRecDepth 100000 in
set_option maxHeartbeats 4000000 in
theorem bitsParts_walk (a0 : Option Addr) (len0 cap0 : Nat) (z0 : List Int) (a1 a2 : Int) (w : World) (w0 : IsRow .u8 1 w a0 len0 cap0 z0) (w1 : (Lit.int .i64 a1).wf = true) (w2 : (Lit.int .i64 a2).wf = true) :
    Calls Try.prog 6 #[.slice a0 len0 cap0, .int .i64 a1, .int .i64 a2] w fun e w' => e = .returned (.bool true) ∧ Below w.heap.size w w' := by
  obtain ⟨xs, hb⟩ := w0.bytes
  clear w0 w1 w2
  have hreach := hb.reach
  have hlen := hb.len
  obtain ⟨m, hm⟩ : ∃ m : Nat, m = (IntKind.u64.wrap a2 % 33).toNat := ⟨_, rfl⟩
  obtain ⟨t, ht⟩ : ∃ t : Nat, t = (IntKind.u64.wrap a1 % 40).toNat := ⟨_, rfl⟩
  have hw2 : 0 ≤ IntKind.u64.wrap a2 := by rw [IntKind.wrap_u64]; omega
  have hw1 : 0 ≤ IntKind.u64.wrap a1 := by rw [IntKind.wrap_u64]; omega
  have hm' : (IntKind.u64.wrap a2).tmod 33 = (m : Int) := by rw [Int.tmod_eq_emod_of_nonneg hw2, hm]; omega
  have ht' : (IntKind.u64.wrap a1).tmod 40 = (t : Int) := by rw [Int.tmod_eq_emod_of_nonneg hw1, ht]; omega
  have hm32 : m ≤ 32 := by omega
  have ht39 : t ≤ 39 := by omega
  have HLEN := Lib.hid hlen
  clear hm ht hlen hw1 hw2
  have hn1 := rnew_any hb
  have HN1 := Lib.hid hn1
  have HBB := Lib.hid hb
  clear hn1 hb
  go_enter Try.func6, Try.ntmps6
  go_wp2_with fail
  refine HN1.out.mono ?_
  rintro e w1 ⟨B1, a1', c1, rfl, hr1, hb1, hB1, hf1⟩
  have hn2 := rnew_any (HBB.out.kept hb1)
  have HN2 := Lib.hid hn2
  have HR1 := Lib.hid hr1
  have HB1 := Lib.hid hb1
  clear hn2 hr1 hb1
  go_wp2_with fail
  refine HN2.out.mono ?_
  rintro e w2 ⟨B2, a2', c2, rfl, hr2, hb2, hB2, hf2⟩
  have hlt1 := HR1.out.lt
  have htwo : Two w w2 B1 B2 a1' a2' len0 c1 c2 xs 0 0 := by
    refine ⟨?_, hr2, by omega, fun hp b off s e => ?_, fun hp b off s e => ?_, hB1, Nat.le_trans HB1.out.size hB2, HB1.out.trans (hb2.mono HB1.out.size)⟩
    · refine ⟨(hb2.block B1 hlt1).trans HR1.out.blk, HR1.out.src.kept hb2, HR1.out.apart, HR1.out.le⟩
    · obtain ⟨b', off', e', hlt', _⟩ := HR1.out.src.cells hp
      rw [e] at e'
      cases e'
      omega
    · have := hf2 b off s e
      omega
  have HT := Lib.hid htwo
  have hL := rleft_any htwo.r
  have HL := Lib.hid hL
  have e8 : IntKind.i64.wrap (8 * (len0 : Int)) = 8 * (len0 : Int) := IntWalk.i64_in _ (by omega)
  clear hr2 hb2 hf1 hf2 htwo hL hB1 hB2 hlt1
  go_wp2_with fail
  refine HL.out.mono ?_
  rintro e w3 ⟨rfl, q, hw3⟩
  subst hw3
  rw [show ((8 * len0 - 0 : Nat) : Int) = 8 * (len0 : Int) from by omega]
  go_wp2_with fail
  go_loopw [42] (fun sk wr => ∃ k p : Nat, k ≤ t ∧ sk = .int .u64 k ∧ Two w wr B1 B2 a1' a2' len0 c1 c2 xs p p) (fun sk _ => t - (intOf sk).toNat)
  case atStart => exact ⟨0, 0, by omega, rfl, HT.out.drewN q⟩
  case round =>
    obtain ⟨k, p, hk, rfl, htwo⟩ := hrel
    by_cases hkt : k < t
    · have hq1 := rbits_any htwo.r 1
      have HQ1 := Lib.hid hq1
      have HTW := Lib.hid htwo
      clear hq1 htwo
      go_wp2_with fail
      refine HQ1.out.mono ?_
      rintro e w4 ⟨rfl, hr4, hg4⟩
      have htw4 := HTW.out.one hr4 hg4
      have hq2 := rbits_any htw4.s 1
      have HQ2 := Lib.hid hq2
      have HTW4 := Lib.hid htw4
      clear hq2 htw4 hr4 hg4
      go_wp2_with fail
      refine HQ2.out.mono ?_
      rintro e w5 ⟨rfl, hr5, hg5⟩
      have htw5 := HTW4.out.two hr5 hg5
      have HTW5 := Lib.hid htw5
      clear htw5 hr5 hg5
      go_wp2_with fail
      go_roundw
      case rel => exact ⟨k + 1, _, by omega, by go_num, HTW5.out⟩
      case measure => simp [intOf]; omega
    · have hL2 := rleft_any htwo.r
      have HL2 := Lib.hid hL2
      have HTW := Lib.hid htwo
      have hpn := htwo.r.le
      clear hL2 htwo
      go_wp2_with fail
      refine HL2.out.mono ?_
      rintro e w4 ⟨rfl, q4, hw4⟩
      subst hw4
      have htw4 := HTW.out.drewN q4
      have hq1 := rbits_any htw4.r (m : Int)
      by_cases hlm : 8 * len0 - p < m
      · have hr : rb xs p (m : Int) = (0, 3, p) := by unfold rb; rw [if_neg (by omega), if_pos (by rw [HLEN.out]; simpa using hlm)]
        rw [hr] at hq1
        have hlm' : ((8 * len0 - p : Nat) : Int) < (m : Int) := by omega
        have HQ1 := Lib.hid hq1
        have HTW4 := Lib.hid htw4
        clear hq1 htw4 hr
        go_wp2_with fail
        refine HQ1.out.mono ?_
        rintro e w5 ⟨rfl, hr5, hg5⟩
        have htw5 := HTW4.out.one hr5 hg5
        have hA1 := rat_any htw5.r
        have hA2 := rat_any htw5.s
        have HA1 := Lib.hid hA1
        have HA2 := Lib.hid hA2
        have HBL := Lib.hid htw5.below
        clear hA1 hA2 htw5 hr5 hg5
        go_wp2_with fail
        refine HA1.out.mono ?_
        rintro e w6 ⟨rfl, rfl⟩
        go_wp2_with fail
        refine HA2.out.mono ?_
        rintro e w6 ⟨rfl, rfl⟩
        go_wp2_with fail
        go_ret
        exact ⟨rfl, HBL.out⟩
      · have hr : rb xs p (m : Int) = (num xs p m, 0, p + m) := by unfold rb; rw [if_neg (by omega), if_neg (by rw [HLEN.out]; simpa using hlm)]; simp
        rw [hr] at hq1
        have hlm' : (m : Int) ≤ ((8 * len0 - p : Nat) : Int) := by omega
        have HQ1 := Lib.hid hq1
        have HTW4 := Lib.hid htw4
        clear hq1 htw4 hr
        go_wp2_with fail
        refine HQ1.out.mono ?_
        rintro e w5 ⟨rfl, hr5, hg5⟩
        have htw5 := HTW4.out.one hr5 hg5
        have HTW5 := Lib.hid htw5
        clear htw5 hr5 hg5
        go_wp2_with fail
        go_loopw [13, 75] (fun sx si wr => ∃ i : Nat, i ≤ m ∧ si = .int .i64 i ∧ sx = .int .u32 (num xs p i : Int) ∧ Two w wr B1 B2 a1' a2' len0 c1 c2 xs (p + m) (p + i)) (fun _ si _ => m - (intOf si).toNat)
        case atStart => exact ⟨0, by omega, rfl, rfl, HTW5.out⟩
        case round =>
          obtain ⟨i, hi, rfl, rfl, htwo⟩ := hrel
          by_cases him : i < m
          · have hq2 := rbits_any htwo.s 1
            rw [rb_one (by rw [HLEN.out]; omega)] at hq2
            have hbl := bitAt_lt xs (p + i)
            have HQ2 := Lib.hid hq2
            have HTW6 := Lib.hid htwo
            have hob := or_bit (num_lt xs p i) (show i < 32 by omega) hbl
            have HOB := Lib.hid hob
            obtain ⟨y, hy⟩ : ∃ y, y = bitAt xs (p + i) := ⟨_, rfl⟩
            rw [← hy] at hbl
            have HY := Lib.hid hy
            clear hq2 htwo hob hy
            go_wp2_with fail
            refine HQ2.out.mono ?_
            rintro e w6 ⟨rfl, hr6, hg6⟩
            have htw6 := HTW6.out.two hr6 hg6
            have HTW7 := Lib.hid htw6
            clear htw6 hr6 hg6
            rw [← HY.out]
            go_wp2_with fail
            go_roundw
            case rel =>
              refine ⟨i + 1, by omega, by go_num, ?_, HTW7.out⟩
              have e := HOB.out
              rw [← HY.out] at e
              first
                | (rw [IntKind.wrap_u32'] at e; rw [e, HY.out]; rfl)
                | (rw [e, HY.out]; rfl)
            case measure => simp [intOf]; omega
          · have him2 : i = m := by omega
            subst him2
            have hA1 := rat_any htwo.r
            have hA2 := rat_any htwo.s
            have HA1 := Lib.hid hA1
            have HA2 := Lib.hid hA2
            have HBL := Lib.hid htwo.below
            clear hA1 hA2 htwo
            go_wp2_with fail
            refine HA1.out.mono ?_
            rintro e w6 ⟨rfl, rfl⟩
            go_wp2_with fail
            refine HA2.out.mono ?_
            rintro e w6 ⟨rfl, rfl⟩
            go_wp2_with fail
            go_ret
            exact ⟨rfl, HBL.out⟩
end Go.Proofs.Yteeppjgblepmpaa
