/- The walk of BitsTurns: it returns true for all numbers of 32 bits and all counts. -/
import Derived.Test.YteeppjgblepmpaaBitsWriter2
namespace Go.Proofs.Yteeppjgblepmpaa
open Go.RowKit BitsPlain
set_option linter.unusedVariables false

/-- two writers, apart -/
structure TwoW (w0 w : World) (A B : Nat) (va vb : Value) (la lb : List Nat) : Prop where
  a : WrAt w A w0.heap.size va la
  b : WrAt w B w0.heap.size vb lb
  ne : A ≠ B
  av : va.ownBlock ≠ some B
  bv : vb.ownBlock ≠ some A
  vv : ∀ k, va.ownBlock = some k → vb.ownBlock ≠ some k
  nA : w0.heap.size ≤ A
  nB : w0.heap.size ≤ B
  below : Below w0.heap.size w0 w

theorem TwoW.swap {w0 w : World} {A B : Nat} {va vb : Value} {la lb : List Nat} (h : TwoW w0 w A B va vb la lb) : TwoW w0 w B A vb va lb la :=
  ⟨h.b, h.a, h.ne.symm, h.bv, h.av, fun k e e2 => h.vv k e2 e, h.nB, h.nA, h.below⟩
theorem TwoW.one {w0 w w' : World} {A B : Nat} {va vb va' : Value} {la lb la' : List Nat} (h : TwoW w0 w A B va vb la lb) (ha : WrAt w' A w0.heap.size va' la') (ht : Touch w w' A va) (hw : Went w va va') : TwoW w0 w' A B va' vb la' lb := by
  have hbl : ∀ k, vb.ownBlock = some k → k < w.heap.size := fun k e => (h.b.own.lt k e).2
  refine ⟨ha, h.b.other ht h.ne.symm (fun e => h.av e.symm) (fun k e => ⟨fun e2 => h.bv (by rw [e, e2]), fun e2 => h.vv k e2.symm e⟩), h.ne, ?_, h.bv, ?_, h.nA, h.nB, ht.below h.below h.nA (fun k e => (h.a.own.lt k e).1)⟩
  · intro e
    rcases hw with e2 | ⟨g, e2, hg⟩
    · exact h.av (e2.symm.trans e)
    · have e3 := Option.some.inj (e2.symm.trans e)
      have := h.b.lt
      omega
  · intro k e e2
    rcases hw with e3 | ⟨g, e3, hg⟩
    · exact h.vv k (e3.symm.trans e) e2
    · have e4 := Option.some.inj (e3.symm.trans e)
      have := hbl k e2
      omega

theorem wr_new (w : World) (base : Nat) (hb : base ≤ w.heap.size) : WrAt (w.alloc (.cells #[.slice none 0 0, .int .i64 0] 41)) w.heap.size base (.slice none 0 0) [] :=
  ⟨heap_alloc_new w _, by simpa [pack, bv] using World.ownsRow_nil (w.alloc (.cells #[.slice none 0 0, .int .i64 0] 41)) base 5 1, fun x hx => by cases hx⟩

theorem WrAt.alloc {w : World} {B base : Nat} {v : Value} {l : List Nat} (h : WrAt w B base v l) (o : Obj) : WrAt (w.alloc o) B base v l :=
  ⟨(Below.heap_alloc w o B h.lt).trans h.blk, h.own.alloc o, h.bin⟩
theorem two_new (w : World) : TwoW w ((w.alloc (.cells #[.slice none 0 0, .int .i64 0] 41)).alloc (.cells #[.slice none 0 0, .int .i64 0] 41)) w.heap.size (w.heap.size + 1) (.slice none 0 0) (.slice none 0 0) [] [] := by
  have hb := wr_new (w.alloc (.cells #[.slice none 0 0, .int .i64 0] 41)) w.heap.size (by simp)
  refine ⟨(wr_new w w.heap.size (Nat.le_refl _)).alloc _, by simpa using hb, by omega, by simp [Value.ownBlock], by simp [Value.ownBlock], fun k e => by simp [Value.ownBlock] at e, Nat.le_refl _, by omega, ?_⟩
  exact ((Below.refl _ _).alloc (Nat.le_refl _) _).alloc (by simp) _

namespace BitsPlain
/-- the number whose bits stand the other way round, so far -/
def tn (v n : Nat) : Nat → Nat
  | 0 => 0
  | i + 1 => tn v n i + v / 2 ^ i % 2 * 2 ^ (n - 1 - i)
theorem codeOf_get (v n p : Nat) (hp : p < n) : (codeOf v n n).getD p 0 = v / 2 ^ (n - 1 - p) % 2 := by simp [codeOf, hp]
theorem tn_sum (v n : Nat) : ∀ k, k ≤ n → tn v n k + bsum (codeOf v n n) 0 (n - k) = bsum (codeOf v n n) 0 n
  | 0, _ => by simp [tn]
  | k + 1, hk => by
    have h := tn_sum v n k (by omega)
    have e : n - k = (n - (k + 1)) + 1 := by omega
    rw [e] at h
    simp only [bsum] at h
    rw [Nat.zero_add, codeOf_get v n (n - (k + 1)) (by omega), show n - 1 - (n - (k + 1)) = k by omega] at h
    simp only [tn]
    rw [show n - 1 - k = n - (k + 1) by omega]
    omega
theorem tn_all (v n : Nat) : tn v n n = bsum (codeOf v n n) 0 n := by
  have h := tn_sum v n n (Nat.le_refl _)
  rw [Nat.sub_self] at h
  simpa [bsum] using h
theorem tn_lt (v n k : Nat) (hk : k ≤ n) : tn v n k < 2 ^ n := by
  have h := tn_sum v n k hk
  have h2 := bsum_lt (codeOf_bin v n n) 0 n
  omega
theorem tn_bits (v n : Nat) : bitsOf (tn v n n) n = codeOf v n n := by
  apply ext_getD
  · rw [bitsOf_length, codeOf_length]
  · intro j hj
    rw [bitsOf_length] at hj
    have h := bsum_bit (codeOf_bin v n n) 0 n j hj
    rw [Nat.zero_add, ← tn_all] at h
    rw [← h]
    simp [bitsOf, hj]
theorem tn_mod (v n : Nat) : ∀ k, k ≤ n → tn v n k % 2 ^ (n - k) = 0
  | 0, _ => by simp [tn]
  | k + 1, hk => by
    have h := tn_mod v n k (by omega)
    have e : (2 : Nat) ^ (n - k) = 2 ^ (n - (k + 1)) * 2 := by rw [← Nat.pow_succ]; congr 1; omega
    rw [e] at h
    have h2 : tn v n k % 2 ^ (n - (k + 1)) = 0 := by
      have := Nat.mod_mul_right_mod (tn v n k) (2 ^ (n - (k + 1))) 2
      rw [h] at this
      simpa using this.symm
    simp only [tn]
    rw [show n - 1 - k = n - (k + 1) by omega, Nat.add_mul_mod_self_right]
    exact h2
theorem tn_or {v n k : Nat} (hk : k < n) (hn : n ≤ 16) (hv : v < 4294967296) :
    bits .or .u32 (tn v n k : Int) (IntKind.u32.wrap (((v / 2 ^ k % 2 : Nat) : Int) * 2 ^ (n - 1 - k))) = (tn v n (k + 1) : Int) := by
  have hp : (2 : Nat) ^ n ≤ 2 ^ 16 := Nat.pow_le_pow_right (by omega) hn
  have hp2 : (2 : Nat) ^ 16 = 65536 := by decide
  have h1 := tn_lt v n k (by omega)
  have h2 := tn_lt v n (k + 1) (by omega)
  have h3 := tn_mod v n k (by omega)
  simp only [tn] at h2 ⊢
  have hb : v / 2 ^ k % 2 < 2 := Nat.mod_lt _ (by omega)
  have e1 : ((v / 2 ^ k % 2 : Nat) : Int) * 2 ^ (n - 1 - k) = ((v / 2 ^ k % 2 * 2 ^ (n - 1 - k) : Nat) : Int) := by push_cast; rfl
  have e2 : (2 : Nat) ^ (n - k) = 2 ^ (n - 1 - k) * 2 := by rw [← Nat.pow_succ]; congr 1; omega
  have h4 : v / 2 ^ k % 2 * 2 ^ (n - 1 - k) ≤ 1 * 2 ^ (n - 1 - k) := Nat.mul_le_mul_right _ (by omega)
  have h5 : 0 < 2 ^ (n - 1 - k) := Nat.pow_pos (by omega)
  rw [e1, IntKind.wrap_u32', show ((v / 2 ^ k % 2 * 2 ^ (n - 1 - k) : Nat) : Int) % 4294967296 = ((v / 2 ^ k % 2 * 2 ^ (n - 1 - k) : Nat) : Int) from by omega,
    u32_or_nat _ _ (by omega) (by omega), nat_join (n - k) (tn v n k) _ h3 (by omega)]
end BitsPlain

theorem u32_of_wf {n : Int} (h : (Lit.int .u32 n).wf = true) : ∃ m : Nat, n = (m : Int) ∧ m < 4294967296 := by
  have : 0 ≤ n ∧ n ≤ 4294967295 := by simpa [Lit.wf, IntKind.min, IntKind.max, IntKind.signed, IntKind.bits] using h
  exact ⟨n.toNat, by omega, by omega⟩

set_option maxRecDepth 100000 in
set_option maxHeartbeats 4000000 in
theorem bitsTurns_walk (a0 a1 : Int) (w : World) (w0 : (Lit.int .u32 a0).wf = true) (w1 : (Lit.int .i64 a1).wf = true) :
    Calls Try.prog 7 #[.int .u32 a0, .int .i64 a1] w fun e w' => e = .returned (.bool true) ∧ Below w.heap.size w w' := by
  obtain ⟨V, rfl, hV⟩ := u32_of_wf w0
  clear w0 w1
  obtain ⟨m, hm⟩ : ∃ m : Nat, m = (IntKind.u64.wrap a1 % 17).toNat := ⟨_, rfl⟩
  have hw1 : 0 ≤ IntKind.u64.wrap a1 := by rw [IntKind.wrap_u64]; omega
  have hm' : (IntKind.u64.wrap a1).tmod 17 = (m : Int) := by rw [Int.tmod_eq_emod_of_nonneg hw1, hm]; omega
  have hm16 : m ≤ 16 := by omega
  have HV := Lib.hid hV
  clear hm hw1 hV
  go_enter Try.func7, Try.ntmps7
  go_wp2_with fail
  go_loop [7, 20] (fun st si => ∃ i : Nat, i ≤ m ∧ si = .int .i64 i ∧ st = .int .u32 (tn V m i : Int)) (fun _ si => m - (intOf si).toNat)
  case atStart => exact ⟨0, by omega, rfl, rfl⟩
  case round =>
    obtain ⟨i, hi, rfl, rfl⟩ := hrel
    by_cases him : i < m
    · have e1 := shr_and V i HV.out
      obtain ⟨x, hx⟩ : ∃ x, x = V / 2 ^ i % 2 := ⟨_, rfl⟩
      have hx2 : x < 2 := by rw [hx]; exact Nat.mod_lt _ (by omega)
      have ho := tn_or him hm16 HV.out
      rw [← hx] at e1 ho
      have HX := Lib.hid hx
      have HO := Lib.hid ho
      have HE := Lib.hid e1
      clear hx ho
      go_wp2_with fail
      go_round
      case rel =>
        refine ⟨i + 1, by omega, by go_num, ?_⟩
        have e := HO.out
        first
          | (rw [IntKind.wrap_u32'] at e; rw [e])
          | rw [e]
      case measure => simp [intOf]; omega
    · have him2 : i = m := by omega
      subst him2
      obtain ⟨T, hT⟩ : ∃ T, T = tn V i i := ⟨_, rfl⟩
      have hTl : T < 4294967296 := by
        have h1 := tn_lt V i i (Nat.le_refl _)
        have hp : (2 : Nat) ^ i ≤ 2 ^ 16 := Nat.pow_le_pow_right (by omega) (by omega)
        have hp2 : (2 : Nat) ^ 16 = 65536 := by decide
        omega
      have HTL := Lib.hid hTl
      have HTT := Lib.hid hT
      rw [← hT]
      have h2 := two_new w
      have hc := wcode_any h2.a (by simp; omega) V HV.out i (by omega) (by simp; omega)
      have HC := Lib.hid hc
      have H2 := Lib.hid h2
      clear hc h2 hT hTl
      go_wp2_with fail
      refine HC.out.mono ?_
      rintro e w1 ⟨rfl, va1, hwa1, ht1, hg1⟩
      have h3 := H2.out.one hwa1 ht1 hg1
      have hc := wbits_any h3.b h3.below.size T HTL.out i (by omega) (by simp; omega)
      have HC := Lib.hid hc
      have H3 := Lib.hid h3
      clear hc h3 hwa1 ht1 hg1
      go_wp2_with fail
      refine HC.out.mono ?_
      rintro e w2 ⟨rfl, vb2, hwb2, ht2, hg2⟩
      have h4 := (H3.out.swap.one hwb2 ht2 hg2).swap
      rw [HTT.out, tn_bits, List.nil_append] at h4
      have hlc := codeOf_length V i i
      have hc := wbits_any h4.a h4.below.size 1 (by omega) 1 (by omega) (by rw [hlc]; omega)
      have HC := Lib.hid hc
      have H4 := Lib.hid h4
      have HLC := Lib.hid hlc
      clear hc h4 hwb2 ht2 hg2 hlc
      go_wp2_with fail
      refine HC.out.mono ?_
      rintro e w3 ⟨rfl, va3, hwa3, ht3, hg3⟩
      have h5 := H4.out.one hwa3 ht3 hg3
      have hc := wbits_any h5.b h5.below.size 1 (by omega) 1 (by omega) (by rw [HLC.out]; omega)
      have HC := Lib.hid hc
      have H5 := Lib.hid h5
      clear hc h5 hwa3 ht3 hg3
      go_wp2_with fail
      refine HC.out.mono ?_
      rintro e w4 ⟨rfl, vb4, hwb4, ht4, hg4⟩
      have h6 := (H5.out.swap.one hwb4 ht4 hg4).swap
      obtain ⟨L, hL⟩ : ∃ L, L = codeOf V i i ++ bitsOf 1 1 := ⟨_, rfl⟩
      have hLl : L.length = i + 1 := by rw [hL, List.length_append, codeOf_length, bitsOf_length]
      rw [← hL] at h6
      have hpl : (pack L).length = (i + 8) / 8 := by rw [pack_length, hLl]
      obtain ⟨pl, hpl2⟩ : ∃ n, n = (pack L).length := ⟨_, rfl⟩
      rw [← hpl2] at hpl
      have hc := wbytes_any h6.a (by omega)
      have HC := Lib.hid hc
      have H6 := Lib.hid h6
      have HLL := Lib.hid hLl
      have HPL := Lib.hid hpl2
      have HPP := Lib.hid hpl
      clear hc h6 hwb4 ht4 hg4 hL hLl hpl2 hpl
      go_wp2_with fail
      refine HC.out.mono ?_
      rintro e w5 ⟨a5, c5, rfl, hba5, hb5, _⟩
      have hb05 := H6.out.below.trans (hb5.mono H6.out.below.size)
      have hwb5 : WrAt w5 (w.heap.size + 1) w.heap.size vb4 L := by
        refine ⟨(hb5.block _ H6.out.b.lt).trans H6.out.b.blk, ?_, H6.out.b.bin⟩
        exact H6.out.b.own.kept (row := some w4.heap.size) ⟨hb5.os, hb5.tape, hb5.output, hb5.size, fun j hj _ => hb5.block j hj⟩ (Or.inr (fun e => by
          have := (H6.out.b.own.lt _ e).2
          omega))
      have hwa5 : WrAt w5 w.heap.size w.heap.size va3 L := by
        refine ⟨(hb5.block _ H6.out.a.lt).trans H6.out.a.blk, ?_, H6.out.a.bin⟩
        exact H6.out.a.own.kept (row := some w4.heap.size) ⟨hb5.os, hb5.tape, hb5.output, hb5.size, fun j hj _ => hb5.block j hj⟩ (Or.inr (fun e => by
          have := (H6.out.a.own.lt _ e).2
          omega))
      have hc := wbytes_any hwb5 (by have := HLL.out; omega)
      have HC := Lib.hid hc
      have HWA5 := Lib.hid hwa5
      have HBA5 := Lib.hid hba5
      have HB05 := Lib.hid hb05
      clear hc hwb5 hwa5 hba5 hb05 hb5
      go_wp2_with fail
      refine HC.out.mono ?_
      rintro e w6 ⟨a6, c6, rfl, hba6, hb6, _⟩
      have hs := same_any (HBA5.out.kept hb6) hba6
      rw [beq_self_eq_true] at hs
      have hb06 := HB05.out.trans (hb6.mono HB05.out.size)
      have hwa6 : WrAt w6 w.heap.size w.heap.size va3 L := by
        refine ⟨(hb6.block _ HWA5.out.lt).trans HWA5.out.blk, ?_, HWA5.out.bin⟩
        exact HWA5.out.own.kept (row := some w5.heap.size) ⟨hb6.os, hb6.tape, hb6.output, hb6.size, fun j hj _ => hb6.block j hj⟩ (Or.inr (fun e => by
          have := (HWA5.out.own.lt _ e).2
          omega))
      have hc := wbytes_any hwa6 (by have := HLL.out; omega)
      have HC := Lib.hid hc
      have HS := Lib.hid hs
      have HB06 := Lib.hid hb06
      clear hc hs hb06 hwa6 hba6 hb6
      go_wp2_with fail
      refine HS.out.mono ?_
      rintro e w7 ⟨rfl, rfl⟩
      go_wp2_with fail
      refine HC.out.mono ?_
      rintro e w7 ⟨a7, c7, rfl, _, hb7, _⟩
      rw [← HPL.out]
      have z : ((pl : Int) == ((i : Int) + 8) / 8) = true := by rw [beq_iff_eq]; have := HPP.out; omega
      go_wp2_with fail
      go_ret
      exact ⟨rfl, HB06.out.trans (hb7.mono HB06.out.size)⟩
end Go.Proofs.Yteeppjgblepmpaa
