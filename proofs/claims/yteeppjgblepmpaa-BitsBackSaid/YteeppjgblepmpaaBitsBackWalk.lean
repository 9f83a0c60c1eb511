/- The walk of BitsBack: it returns true for all rows of things to write. -/
import Derived.Test.YteeppjgblepmpaaBitsTurnsWalk
import Derived.Test.YteeppjgblepmpaaBitsReader
import Derived.Test.YteeppjgblepmpaaPuts
namespace Go.Proofs.Yteeppjgblepmpaa
open Go.RowKit BitsPlain
set_option linter.unusedVariables false

/-- the bits that a thing is written as -/
def outB (x : PutV) : List Nat := if x.code then (if x.n < 0 ∨ 16 < x.n then [] else codeOf x.v x.n.toNat x.n.toNat) else (if x.n < 0 ∨ 32 < x.n then [] else bitsOf x.v x.n.toNat)
def allB (ps : Nat → PutV) (k : Nat) : List Nat := (List.range k).flatMap fun i => outB (ps i)
theorem allB_succ (ps : Nat → PutV) (k : Nat) : allB ps (k + 1) = allB ps k ++ outB (ps k) := by simp [allB, List.range_succ]
theorem outB_len (x : PutV) : (outB x).length ≤ 32 := by
  unfold outB
  split <;> split <;> simp [codeOf_length, bitsOf_length] <;> omega
theorem allB_len (ps : Nat → PutV) : ∀ k, (allB ps k).length ≤ 32 * k
  | 0 => by simp [allB]
  | k + 1 => by
    have h1 := allB_len ps k
    have h2 := outB_len (ps k)
    rw [allB_succ, List.length_append]; omega

theorem mask_n (v n : Nat) (hv : v < 4294967296) (hn : n ≤ 32) : ((v : Int) % 2 ^ n != bits .and .u64 (IntKind.u64.wrap (v : Int)) (IntKind.u64.wrap (IntKind.u64.wrap (2 ^ n) - 1)) % 4294967296) = false := by
  have hp : (2 : Nat) ^ n ≤ 2 ^ 32 := Nat.pow_le_pow_right (by omega) hn
  have h32 : (2 : Nat) ^ 32 = 4294967296 := by decide
  have h0 : 0 < (2 : Nat) ^ n := Nat.pow_pos (by omega)
  have e1 : (2 : Int) ^ n = ((2 ^ n : Nat) : Int) := by push_cast; rfl
  rw [e1]
  have a1 : IntKind.u64.wrap (v : Int) = (v : Int) := by rw [IntKind.wrap_u64]; omega
  have a2 : IntKind.u64.wrap ((2 ^ n : Nat) : Int) = ((2 ^ n : Nat) : Int) := by rw [IntKind.wrap_u64]; omega
  have a3 : IntKind.u64.wrap (((2 ^ n : Nat) : Int) - 1) = ((2 ^ n - 1 : Nat) : Int) := by rw [IntKind.wrap_u64]; omega
  rw [a1, a2, a3, u64_and_nat v (2 ^ n - 1) (by omega) (by omega), Nat.and_two_pow_sub_one_eq_mod, show (v : Int) % ((2 ^ n : Nat) : Int) = ((v % 2 ^ n : Nat) : Int) from rfl]
  have hm : v % 2 ^ n ≤ v := Nat.mod_le _ _
  rw [bne_eq_false_iff_eq]
  omega
theorem rb_one1 {xs : List Nat} {p : Nat} (h : p < 8 * xs.length) : rb xs p 1 = (bitAt xs p, 0, p + 1) := by
  unfold rb
  rw [if_neg (by omega), if_neg (by simp; omega)]
  simp [num]
theorem allB_get (ps : Nat → PutV) : ∀ (m j : Nat), j < m → (allB ps j).length + (outB (ps j)).length ≤ (allB ps m).length ∧ ∀ t, t < (outB (ps j)).length → (allB ps m).getD ((allB ps j).length + t) 0 = (outB (ps j)).getD t 0
  | m + 1, j, h => by
    rw [allB_succ]
    rcases Nat.lt_or_ge j m with g | g
    · obtain ⟨h1, h2⟩ := allB_get ps m j g
      refine ⟨by rw [List.length_append]; omega, fun t ht => ?_⟩
      rw [← h2 t ht]
      simp [List.getElem?_append_left (show (allB ps j).length + t < (allB ps m).length by omega)]
    · obtain rfl : j = m := by omega
      refine ⟨by rw [List.length_append]; omega, fun t ht => ?_⟩
      simp [List.getElem?_append_right]
theorem num_pack {l : List Nat} (h : Bin l) (p : Nat) : ∀ k, num (pack l) p k = bsum l p k
  | 0 => rfl
  | k + 1 => by simp only [num, bsum]; rw [num_pack h p k, bitAt_pack h]
theorem bsum_shift {l o : List Nat} {p : Nat} : ∀ {k : Nat}, (∀ t, t < k → l.getD (p + t) 0 = o.getD t 0) → bsum l p k = bsum o 0 k
  | 0, _ => rfl
  | k + 1, h => by
    simp only [bsum]
    rw [bsum_shift (k := k) (fun t ht => h t (by omega)), h k (by omega), Nat.zero_add]
theorem bsum_bitsOf (v n : Nat) : ∀ k, k ≤ n → bsum (bitsOf v n) 0 k = v % 2 ^ k
  | 0, _ => by simp [bsum, Nat.mod_one]
  | k + 1, h => by
    simp only [bsum]
    have e : (bitsOf v n).getD (0 + k) 0 = v / 2 ^ k % 2 := by simp [bitsOf, show k < n by omega]
    rw [bsum_bitsOf v n k (by omega), e, Nat.mod_pow_succ, Nat.mul_comm]
theorem RdAt.alloc {w : World} {B : Nat} {a : Option Addr} {n c : Nat} {xs : List Nat} {p : Nat} (h : RdAt w B a n c xs p) (o : Obj) : RdAt (w.alloc o) B a n c xs p :=
  ⟨(Below.heap_alloc w o B h.lt).trans h.blk, h.src.alloc o, h.apart, h.le⟩

set_option maxRecDepth 100000 in
set_option maxHeartbeats 16000000 in
theorem bitsBack_walk (a0 : Option Addr) (len0 cap0 : Nat) (ps : Nat → PutV) (w : World) (w0 : PutsAt w a0 len0 cap0 ps) :
    Calls Try.prog 5 #[.slice a0 len0 cap0] w fun e w' => e = .returned (.bool true) ∧ Below w.heap.size w w' := by
  have hcap := w0.cap
  have hcm := w0.capm
  have hnl := w0.nl
  have HC := Lib.hid w0.cells
  clear w0
  have hwn := wr_new w w.heap.size (Nat.le_refl _)
  have HWN := Lib.hid hwn
  clear hwn
  -- the length that counts
  have main : ∀ m, m ≤ 200 → m ≤ len0 → (200 < len0 → m = 200) → (¬ 200 < len0 → m = len0) → Calls Try.prog 5 #[.slice a0 len0 cap0] w fun e w' => e = .returned (.bool true) ∧ Below w.heap.size w w' := by
    intro m hm2 hml h200 hn200
    have hm0 : (m : Int) ≤ 200 := by omega
    by_cases hbig : (200 : Int) < (len0 : Int)
    · have hme : m = 200 := h200 (by omega)
      subst hme
      clear h200 hn200
      go_enter Try.func5, Try.ntmps5
      go_wp2_with fail
      have hwr0 : Below w.heap.size w (w.alloc (.cells #[.slice none 0 0, .int .i64 0] 41)) := (Below.refl _ _).alloc (Nat.le_refl _) _
      go_loopw [5, 23] (fun v5 sk wr => ∃ (k : Nat) (v' : Value), k ≤ 200 ∧ sk = .int .i64 k ∧ WrAt wr w.heap.size w.heap.size v' (allB ps k) ∧ Below w.heap.size w wr) (fun _ sk _ => 200 - (intOf sk).toNat)
      case atStart => exact ⟨0, .slice none 0 0, by omega, rfl, by simpa [allB] using HWN.out, hwr0⟩
      case round =>
        obtain ⟨k, v', hk, rfl, hwr, hbel⟩ := hrel
        by_cases hkm : k < 200
        · obtain ⟨b, off, rfl, hlt, hc⟩ := HC.out (by omega)
          obtain ⟨q0, q1, q2, q3, qv, qn⟩ := hc k (by omega)
          obtain ⟨x, hx⟩ : ∃ x, x = ps k := ⟨_, rfl⟩
          rw [← hx] at q0 q1 q2 q3 qv qn
          have r0 := (hbel.cell (p := ⟨b, off + k * 4, none⟩) hlt).trans q0
          have r1 := (hbel.cell (p := ⟨b, off + k * 4 + 1, none⟩) hlt).trans q1
          have r2 := (hbel.cell (p := ⟨b, off + k * 4 + 2, none⟩) hlt).trans q2
          have r3 := (hbel.cell (p := ⟨b, off + k * 4 + 3, none⟩) hlt).trans q3
          obtain ⟨xv, xn, xc, xa⟩ := x
          simp only at r0 r1 r2 r3 qv qn
          have hlen := allB_len ps k
          have HX := Lib.hid hx
          have HW := Lib.hid hwr
          have HB := Lib.hid hbel
          have HQ := Lib.hid qv
          clear hc q0 q1 q2 q3 hx hwr hbel qv
          cases xc
          · by_cases hbad : xn < 0 ∨ 32 < xn
            · have ho : outB ⟨xv, xn, false, xa⟩ = [] := by unfold outB; rw [if_neg (by simp), if_pos hbad]
              have HO := Lib.hid ho
              clear ho
              go_wp2_with fail
              refine (wbits_bad _ _ _ _ hbad).mono ?_
              rintro e w2 ⟨rfl, rfl⟩
              go_wp2_with fail
              go_roundw
              case rel =>
                refine ⟨k + 1, v', by omega, by go_num, ?_, HB.out.alloc HB.out.size _⟩
                rw [allB_succ, ← HX.out, HO.out, List.append_nil]
                exact HW.out.alloc _
              case measure => simp [intOf]; omega
            · obtain ⟨n, rfl⟩ := Int.eq_ofNat_of_zero_le (show 0 ≤ xn by omega)
              have ho : outB ⟨xv, (n : Int), false, xa⟩ = bitsOf xv n := by unfold outB; rw [if_neg (by simp), if_neg hbad]; simp
              have HO := Lib.hid ho
              have hn32 : n ≤ 32 := by omega
              clear ho
              go_wp2_with fail
              refine (wbits_any (HW.out.alloc _) (by have := HB.out.size; simp; omega) xv HQ.out n hn32 (by omega)).mono ?_
              rintro e w2 ⟨rfl, v2, hw2, ht2, hg2⟩
              have hb2 := ht2.below (HB.out.alloc HB.out.size _) (Nat.le_refl _) (fun j e => (HW.out.own.lt j e).1)
              have HW2 := Lib.hid hw2
              have HB2 := Lib.hid hb2
              clear hw2 hb2 ht2 hg2
              go_wp2_with fail
              go_roundw
              case rel =>
                refine ⟨k + 1, v2, by omega, by go_num, ?_, HB2.out⟩
                rw [allB_succ, ← HX.out, HO.out]
                exact HW2.out
              case measure => simp [intOf]; omega
          · by_cases hbad : xn < 0 ∨ 16 < xn
            · have ho : outB ⟨xv, xn, true, xa⟩ = [] := by unfold outB; rw [if_pos rfl, if_pos hbad]
              have HO := Lib.hid ho
              clear ho
              go_wp2_with fail
              refine (wcode_bad _ _ _ _ hbad).mono ?_
              rintro e w2 ⟨rfl, rfl⟩
              go_wp2_with fail
              go_roundw
              case rel =>
                refine ⟨k + 1, v', by omega, by go_num, ?_, HB.out.alloc HB.out.size _⟩
                rw [allB_succ, ← HX.out, HO.out, List.append_nil]
                exact HW.out.alloc _
              case measure => simp [intOf]; omega
            · obtain ⟨n, rfl⟩ := Int.eq_ofNat_of_zero_le (show 0 ≤ xn by omega)
              have ho : outB ⟨xv, (n : Int), true, xa⟩ = codeOf xv n n := by unfold outB; rw [if_pos rfl, if_neg hbad]; simp
              have HO := Lib.hid ho
              have hn16 : n ≤ 16 := by omega
              clear ho
              go_wp2_with fail
              refine (wcode_any (HW.out.alloc _) (by have := HB.out.size; simp; omega) xv HQ.out n hn16 (by omega)).mono ?_
              rintro e w2 ⟨rfl, v2, hw2, ht2, hg2⟩
              have hb2 := ht2.below (HB.out.alloc HB.out.size _) (Nat.le_refl _) (fun j e => (HW.out.own.lt j e).1)
              have HW2 := Lib.hid hw2
              have HB2 := Lib.hid hb2
              clear hw2 hb2 ht2 hg2
              go_wp2_with fail
              go_roundw
              case rel =>
                refine ⟨k + 1, v2, by omega, by go_num, ?_, HB2.out⟩
                rw [allB_succ, ← HX.out, HO.out]
                exact HW2.out
              case measure => simp [intOf]; omega
        · have hkm2 : 200 = k := by omega
          subst hkm2
          have hlen := allB_len ps 200
          have hby := wbytes_any hwr (by omega)
          obtain ⟨L, hL⟩ : ∃ L, L = allB ps 200 := ⟨_, rfl⟩
          rw [← hL] at hby hlen
          have hbin := hwr.bin
          rw [← hL] at hbin
          have HBY := Lib.hid hby
          have HL := Lib.hid hL
          have HBIN := Lib.hid hbin
          have HB := Lib.hid hbel
          clear hby hwr hbel hL hbin
          go_wp2_with fail
          refine HBY.out.mono ?_
          rintro e w2 ⟨a2, c2, rfl, hb2, hbel2, _⟩
          have hn := rnew_any hb2
          have HN := Lib.hid hn
          have HB2 := Lib.hid (HB.out.trans (hbel2.mono HB.out.size))
          obtain ⟨pl, hpl⟩ : ∃ n, n = (pack L).length := ⟨_, rfl⟩
          have hpl2 := pack_length L
          rw [← hpl] at hpl2
          rw [← hpl] at HN
          rw [← hpl]
          have HPL := Lib.hid hpl
          have HPP := Lib.hid hpl2
          clear hn hb2 hbel2 hpl hpl2
          go_wp2_with fail
          refine HN.out.mono ?_
          rintro e w3 ⟨B3, a3, c3, rfl, hrd, hb3, hB3, hfr3⟩
          have HR3 := Lib.hid hrd
          have HB3 := Lib.hid (HB2.out.trans (hb3.mono HB2.out.size))
          have hB30 : w.heap.size ≤ B3 := Nat.le_trans HB2.out.size hB3
          clear hrd hb3 hfr3 hB3
          go_wp2_with fail
          go_loopw [8, 49] (fun v8 sk wr => ∃ (j : Nat), j ≤ 200 ∧ sk = .int .i64 j ∧ RdAt wr B3 a3 pl c3 (pack L) (allB ps j).length ∧ Below w.heap.size w wr) (fun _ sk _ => 200 - (intOf sk).toNat)
          case atStart => exact ⟨0, by omega, rfl, by simpa [allB] using HR3.out, HB3.out⟩
          case round =>
            obtain ⟨j, hj, rfl, hrd, hbel⟩ := hrel
            rename World => wr4
            by_cases hjm : j < 200
            · obtain ⟨b, off, rfl, hlt, hc⟩ := HC.out (by omega)
              obtain ⟨q0, q1, q2, q3, qv, qn⟩ := hc j (by omega)
              obtain ⟨x, hx⟩ : ∃ x, x = ps j := ⟨_, rfl⟩
              rw [← hx] at q0 q1 q2 q3 qv qn
              have r0 := (hbel.cell (p := ⟨b, off + j * 4, none⟩) hlt).trans q0
              have r1 := (hbel.cell (p := ⟨b, off + j * 4 + 1, none⟩) hlt).trans q1
              have r2 := (hbel.cell (p := ⟨b, off + j * 4 + 2, none⟩) hlt).trans q2
              have r3 := (hbel.cell (p := ⟨b, off + j * 4 + 3, none⟩) hlt).trans q3
              obtain ⟨xv, xn, xc, xa⟩ := x
              simp only at r0 r1 r2 r3 qv qn
              have hag := allB_get ps 200 j hjm
              rw [← hx, ← HL.out] at hag
              obtain ⟨hfit, hget⟩ := hag
              obtain ⟨p, hp⟩ : ∃ p, p = (allB ps j).length := ⟨_, rfl⟩
              rw [← hp] at hfit hget hrd
              have hp1 : (allB ps (j + 1)).length = p + (outB ⟨xv, xn, xc, xa⟩).length := by rw [allB_succ, List.length_append, ← hx, ← hp]
              have HP1 := Lib.hid hp1
              have HG := Lib.hid hget
              have HR := Lib.hid hrd
              have HBE := Lib.hid hbel
              have HQ := Lib.hid qv
              have hg3 : B3 ≠ wr4.heap.size := by have := hrd.lt; omega
              clear hc q0 q1 q2 q3 hx hrd hbel qv hget hp hp1
              by_cases hbad : outB ⟨xv, xn, xc, xa⟩ = [] ∧ (xn < 0 ∨ 32 < xn ∨ (xc = true ∧ 16 < xn))
              · obtain ⟨ho, hb⟩ := hbad
                have HO := Lib.hid ho
                clear ho hfit
                have fin : RdAt (wr4.alloc (.cells #[.int .u32 (xv : Int), .int .i64 xn, .bool xc, .bool xa] 43)) B3 a3 pl c3 (pack L) (allB ps (j + 1)).length := by
                  rw [HP1.out, HO.out]; exact HR.out.alloc _
                have FIN := Lib.hid fin
                clear fin
                rcases hb with hb | hb | ⟨rfl, hb⟩
                · have d1 : decide (xn < 0) = true := by simp; omega
                  go_wp2_with fail
                  go_roundw
                  case rel => exact ⟨j + 1, by omega, by go_num, FIN.out, HBE.out.alloc HBE.out.size _⟩
                  case measure => simp [intOf]; omega
                · have hb0 : ¬ xn < 0 := by omega
                  go_wp2_with fail
                  go_roundw
                  case rel => exact ⟨j + 1, by omega, by go_num, FIN.out, HBE.out.alloc HBE.out.size _⟩
                  case measure => simp [intOf]; omega
                · have hb0 : ¬ xn < 0 := by omega
                  by_cases hb3 : 32 < xn
                  all_goals
                    go_wp2_with fail
                    go_roundw
                    case rel => exact ⟨j + 1, by omega, by go_num, FIN.out, HBE.out.alloc HBE.out.size _⟩
                    case measure => simp [intOf]; omega
              · cases xc
                · have hok : ¬ (xn < 0 ∨ 32 < xn) := fun h => hbad ⟨by unfold outB; rw [if_neg (by simp), if_pos h], h.elim Or.inl (fun h => Or.inr (Or.inl h))⟩
                  obtain ⟨n, rfl⟩ := Int.eq_ofNat_of_zero_le (show 0 ≤ xn by omega)
                  have ho : outB ⟨xv, (n : Int), false, xa⟩ = bitsOf xv n := by unfold outB; rw [if_neg (by simp), if_neg hok]; simp
                  have hn32 : n ≤ 32 := by omega
                  rw [ho, bitsOf_length] at hfit
                  have HO := Lib.hid ho
                  have hnum : num (pack L) p n = xv % 2 ^ n := by
                    rw [num_pack HBIN.out, bsum_shift (o := bitsOf xv n) (fun t ht => by have := HG.out t (by rw [HO.out, bitsOf_length]; exact ht); rw [HO.out] at this; exact this), bsum_bitsOf xv n n (Nat.le_refl _)]
                  have hrb : rb (pack L) p (n : Int) = (xv % 2 ^ n, 0, p + n) := by
                    unfold rb
                    rw [if_neg (by omega), if_neg (by rw [← HPL.out]; have := HPP.out; simp; omega)]
                    simp [hnum]
                  have hbt := rbits_any (HR.out.alloc (.cells #[.int .u32 (xv : Int), .int .i64 (n : Int), .bool false, .bool xa] 43)) (n : Int)
                  rw [hrb] at hbt
                  have HBT := Lib.hid hbt
                  clear hbad ho hnum hrb hbt hok
                  go_wp2_with fail
                  refine HBT.out.mono ?_
                  rintro e w5 ⟨rfl, hrd5, hg5⟩
                  have hcv : w5.cell? ⟨wr4.heap.size, 0, none⟩ = some (.int .u32 (xv : Int)) := hg5.cell (a := ⟨wr4.heap.size, 0, none⟩) (by simp) (fun e => hg3 (Option.some.inj e).symm)
                  have hcn : w5.cell? ⟨wr4.heap.size, 1, none⟩ = some (.int .i64 (n : Int)) := hg5.cell (a := ⟨wr4.heap.size, 1, none⟩) (by simp) (fun e => hg3 (Option.some.inj e).symm)
                  have HR5 := Lib.hid hrd5
                  have HB5 := Lib.hid ((HBE.out.alloc HBE.out.size _).grown hg5 (by have := HBE.out.size; simp; omega) (fun k hk => by cases hk; exact hB30))
                  clear hrd5 hg5
                  have hn0 : (0 : Int) ≤ (n : Int) := by omega
                  go_wp2_with fail
                  have hne := mask_n xv n HQ.out hn32
                  go_quiet (fail)
                  go_wp2_with fail
                  go_roundw
                  case rel =>
                    refine ⟨j + 1, by omega, by go_num, ?_, below_drewN HB5.out _⟩
                    rw [HP1.out, HO.out, bitsOf_length]
                    exact HR5.out.drewN _
                  case measure => simp [intOf]; omega
                · have hok : ¬ (xn < 0 ∨ 16 < xn) := fun h => hbad ⟨by unfold outB; rw [if_pos rfl, if_pos h], h.elim Or.inl (fun h => Or.inr (Or.inr ⟨rfl, h⟩))⟩
                  obtain ⟨n, rfl⟩ := Int.eq_ofNat_of_zero_le (show 0 ≤ xn by omega)
                  have ho : outB ⟨xv, (n : Int), true, xa⟩ = codeOf xv n n := by unfold outB; rw [if_pos rfl, if_neg hok]; simp
                  have hn16 : n ≤ 16 := by omega
                  rw [ho, codeOf_length] at hfit
                  have HO := Lib.hid ho
                  clear hbad ho hok
                  go_wp2_with fail
                  go_loopw [9] (fun si wr5 => ∃ t : Nat, t ≤ n ∧ si = .int .i64 ((n : Int) - 1 - t) ∧ RdAt wr5 B3 a3 pl c3 (pack L) (p + t) ∧ Below w.heap.size w wr5 ∧ wr5.cell? ⟨wr4.heap.size, 0, none⟩ = some (.int .u32 (xv : Int)) ∧ wr4.heap.size < wr5.heap.size) (fun si _ => (intOf si + 1).toNat)
                  case atStart => exact ⟨0, by omega, by go_num, HR.out.alloc _, HBE.out.alloc HBE.out.size _, by simp, by simp⟩
                  case round =>
                    obtain ⟨t, ht, rfl, hrd5, hbel5, hcv, hsz⟩ := hrel
                    rename World => wr5
                    by_cases htn : t < n
                    · have hrb : rb (pack L) (p + t) 1 = (xv / 2 ^ (n - 1 - t) % 2, 0, p + t + 1) := by
                        rw [rb_one1 (by rw [← HPL.out]; have := HPP.out; omega), bitAt_pack HBIN.out, HG.out t (by rw [HO.out, codeOf_length]; exact htn), HO.out, codeOf_get _ _ _ htn]
                      have hbt := rbits_any hrd5 1
                      rw [hrb] at hbt
                      have e1 := shr_and xv (n - 1 - t) HQ.out
                      obtain ⟨y, hy⟩ : ∃ y, y = xv / 2 ^ (n - 1 - t) % 2 := ⟨_, rfl⟩
                      rw [← hy] at hbt e1
                      have HBT := Lib.hid hbt
                      have HBE5 := Lib.hid hbel5
                      have hi0 : (0 : Int) ≤ (n : Int) - 1 - (t : Int) := by omega
                      have e2 : ((n : Int) - 1 - (t : Int)).toNat = n - 1 - t := by omega
                      clear hrb hbt hrd5 hbel5 hy
                      go_wp2_with fail
                      refine HBT.out.mono ?_
                      rintro e w6 ⟨rfl, hrd6, hg6⟩
                      have hcv6 : w6.cell? ⟨wr4.heap.size, 0, none⟩ = some (.int .u32 (xv : Int)) := hg6.cell hcv (fun e => hg3 (Option.some.inj e).symm)
                      have HR6 := Lib.hid hrd6
                      have HB6 := Lib.hid (HBE5.out.grown hg6 HBE5.out.size (fun k hk => by cases hk; exact hB30))
                      have hsz6 : wr4.heap.size < w6.heap.size := Nat.lt_of_lt_of_le hsz hg6.size
                      clear hrd6 hg6
                      go_wp2_with fail
                      go_roundw
                      case rel => exact ⟨t + 1, by omega, by go_num, by rw [← Nat.add_assoc]; exact HR6.out, HB6.out, hcv6, hsz6⟩
                      case measure => simp [intOf]; omega
                    · have htn2 : n = t := by omega
                      subst htn2
                      have FIN : Hid (RdAt wr5 B3 a3 pl c3 (pack L) (allB ps (j + 1)).length) := Lib.hid (by rw [HP1.out, HO.out, codeOf_length]; exact hrd5)
                      have HBE5 := Lib.hid hbel5
                      clear hrd5 hbel5
                      go_wp2_with fail
                      go_roundw
                      case rel => exact ⟨j + 1, by omega, by go_num, FIN.out, HBE5.out⟩
                      case measure => simp [intOf]; omega
            · have hjm2 : 200 = j := by omega
              subst hjm2
              rw [← HL.out] at hrd
              have hlf := rleft_any hrd
              have HLF := Lib.hid hlf
              have HBE := Lib.hid hbel
              have hp8 := HPP.out
              clear hlf hrd hbel
              go_wp2_with fail
              refine HLF.out.mono ?_
              rintro e w5 ⟨rfl, q5, hw5⟩
              subst hw5
              have hl8 : ((8 * pl - L.length : Nat) : Int) < 8 := by omega
              have hlit := BytesAt.lit (wr4.drewN q5) #[.int .u8 5] [5] rfl (by decide) (by decide) (by decide)
              have hn5 := rnew_any hlit
              have HN5 := Lib.hid hn5
              have HB5 := Lib.hid ((below_drewN HBE.out q5).alloc (below_drewN HBE.out q5).size (.cells #[.int .u8 5] 5))
              clear hlit hn5 hp8
              go_wp2_with fail
              refine HN5.out.mono ?_
              rintro e w6 ⟨B6, a6, c6, rfl, hrd6, hb6, _, _⟩
              have hlf6 := rleft_any hrd6
              have HLF6 := Lib.hid hlf6
              have HB6 := Lib.hid (HB5.out.trans (hb6.mono HB5.out.size))
              clear hlf6 hrd6 hb6
              go_wp2_with fail
              refine HLF6.out.mono ?_
              rintro e w7 ⟨rfl, q7, hw7⟩
              subst hw7
              go_wp2_with fail
              go_ret
              exact ⟨rfl, below_drewN HB6.out q7⟩
    · have hme : m = len0 := hn200 (by omega)
      subst hme
      clear h200 hn200
      go_enter Try.func5, Try.ntmps5
      go_wp2_with fail
      have hwr0 : Below w.heap.size w (w.alloc (.cells #[.slice none 0 0, .int .i64 0] 41)) := (Below.refl _ _).alloc (Nat.le_refl _) _
      go_loopw [5, 23] (fun v5 sk wr => ∃ (k : Nat) (v' : Value), k ≤ m ∧ sk = .int .i64 k ∧ WrAt wr w.heap.size w.heap.size v' (allB ps k) ∧ Below w.heap.size w wr) (fun _ sk _ => m - (intOf sk).toNat)
      case atStart => exact ⟨0, .slice none 0 0, by omega, rfl, by simpa [allB] using HWN.out, hwr0⟩
      case round =>
        obtain ⟨k, v', hk, rfl, hwr, hbel⟩ := hrel
        by_cases hkm : k < m
        · obtain ⟨b, off, rfl, hlt, hc⟩ := HC.out (by omega)
          obtain ⟨q0, q1, q2, q3, qv, qn⟩ := hc k (by omega)
          obtain ⟨x, hx⟩ : ∃ x, x = ps k := ⟨_, rfl⟩
          rw [← hx] at q0 q1 q2 q3 qv qn
          have r0 := (hbel.cell (p := ⟨b, off + k * 4, none⟩) hlt).trans q0
          have r1 := (hbel.cell (p := ⟨b, off + k * 4 + 1, none⟩) hlt).trans q1
          have r2 := (hbel.cell (p := ⟨b, off + k * 4 + 2, none⟩) hlt).trans q2
          have r3 := (hbel.cell (p := ⟨b, off + k * 4 + 3, none⟩) hlt).trans q3
          obtain ⟨xv, xn, xc, xa⟩ := x
          simp only at r0 r1 r2 r3 qv qn
          have hlen := allB_len ps k
          have HX := Lib.hid hx
          have HW := Lib.hid hwr
          have HB := Lib.hid hbel
          have HQ := Lib.hid qv
          clear hc q0 q1 q2 q3 hx hwr hbel qv
          cases xc
          · by_cases hbad : xn < 0 ∨ 32 < xn
            · have ho : outB ⟨xv, xn, false, xa⟩ = [] := by unfold outB; rw [if_neg (by simp), if_pos hbad]
              have HO := Lib.hid ho
              clear ho
              go_wp2_with fail
              refine (wbits_bad _ _ _ _ hbad).mono ?_
              rintro e w2 ⟨rfl, rfl⟩
              go_wp2_with fail
              go_roundw
              case rel =>
                refine ⟨k + 1, v', by omega, by go_num, ?_, HB.out.alloc HB.out.size _⟩
                rw [allB_succ, ← HX.out, HO.out, List.append_nil]
                exact HW.out.alloc _
              case measure => simp [intOf]; omega
            · obtain ⟨n, rfl⟩ := Int.eq_ofNat_of_zero_le (show 0 ≤ xn by omega)
              have ho : outB ⟨xv, (n : Int), false, xa⟩ = bitsOf xv n := by unfold outB; rw [if_neg (by simp), if_neg hbad]; simp
              have HO := Lib.hid ho
              have hn32 : n ≤ 32 := by omega
              clear ho
              go_wp2_with fail
              refine (wbits_any (HW.out.alloc _) (by have := HB.out.size; simp; omega) xv HQ.out n hn32 (by omega)).mono ?_
              rintro e w2 ⟨rfl, v2, hw2, ht2, hg2⟩
              have hb2 := ht2.below (HB.out.alloc HB.out.size _) (Nat.le_refl _) (fun j e => (HW.out.own.lt j e).1)
              have HW2 := Lib.hid hw2
              have HB2 := Lib.hid hb2
              clear hw2 hb2 ht2 hg2
              go_wp2_with fail
              go_roundw
              case rel =>
                refine ⟨k + 1, v2, by omega, by go_num, ?_, HB2.out⟩
                rw [allB_succ, ← HX.out, HO.out]
                exact HW2.out
              case measure => simp [intOf]; omega
          · by_cases hbad : xn < 0 ∨ 16 < xn
            · have ho : outB ⟨xv, xn, true, xa⟩ = [] := by unfold outB; rw [if_pos rfl, if_pos hbad]
              have HO := Lib.hid ho
              clear ho
              go_wp2_with fail
              refine (wcode_bad _ _ _ _ hbad).mono ?_
              rintro e w2 ⟨rfl, rfl⟩
              go_wp2_with fail
              go_roundw
              case rel =>
                refine ⟨k + 1, v', by omega, by go_num, ?_, HB.out.alloc HB.out.size _⟩
                rw [allB_succ, ← HX.out, HO.out, List.append_nil]
                exact HW.out.alloc _
              case measure => simp [intOf]; omega
            · obtain ⟨n, rfl⟩ := Int.eq_ofNat_of_zero_le (show 0 ≤ xn by omega)
              have ho : outB ⟨xv, (n : Int), true, xa⟩ = codeOf xv n n := by unfold outB; rw [if_pos rfl, if_neg hbad]; simp
              have HO := Lib.hid ho
              have hn16 : n ≤ 16 := by omega
              clear ho
              go_wp2_with fail
              refine (wcode_any (HW.out.alloc _) (by have := HB.out.size; simp; omega) xv HQ.out n hn16 (by omega)).mono ?_
              rintro e w2 ⟨rfl, v2, hw2, ht2, hg2⟩
              have hb2 := ht2.below (HB.out.alloc HB.out.size _) (Nat.le_refl _) (fun j e => (HW.out.own.lt j e).1)
              have HW2 := Lib.hid hw2
              have HB2 := Lib.hid hb2
              clear hw2 hb2 ht2 hg2
              go_wp2_with fail
              go_roundw
              case rel =>
                refine ⟨k + 1, v2, by omega, by go_num, ?_, HB2.out⟩
                rw [allB_succ, ← HX.out, HO.out]
                exact HW2.out
              case measure => simp [intOf]; omega
        · have hkm2 : m = k := by omega
          subst hkm2
          have hlen := allB_len ps m
          have hby := wbytes_any hwr (by omega)
          obtain ⟨L, hL⟩ : ∃ L, L = allB ps m := ⟨_, rfl⟩
          rw [← hL] at hby hlen
          have hbin := hwr.bin
          rw [← hL] at hbin
          have HBY := Lib.hid hby
          have HL := Lib.hid hL
          have HBIN := Lib.hid hbin
          have HB := Lib.hid hbel
          clear hby hwr hbel hL hbin
          go_wp2_with fail
          refine HBY.out.mono ?_
          rintro e w2 ⟨a2, c2, rfl, hb2, hbel2, _⟩
          have hn := rnew_any hb2
          have HN := Lib.hid hn
          have HB2 := Lib.hid (HB.out.trans (hbel2.mono HB.out.size))
          obtain ⟨pl, hpl⟩ : ∃ n, n = (pack L).length := ⟨_, rfl⟩
          have hpl2 := pack_length L
          rw [← hpl] at hpl2
          rw [← hpl] at HN
          rw [← hpl]
          have HPL := Lib.hid hpl
          have HPP := Lib.hid hpl2
          clear hn hb2 hbel2 hpl hpl2
          go_wp2_with fail
          refine HN.out.mono ?_
          rintro e w3 ⟨B3, a3, c3, rfl, hrd, hb3, hB3, hfr3⟩
          have HR3 := Lib.hid hrd
          have HB3 := Lib.hid (HB2.out.trans (hb3.mono HB2.out.size))
          have hB30 : w.heap.size ≤ B3 := Nat.le_trans HB2.out.size hB3
          clear hrd hb3 hfr3 hB3
          go_wp2_with fail
          go_loopw [8, 49] (fun v8 sk wr => ∃ (j : Nat), j ≤ m ∧ sk = .int .i64 j ∧ RdAt wr B3 a3 pl c3 (pack L) (allB ps j).length ∧ Below w.heap.size w wr) (fun _ sk _ => m - (intOf sk).toNat)
          case atStart => exact ⟨0, by omega, rfl, by simpa [allB] using HR3.out, HB3.out⟩
          case round =>
            obtain ⟨j, hj, rfl, hrd, hbel⟩ := hrel
            rename World => wr4
            by_cases hjm : j < m
            · obtain ⟨b, off, rfl, hlt, hc⟩ := HC.out (by omega)
              obtain ⟨q0, q1, q2, q3, qv, qn⟩ := hc j (by omega)
              obtain ⟨x, hx⟩ : ∃ x, x = ps j := ⟨_, rfl⟩
              rw [← hx] at q0 q1 q2 q3 qv qn
              have r0 := (hbel.cell (p := ⟨b, off + j * 4, none⟩) hlt).trans q0
              have r1 := (hbel.cell (p := ⟨b, off + j * 4 + 1, none⟩) hlt).trans q1
              have r2 := (hbel.cell (p := ⟨b, off + j * 4 + 2, none⟩) hlt).trans q2
              have r3 := (hbel.cell (p := ⟨b, off + j * 4 + 3, none⟩) hlt).trans q3
              obtain ⟨xv, xn, xc, xa⟩ := x
              simp only at r0 r1 r2 r3 qv qn
              have hag := allB_get ps m j hjm
              rw [← hx, ← HL.out] at hag
              obtain ⟨hfit, hget⟩ := hag
              obtain ⟨p, hp⟩ : ∃ p, p = (allB ps j).length := ⟨_, rfl⟩
              rw [← hp] at hfit hget hrd
              have hp1 : (allB ps (j + 1)).length = p + (outB ⟨xv, xn, xc, xa⟩).length := by rw [allB_succ, List.length_append, ← hx, ← hp]
              have HP1 := Lib.hid hp1
              have HG := Lib.hid hget
              have HR := Lib.hid hrd
              have HBE := Lib.hid hbel
              have HQ := Lib.hid qv
              have hg3 : B3 ≠ wr4.heap.size := by have := hrd.lt; omega
              clear hc q0 q1 q2 q3 hx hrd hbel qv hget hp hp1
              by_cases hbad : outB ⟨xv, xn, xc, xa⟩ = [] ∧ (xn < 0 ∨ 32 < xn ∨ (xc = true ∧ 16 < xn))
              · obtain ⟨ho, hb⟩ := hbad
                have HO := Lib.hid ho
                clear ho hfit
                have fin : RdAt (wr4.alloc (.cells #[.int .u32 (xv : Int), .int .i64 xn, .bool xc, .bool xa] 43)) B3 a3 pl c3 (pack L) (allB ps (j + 1)).length := by
                  rw [HP1.out, HO.out]; exact HR.out.alloc _
                have FIN := Lib.hid fin
                clear fin
                rcases hb with hb | hb | ⟨rfl, hb⟩
                · have d1 : decide (xn < 0) = true := by simp; omega
                  go_wp2_with fail
                  go_roundw
                  case rel => exact ⟨j + 1, by omega, by go_num, FIN.out, HBE.out.alloc HBE.out.size _⟩
                  case measure => simp [intOf]; omega
                · have hb0 : ¬ xn < 0 := by omega
                  go_wp2_with fail
                  go_roundw
                  case rel => exact ⟨j + 1, by omega, by go_num, FIN.out, HBE.out.alloc HBE.out.size _⟩
                  case measure => simp [intOf]; omega
                · have hb0 : ¬ xn < 0 := by omega
                  by_cases hb3 : 32 < xn
                  all_goals
                    go_wp2_with fail
                    go_roundw
                    case rel => exact ⟨j + 1, by omega, by go_num, FIN.out, HBE.out.alloc HBE.out.size _⟩
                    case measure => simp [intOf]; omega
              · cases xc
                · have hok : ¬ (xn < 0 ∨ 32 < xn) := fun h => hbad ⟨by unfold outB; rw [if_neg (by simp), if_pos h], h.elim Or.inl (fun h => Or.inr (Or.inl h))⟩
                  obtain ⟨n, rfl⟩ := Int.eq_ofNat_of_zero_le (show 0 ≤ xn by omega)
                  have ho : outB ⟨xv, (n : Int), false, xa⟩ = bitsOf xv n := by unfold outB; rw [if_neg (by simp), if_neg hok]; simp
                  have hn32 : n ≤ 32 := by omega
                  rw [ho, bitsOf_length] at hfit
                  have HO := Lib.hid ho
                  have hnum : num (pack L) p n = xv % 2 ^ n := by
                    rw [num_pack HBIN.out, bsum_shift (o := bitsOf xv n) (fun t ht => by have := HG.out t (by rw [HO.out, bitsOf_length]; exact ht); rw [HO.out] at this; exact this), bsum_bitsOf xv n n (Nat.le_refl _)]
                  have hrb : rb (pack L) p (n : Int) = (xv % 2 ^ n, 0, p + n) := by
                    unfold rb
                    rw [if_neg (by omega), if_neg (by rw [← HPL.out]; have := HPP.out; simp; omega)]
                    simp [hnum]
                  have hbt := rbits_any (HR.out.alloc (.cells #[.int .u32 (xv : Int), .int .i64 (n : Int), .bool false, .bool xa] 43)) (n : Int)
                  rw [hrb] at hbt
                  have HBT := Lib.hid hbt
                  clear hbad ho hnum hrb hbt hok
                  go_wp2_with fail
                  refine HBT.out.mono ?_
                  rintro e w5 ⟨rfl, hrd5, hg5⟩
                  have hcv : w5.cell? ⟨wr4.heap.size, 0, none⟩ = some (.int .u32 (xv : Int)) := hg5.cell (a := ⟨wr4.heap.size, 0, none⟩) (by simp) (fun e => hg3 (Option.some.inj e).symm)
                  have hcn : w5.cell? ⟨wr4.heap.size, 1, none⟩ = some (.int .i64 (n : Int)) := hg5.cell (a := ⟨wr4.heap.size, 1, none⟩) (by simp) (fun e => hg3 (Option.some.inj e).symm)
                  have HR5 := Lib.hid hrd5
                  have HB5 := Lib.hid ((HBE.out.alloc HBE.out.size _).grown hg5 (by have := HBE.out.size; simp; omega) (fun k hk => by cases hk; exact hB30))
                  clear hrd5 hg5
                  have hn0 : (0 : Int) ≤ (n : Int) := by omega
                  go_wp2_with fail
                  have hne := mask_n xv n HQ.out hn32
                  go_quiet (fail)
                  go_wp2_with fail
                  go_roundw
                  case rel =>
                    refine ⟨j + 1, by omega, by go_num, ?_, below_drewN HB5.out _⟩
                    rw [HP1.out, HO.out, bitsOf_length]
                    exact HR5.out.drewN _
                  case measure => simp [intOf]; omega
                · have hok : ¬ (xn < 0 ∨ 16 < xn) := fun h => hbad ⟨by unfold outB; rw [if_pos rfl, if_pos h], h.elim Or.inl (fun h => Or.inr (Or.inr ⟨rfl, h⟩))⟩
                  obtain ⟨n, rfl⟩ := Int.eq_ofNat_of_zero_le (show 0 ≤ xn by omega)
                  have ho : outB ⟨xv, (n : Int), true, xa⟩ = codeOf xv n n := by unfold outB; rw [if_pos rfl, if_neg hok]; simp
                  have hn16 : n ≤ 16 := by omega
                  rw [ho, codeOf_length] at hfit
                  have HO := Lib.hid ho
                  clear hbad ho hok
                  go_wp2_with fail
                  go_loopw [9] (fun si wr5 => ∃ t : Nat, t ≤ n ∧ si = .int .i64 ((n : Int) - 1 - t) ∧ RdAt wr5 B3 a3 pl c3 (pack L) (p + t) ∧ Below w.heap.size w wr5 ∧ wr5.cell? ⟨wr4.heap.size, 0, none⟩ = some (.int .u32 (xv : Int)) ∧ wr4.heap.size < wr5.heap.size) (fun si _ => (intOf si + 1).toNat)
                  case atStart => exact ⟨0, by omega, by go_num, HR.out.alloc _, HBE.out.alloc HBE.out.size _, by simp, by simp⟩
                  case round =>
                    obtain ⟨t, ht, rfl, hrd5, hbel5, hcv, hsz⟩ := hrel
                    rename World => wr5
                    by_cases htn : t < n
                    · have hrb : rb (pack L) (p + t) 1 = (xv / 2 ^ (n - 1 - t) % 2, 0, p + t + 1) := by
                        rw [rb_one1 (by rw [← HPL.out]; have := HPP.out; omega), bitAt_pack HBIN.out, HG.out t (by rw [HO.out, codeOf_length]; exact htn), HO.out, codeOf_get _ _ _ htn]
                      have hbt := rbits_any hrd5 1
                      rw [hrb] at hbt
                      have e1 := shr_and xv (n - 1 - t) HQ.out
                      obtain ⟨y, hy⟩ : ∃ y, y = xv / 2 ^ (n - 1 - t) % 2 := ⟨_, rfl⟩
                      rw [← hy] at hbt e1
                      have HBT := Lib.hid hbt
                      have HBE5 := Lib.hid hbel5
                      have hi0 : (0 : Int) ≤ (n : Int) - 1 - (t : Int) := by omega
                      have e2 : ((n : Int) - 1 - (t : Int)).toNat = n - 1 - t := by omega
                      clear hrb hbt hrd5 hbel5 hy
                      go_wp2_with fail
                      refine HBT.out.mono ?_
                      rintro e w6 ⟨rfl, hrd6, hg6⟩
                      have hcv6 : w6.cell? ⟨wr4.heap.size, 0, none⟩ = some (.int .u32 (xv : Int)) := hg6.cell hcv (fun e => hg3 (Option.some.inj e).symm)
                      have HR6 := Lib.hid hrd6
                      have HB6 := Lib.hid (HBE5.out.grown hg6 HBE5.out.size (fun k hk => by cases hk; exact hB30))
                      have hsz6 : wr4.heap.size < w6.heap.size := Nat.lt_of_lt_of_le hsz hg6.size
                      clear hrd6 hg6
                      go_wp2_with fail
                      go_roundw
                      case rel => exact ⟨t + 1, by omega, by go_num, by rw [← Nat.add_assoc]; exact HR6.out, HB6.out, hcv6, hsz6⟩
                      case measure => simp [intOf]; omega
                    · have htn2 : n = t := by omega
                      subst htn2
                      have FIN : Hid (RdAt wr5 B3 a3 pl c3 (pack L) (allB ps (j + 1)).length) := Lib.hid (by rw [HP1.out, HO.out, codeOf_length]; exact hrd5)
                      have HBE5 := Lib.hid hbel5
                      clear hrd5 hbel5
                      go_wp2_with fail
                      go_roundw
                      case rel => exact ⟨j + 1, by omega, by go_num, FIN.out, HBE5.out⟩
                      case measure => simp [intOf]; omega
            · have hjm2 : m = j := by omega
              subst hjm2
              rw [← HL.out] at hrd
              have hlf := rleft_any hrd
              have HLF := Lib.hid hlf
              have HBE := Lib.hid hbel
              have hp8 := HPP.out
              clear hlf hrd hbel
              go_wp2_with fail
              refine HLF.out.mono ?_
              rintro e w5 ⟨rfl, q5, hw5⟩
              subst hw5
              have hl8 : ((8 * pl - L.length : Nat) : Int) < 8 := by omega
              have hlit := BytesAt.lit (wr4.drewN q5) #[.int .u8 5] [5] rfl (by decide) (by decide) (by decide)
              have hn5 := rnew_any hlit
              have HN5 := Lib.hid hn5
              have HB5 := Lib.hid ((below_drewN HBE.out q5).alloc (below_drewN HBE.out q5).size (.cells #[.int .u8 5] 5))
              clear hlit hn5 hp8
              go_wp2_with fail
              refine HN5.out.mono ?_
              rintro e w6 ⟨B6, a6, c6, rfl, hrd6, hb6, _, _⟩
              have hlf6 := rleft_any hrd6
              have HLF6 := Lib.hid hlf6
              have HB6 := Lib.hid (HB5.out.trans (hb6.mono HB5.out.size))
              clear hlf6 hrd6 hb6
              go_wp2_with fail
              refine HLF6.out.mono ?_
              rintro e w7 ⟨rfl, q7, hw7⟩
              subst hw7
              go_wp2_with fail
              go_ret
              exact ⟨rfl, below_drewN HB6.out q7⟩
  by_cases h : 200 < len0
  · exact main 200 (by omega) (by omega) (fun _ => rfl) (fun h2 => absurd h h2)
  · exact main len0 (by omega) (by omega) (fun h2 => absurd h2 h) (fun _ => rfl)
end Go.Proofs.Yteeppjgblepmpaa
