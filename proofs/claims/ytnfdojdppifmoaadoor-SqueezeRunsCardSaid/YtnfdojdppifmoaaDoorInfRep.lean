/- Package inflate: what repR says, step by step; put over a whole state. -/
import Derived.Test.YtnfdojdppifmoaaDoorInfCopied
namespace Go.Proofs.YtnfdojdppifmoaaDoor
open Go.RowKit PrefPlain BitsPlain InfPlain
set_option linter.unusedVariables false

theorem lenOf_le : ∀ s, s < 29 → (lenOf s).2 ≤ 5 ∧ (lenOf s).1 ≤ 258 := by decide
theorem disOf_le : ∀ d, d < 30 → (disOf d).2 ≤ 13 ∧ (disOf d).1 ≤ 24577 ∧ 1 ≤ (disOf d).1 := by decide
theorem nx_nonneg (L : List Int) (bit : Nat → Nat) (left : Nat) : ∀ f k W, 0 ≤ (nx L bit left f k W).1
  | 0, k, W => by simp [nx]
  | f + 1, k, W => by
    rw [nx]
    split
    · simp
    · split
      · show 0 ≤ (sy L L.length (k + 1)).getD _ 0
        rw [List.getD_eq_getElem?_getD]
        cases h : (sy L L.length (k + 1))[2 * W + bit k - fw (cn L) (k + 1)]? with
        | none => simp
        | some z => exact (sy_bound z (List.mem_of_getElem? h)).1
      · exact nx_nonneg L bit left f _ _
theorem rn_nonneg (L : List Int) (xs : List Nat) (p : Nat) : 0 ≤ (rn L xs p).1 := nx_nonneg _ _ _ _ _ _

variable {xs : List Nat} {most p : Nat} {o : List Nat} {s : Nat} {D : List Int}
theorem rep_1 (hp : p ≤ 8 * xs.length) (h : 8 * xs.length < p + (lenOf s).2) : run xs most (repR s D) p o = .error 3 := by
  rw [repR, run_bind, run_bits _ _ _ _ _ hp, if_pos h]
theorem rep_2 (h : p + (lenOf s).2 ≤ 8 * xs.length) (he : (rn D xs (p + (lenOf s).2)).2.1 ≠ 0) : run xs most (repR s D) p o = .error (rn D xs (p + (lenOf s).2)).2.1 := by
  rw [repR, run_bind, run_bits _ _ _ _ _ (by omega), if_neg (by omega)]
  show run xs most (Rd.bind (nextR D) _) _ o = _
  rw [run_bind, run_next _ _ _ _ _ h, if_neg he]
/-- behind the two reads -/
theorem rep_3 (h : p + (lenOf s).2 ≤ 8 * xs.length) (he : (rn D xs (p + (lenOf s).2)).2.1 = 0) :
    run xs most (repR s D) p o = if 30 ≤ (rn D xs (p + (lenOf s).2)).1 then .error 4 else
      run xs most ((bitsR (disOf (rn D xs (p + (lenOf s).2)).1.toNat).2).bind fun b => .rep ((lenOf s).1 + num xs p (lenOf s).2) ((disOf (rn D xs (p + (lenOf s).2)).1.toNat).1 + b) (.ret ())) (p + (lenOf s).2 + (rn D xs (p + (lenOf s).2)).2.2) o := by
  rw [repR, run_bind, run_bits _ _ _ _ _ (by omega), if_neg (by omega)]
  show run xs most (Rd.bind (nextR D) _) _ o = _
  rw [run_bind, run_next _ _ _ _ _ h, if_pos he]
  show run xs most (if _ then _ else _) _ o = _
  split
  · rfl
  · rfl
theorem rep_4 {q m N A : Nat} (hq : q ≤ 8 * xs.length) :
    run xs most ((bitsR m).bind fun b => .rep N (A + b) (.ret ())) q o = if 8 * xs.length < q + m then .error 3 else if o.length < A + num xs q m then .error 4 else if most < o.length + N then .error 5 else .ok ((), q + m, repn o (A + num xs q m) N) := by
  rw [run_bind, run_bits _ _ _ _ _ hq]
  by_cases h : 8 * xs.length < q + m
  · rw [if_pos h, if_pos h]
  · rw [if_neg h, if_neg h]
    show run xs most (.rep _ _ _) _ o = _
    rw [run]
    rfl
/-- the loop that repeats: one byte more -/
theorem repn_next (o : List Nat) (a k : Nat) : repn o a (k + 1) = repn o a k ++ [(repn o a k).getD ((repn o a k).length - a) 0] := by
  induction k generalizing o with
  | zero => rfl
  | succ k ih => rw [repn, ih]; rfl
theorem repn_byte {o : List Nat} (a : Nat) (h : ∀ x ∈ o, x < 256) : ∀ k, ∀ x ∈ repn o a k, x < 256
  | 0 => h
  | k + 1 => by
    rw [repn_next]
    intro x hx
    rcases List.mem_append.1 hx with hx | hx
    · exact repn_byte a h k x hx
    · rw [List.mem_singleton.1 hx, List.getD_eq_getElem?_getD]
      cases h2 : (repn o a k)[(repn o a k).length - a]? with
      | none => simp
      | some z => exact repn_byte a h k z (List.mem_of_getElem? h2)

/-- put, over a whole state -/
theorem iput_all {w : World} {B R base : Nat} {ra : Option Addr} {n c : Nat} {v : Value} {fl fd : Option Addr} (h : InAt w B R base ra n c xs p v o most fl fd) (x : Nat) (hx : x < 256) :
    Calls Tryd.prog 37 #[.pointer (some ⟨B, 0, none⟩), .int .u8 (x : Int)] w fun e w' => Says w B R base ra n c xs v most fl fd (run xs most (.put x (.ret ())) p o) e w' := by
  refine (iput_any h.ib h.own h.byte h.low h.lim h.most x hx).mono ?_
  rintro e w' (⟨h1, rfl, ht⟩ | ⟨h1, rfl, ht, v', hb, ho, hw⟩)
  · rw [run, if_pos h1]
    exact ⟨rfl, Fr.touch R ht⟩
  · rw [run, if_neg (by omega)]
    exact ⟨rfl, Fr.touch R ht, v', h.wrote hx h1 ht hb ho, hw⟩
/-- a count: a number of bits, and the least -/
theorem icount_any {w : World} {B R base : Nat} {ra : Option Addr} {n c : Nat} {v : Value} {fl fd : Option Addr} (h : InAt w B R base ra n c xs p v o most fl fd) (k least : Nat) (hk : k ≤ 16) (hl : least ≤ 1000) :
    Calls Tryd.prog 42 #[.pointer (some ⟨B, 0, none⟩), .int .i64 (k : Int), .int .i64 (least : Int)] w fun e w' =>
      (8 * xs.length < p + k ∧ e = .returned (.tuple #[.int .i64 (least : Int), .int .i64 3]) ∧ w.grownBy w' (some R) ∧ InAt w' B R base ra n c xs p v o most fl fd) ∨
      (p + k ≤ 8 * xs.length ∧ e = .returned (.tuple #[.int .i64 ((num xs p k + least : Nat) : Int), .int .i64 0]) ∧ w.grownBy w' (some R) ∧ InAt w' B R base ra n c xs (p + k) v o most fl fd) := by
  have c0 := h.ib.c0
  have HI := Lib.hid h
  by_cases hs : 8 * xs.length < p + k
  · have HB := Lib.hid (ibits_no h.rd k (by omega) hs)
    clear h
    go_enter Tryd.func42, Tryd.ntmps42
    go_wp2_with fail
    refine HB.out.mono ?_
    rintro e w2 ⟨rfl, hr2, hg2⟩
    have HJ := Lib.hid (HI.out.read hr2 hg2)
    go_wp2_with fail
    go_ret2
    exact .inl ⟨hs, rfl, hg2, HJ.out⟩
  · have HB := Lib.hid (ibits_yes h.rd k (by omega) (by omega))
    have hN := num_lt xs p k
    have hp16 : 2 ^ k ≤ 2 ^ 16 := Nat.pow_le_pow_right (by omega) hk
    have hN2 : num xs p k < 65536 := by have : (2 : Nat) ^ 16 = 65536 := by decide
                                        omega
    obtain ⟨N, hNe⟩ : ∃ N, N = num xs p k := ⟨_, rfl⟩
    rw [← hNe] at HB hN2 ⊢
    have hps : p + k ≤ 8 * xs.length := by omega
    clear h hN hp16 hNe hs
    go_enter Tryd.func42, Tryd.ntmps42
    go_wp2_with fail
    refine HB.out.mono ?_
    rintro e w2 ⟨rfl, hr2, hg2⟩
    have HJ := Lib.hid (HI.out.read hr2 hg2)
    go_wp2_with fail
    go_ret2
    exact .inr ⟨hps, rfl, hg2, HJ.out⟩
end Go.Proofs.YtnfdojdppifmoaaDoor
