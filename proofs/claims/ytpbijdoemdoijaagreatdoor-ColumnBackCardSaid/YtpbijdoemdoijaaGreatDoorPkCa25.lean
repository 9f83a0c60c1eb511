/- Texts put together by packtpl2.py: InfLens. -/
import Derived.Test.YtpbijdoemdoijaaGreatDoorPkCa24
import Derived.Deep.LoopGhost
section PkCa25_0
/- Package inflate: lengths, walked: so many lengths in one row. (Written by genlens.py.) -/
namespace Go.Proofs.YtpbijdoemdoijaaGreatDoor
open Go.RowKit PrefPlain BitsPlain InfPlain
set_option linter.unusedVariables false

section
variable {w : World} {B R base : Nat} {ra : Option Addr} {n c : Nat} {xs : List Nat} {p : Nat} {v : Value} {o : List Nat} {most : Nat} {fl fd : Option Addr}
theorem InAt.grownO {w' : World} {r : Option Nat} (h : InAt w B R base ra n c xs p v o most fl fd) (hg : w.grownBy w' r) (hr : ∀ tb, r = some tb → base ≤ tb ∧ v.ownBlock ≠ some tb) : InAt w' B R base ra n c xs p v o most fl fd := by
  cases r with
  | none => exact h.below ⟨hg.os, hg.tape, hg.output, hg.size, fun k hk => hg.block k hk (by simp)⟩
  | some tb => exact h.grown hg (hr tb rfl).1 (hr tb rfl).2
theorem Fr.upO {w1 w2 : World} (h : Fr w w1 B R v) {r : Option Nat} (hg : w1.grownBy w2 r) (hr : ∀ tb, r = some tb → w.heap.size ≤ tb) : Fr w w2 B R v := by
  cases r with
  | none => exact h.trans (Went.refl _ _) (Fr.below ⟨hg.os, hg.tape, hg.output, hg.size, fun k hk => hg.block k hk (by simp)⟩)
  | some tb => exact h.up hg (hr tb rfl)
theorem own_keepR {w' : World} {b0 m : Nat} {e : TypeId} {u : Value} {ys : List Value} (ho : w.ownsRow b0 e 1 u m ys) (hg : w.grownBy w' (some R)) (hR : R < b0) : w'.ownsRow b0 e 1 u m ys := ho.kept hg (by
  cases hv : u.ownBlock with
  | none => exact .inl rfl
  | some j => exact .inr (fun e => by have := (ho.lt j hv).1; have := Option.some.inj e; omega))
/-- what lengths' answer is, by what the tree says -/
def Lens (w : World) (B R base : Nat) (ra : Option Addr) (n c : Nat) (xs : List Nat) (v : Value) (most : Nat) (fl fd : Option Addr) (N : Nat) (r : Except Nat (List Int × Nat × List Nat)) (e : Ending) (w' : World) : Prop :=
  match r with
  | .error er => e = .returned (.tuple #[.slice none 0 0, .int .i64 (er : Int)]) ∧ Fr w w' B R v
  | .ok (l, q, o') => ∃ a k, e = .returned (.tuple #[.slice a N k, .int .i64 0]) ∧ Fr w w' B R v ∧ InAt w' B R base ra n c xs q v o' most fl fd ∧ w'.ownsRow w.heap.size 3 1 (.slice a N k) N (iv .i64 l) ∧ (∀ z ∈ l, 0 ≤ z ∧ z ≤ 320) ∧ l.length = N
/-- behind a count -/
def LenThen (xs : List Nat) (most : Nat) (C : List Int) (N f : Nat) (l : List Int) (kb bs : Nat) (z : Int) (q : Nat) (o : List Nat) : Except Nat (List Int × Nat × List Nat) :=
  if 8 * xs.length < q + kb then .error 3 else if N < l.length + (num xs q kb + bs) then .error 4 else run xs most (lensR C N f (l ++ List.replicate (num xs q kb + bs) z)) (q + kb) o
theorem len_then {C : List Int} {N f kb bs q : Nat} {l : List Int} {z : Int} (hq : q ≤ 8 * xs.length) :
    run xs most ((bitsR kb).bind fun v => if N < l.length + (v + bs) then .fail 4 else lensR C N f (l ++ List.replicate (v + bs) z)) q o = LenThen xs most C N f l kb bs z q o := by
  rw [run_bind, run_bits _ _ _ _ _ hq]
  unfold LenThen
  by_cases h : 8 * xs.length < q + kb
  · rw [if_pos h, if_pos h]
  · rw [if_neg h, if_neg h]
    show run xs most (if _ then _ else _) _ o = _
    split
    · rfl
    · rfl
variable {C : List Int} {N f : Nat} {l : List Int}
theorem len_0 (h : N ≤ l.length) : run xs most (lensR C N (f + 1) l) p o = .ok (l, p, o) := by
  rw [lensR, if_pos h]; rfl
theorem len_1 (h : l.length < N) (hp : p ≤ 8 * xs.length) (he : (rn C xs p).2.1 ≠ 0) : run xs most (lensR C N (f + 1) l) p o = .error (rn C xs p).2.1 := by
  rw [lensR, if_neg (by omega), run_bind, run_next _ _ _ _ _ hp, if_neg he]
theorem len_2 (h : l.length < N) (hp : p ≤ 8 * xs.length) (he : (rn C xs p).2.1 = 0) (hq : p + (rn C xs p).2.2 ≤ 8 * xs.length) : run xs most (lensR C N (f + 1) l) p o =
    if (rn C xs p).1 = 16 then (if l.length = 0 then .error 4 else LenThen xs most C N f l 2 3 (l.getD (l.length - 1) 0) (p + (rn C xs p).2.2) o)
    else if (rn C xs p).1 = 17 then LenThen xs most C N f l 3 3 0 (p + (rn C xs p).2.2) o
    else if (rn C xs p).1 = 18 then LenThen xs most C N f l 7 11 0 (p + (rn C xs p).2.2) o
    else run xs most (lensR C N f (l ++ [(rn C xs p).1])) (p + (rn C xs p).2.2) o := by
  rw [lensR, if_neg (by omega), run_bind, run_next _ _ _ _ _ hp, if_pos he]
  show run xs most (if _ then _ else _) _ o = _
  split
  · split
    · rfl
    · exact len_then hq
  · split
    · exact len_then hq
    · split
      · exact len_then hq
      · rfl
end
/-- the loop over the lengths -/
structure Ln (xs : List Nat) (most : Nat) (C : List Int) (N f0 p0 : Nat) (o : List Nat) (f p : Nat) (l : List Int) (ln : Nat) : Prop where
  run : run xs most (lensR C N f0 []) p0 o = run xs most (lensR C N f l) p o
  fuel : 8 * xs.length < p + f
  le : l.length ≤ N
  len : l.length = ln
  wf : ∀ z ∈ l, 0 ≤ z ∧ z ≤ 320

set_option maxRecDepth 100000 in
set_option maxHeartbeats 4000000 in
theorem ilens_any {w : World} {B R base : Nat} {ra : Option Addr} {n c : Nat} {xs : List Nat} {p : Nat} {v : Value} {o : List Nat} {most : Nat} {fl fd : Option Addr} (h : InAt w B R base ra n c xs p v o most fl fd) {TB : Nat} {C : List Int} (hK : Kept w B R v TB C) (N : Nat) (hN : N ≤ 320) (f : Nat) (hf : 8 * xs.length < p + f) :
    Calls Tryz.prog 203 #[.pointer (some ⟨B, 0, none⟩), .pointer (some ⟨TB, 0, none⟩), .int .i64 (N : Int)] w fun e w' => Lens w B R base ra n c xs v most fl fd N (run xs most (lensR C N f []) p o) e w' := by
  have HH := Lib.hid h
  have HK := Lib.hid hK
  obtain ⟨b0, hb0⟩ : ∃ b0, b0 = w.heap.size := ⟨_, rfl⟩
  have HB0 := Lib.hid hb0
  have HT0 := Lib.hid (show Ln xs most C N f p o f p [] 0 from ⟨rfl, hf, by simp, rfl, fun z hz => by cases hz⟩)
  have HO0 := Lib.hid (World.ownsRow_nil w b0 3 1)
  clear h hK hb0 hf
  go_enter Tryz.func203, Tryz.ntmps203
  go_wp2_with fail
  go_loopg [8] f (fun g s8 wr => ∃ (f' q ln : Nat) (l : List Int) (a : Option Addr) (k : Nat), g = f' ∧ s8 = .slice a ln k ∧ Hid (Ln xs most C N f p o f' q l ln) ∧ Hid (wr.ownsRow b0 3 1 (.slice a ln k) ln (iv .i64 l)) ∧ Hid (InAt wr B R base ra n c xs q v o most fl fd) ∧ Hid (Fr w wr B R v))
  case atStart => exact ⟨f, p, 0, [], none, 0, rfl, rfl, HT0, HO0, HH, Lib.hid (Fr.refl _ _ _ _)⟩
  case round =>
    clear HT0 HO0
    obtain ⟨f', q, ln, l, a, k, hg, rfl, HT, HO, HI, HF⟩ := hrel
    rename World => wr
    obtain ⟨f2, rfl⟩ : ∃ f2, f' = f2 + 1 := ⟨f' - 1, by have := HT.out.fuel; have := HI.out.pl; omega⟩
    have HGG := Lib.hid hg
    have hlnN : ln ≤ N := by have := HT.out.le; have := HT.out.len; omega
    have hcap : ln ≤ k ∧ k ≤ 9223372036854775807 := by
      have := IntsAt.own HO.out (fun z hz => wf_int (by have := HT.out.wf z hz; omega))
      exact ⟨this.cap, this.capm⟩
    have hcap1 := hcap.1
    have hcap2 := hcap.2
    clear hg hcap
    by_cases hdone : N ≤ ln
    · obtain rfl : ln = N := by omega
      have HR := Lib.hid (HT.out.run.trans (len_0 (by have := HT.out.len; omega)))
      clear hdone
      go_wp2_with fail
      go_ret2
      rw [HR.out]
      exact ⟨a, k, rfl, HF.out, HI.out, by rw [← HB0.out]; exact HO.out, HT.out.wf, HT.out.len⟩
    · have hlt : (ln : Int) < (N : Int) := by omega
      have hlt2 : l.length < N := by have := HT.out.len; omega
      have hq := HI.out.pl
      have HKR := Lib.hid (HK.out.on HF.out (Went.refl _ _))
      have hnx := next_any HKR.out.at HI.out.rd HKR.out.ne (fun w' hg => HKR.out.tab w' (Fr.rd B _ hg))
      have c0 := HI.out.ib.c0
      have E1 := len_1 (xs := xs) (most := most) (p := q) (o := o) (C := C) (N := N) (f := f2) (l := l) hlt2 hq
      have E2 := len_2 (xs := xs) (most := most) (p := q) (o := o) (C := C) (N := N) (f := f2) (l := l) hlt2 hq
      have hone := @rn_one C xs q
      obtain ⟨sn, hsn⟩ : ∃ sn : Nat, (rn C xs q).1 = (sn : Int) := ⟨(rn C xs q).1.toNat, by have := rn_nonneg C xs q; omega⟩
      have hsle : sn ≤ 320 := by have := rn_le C xs q; have := HKR.out.at.short; omega
      rw [hsn] at hnx E2
      obtain ⟨er, her⟩ : ∃ er, er = (rn C xs q).2.1 := ⟨_, rfl⟩
      obtain ⟨ct, hct⟩ : ∃ ct, ct = (rn C xs q).2.2 := ⟨_, rfl⟩
      rw [← her] at hnx E1 E2 hone
      rw [← hct] at hnx E2 hone
      have HNX := Lib.hid hnx
      have HE1 := Lib.hid E1
      have HE2 := Lib.hid E2
      have HONE := Lib.hid hone
      clear hnx E1 E2 hone her hct hsn hq hdone hlt2
      go_wp2_with fail
      refine HNX.out.mono ?_
      rintro e w2 ⟨rfl, hr2, hg2⟩
      have hi2 := HI.out.read hr2 hg2
      have hRb : R < b0 := by have := HH.out.hR; have := HH.out.low; have := HB0.out; omega
      have HO2 := Lib.hid (own_keepR HO.out hg2 hRb)
      have HF2 := Lib.hid (HF.out.trans (Went.refl _ _) (Fr.rd B v hg2))
      have HI2 := Lib.hid hi2
      have hq2 : q + ct ≤ 8 * xs.length := hi2.pl
      have HQ2 := Lib.hid hq2
      clear hr2 hg2 hi2 c0 hq2
      by_cases her0 : er = 0
      · subst her0
        have hz : ((0 : Int) != 0) = false := by decide
        have h1 := HONE.out rfl
        have hfu : 8 * xs.length < q + ct + f2 := by have := HT.out.fuel; omega
        have HFU := Lib.hid hfu
        have E3 := HT.out.run.trans (HE2.out rfl HQ2.out)
        have HE3 := Lib.hid E3
        clear hfu E3 HE2 HE1
        by_cases s16 : sn = 16
        · subst s16
          by_cases hl0 : ln = 0
          · subst hl0
            have HR := Lib.hid (show run xs most (lensR C N f []) p o = .error 4 by rw [HE3.out, if_pos (by rfl), if_pos HT.out.len])
            go_wp2_with fail
            go_ret2
            rw [HR.out]
            exact ⟨rfl, HF2.out⟩
          · have hL := HT.out.len
            have hl1 : 1 ≤ ln := by omega
            obtain ⟨z, hz0⟩ : ∃ z, z = l.getD (l.length - 1) 0 := ⟨_, rfl⟩
            obtain ⟨gb, kk, hga⟩ := own_some HO2.out (by omega)
            simp only [Value.slice.injEq, true_and] at hga
            obtain ⟨rfl, rfl⟩ := hga
            have hzm : l.length - 1 < l.length := by omega
            have hcz : w2.cell? ⟨gb, ln - 1, none⟩ = some (.int .i64 z) := by
              rw [HO2.out.cellAt (ln - 1) (by omega), iv_get _ _ _ (by omega), hz0, hL]
            have hzb : 0 ≤ z ∧ z ≤ 320 := by
              rw [hz0]
              have : l.getD (l.length - 1) 0 = l[l.length - 1] := by simp [hzm]
              rw [this]
              exact HT.out.wf _ (List.getElem_mem hzm)
            have hzwf : (Lit.int .i64 z).wf = true := wf_int (by omega)
            have hidx : (ln : Int) - 1 = ((ln - 1 : Nat) : Int) := by omega
            have hil : ((ln - 1 : Nat) : Int) < (ln : Int) := by omega
            have E4 := HE3.out
            rw [if_pos (by rfl), if_neg (by omega), ← hz0] at E4
            clear hL hl0 hz0 hzm
            have hc := icount_any HI2.out 2 3 (by omega) (by omega)
            have hnl := num_lt xs (q + ct) 2
            obtain ⟨T, hT⟩ : ∃ T, T = num xs (q + ct) 2 + 3 := ⟨_, rfl⟩
            have hT1 : 1 ≤ T := by omega
            have hT2 : T ≤ 200 := by rw [hT]; have h2 : (2 : Nat) ^ 2 = 4 := by decide
                                     omega
            rw [← hT] at hc
            unfold LenThen at E4
            rw [← hT] at E4
            have HC := Lib.hid hc
            have HE4 := Lib.hid E4
            clear hc hnl hT E4
            go_wp2_with fail
            refine HC.out.mono ?_
            rintro e w4 (⟨hs, rfl, hg, hi4⟩ | ⟨hs, rfl, hg, hi4⟩)
            · have HR := Lib.hid (show run xs most (lensR C N f []) p o = .error 3 by rw [HE4.out, if_pos hs])
              have HF4 := Lib.hid (HF2.out.trans (Went.refl _ _) (Fr.rd B v hg))
              clear hs hg hi4
              go_wp2_with fail
              go_ret2
              rw [HR.out]
              exact ⟨rfl, HF4.out⟩
            · have HF4 := Lib.hid (HF2.out.trans (Went.refl _ _) (Fr.rd B v hg))
              have HI4 := Lib.hid hi4
              have HO4 := Lib.hid (own_keepR HO2.out hg hRb)
              have hL4 := HT.out.len
              have E5 := HE4.out
              rw [if_neg (by omega), hL4] at E5
              have HE5 := Lib.hid E5
              clear hg hi4 hL4 E5
              by_cases hbig : N < ln + T
              · have HR := Lib.hid (show run xs most (lensR C N f []) p o = .error 4 by rw [HE5.out, if_pos hbig])
                have hbi : (N : Int) - (ln : Int) < (T : Int) := by omega
                clear hs hbig
                go_wp2_with fail
                go_ret2
                rw [HR.out]
                exact ⟨rfl, HF4.out⟩
              · have E6 := HE5.out
                rw [if_neg hbig] at E6
                have HR4 := Lib.hid E6
                have HFU4 := Lib.hid (show 8 * xs.length < q + ct + 2 + f2 by have := HFU.out; omega)
                clear E6 hs
                have HREP := Lib.hid (repeat_any (ints_one w4 z hzwf) T (by omega) (by omega))
                have HB4 := Lib.hid (show Below w4.heap.size w4 (w4.alloc (.cells #[.int .i64 z] 3)) from (Below.refl _ _).alloc (Nat.le_refl _) _)
                have hTi : (T : Int) ≤ (N : Int) - (ln : Int) := by omega
                go_wp2_with fail
                refine HREP.out.mono ?_
                rintro e w5 ⟨v5, rfl, ho5, hb5⟩
                have hb45 := HB4.out.trans (hb5.mono HB4.out.size)
                obtain ⟨a5, k5, rfl, hi5, hf5⟩ := IntsAt.ofOwn ho5 (fun z hz => by rw [(List.mem_replicate.1 hz).2]; exact hzwf)
                have HI5 := Lib.hid hi5
                have HO5 := Lib.hid (own_below HO4.out hb45)
                have HB45 := Lib.hid hb45
                have hb5s : b0 ≤ w5.heap.size := by have h1 := HB45.out.size; have h2 := HF4.out.size; have h3 := HB0.out; omega
                clear ho5 hb5 hi5 hf5 hb45
                go_wp2_with (at_builtin; refine wpList_append_ints Tryz.underlying77 info_int rfl (.tmp 70) (.tmp 74) rfl b0 _ _ l rfl HO5.out _ _ _ _ rfl HI5.out (by omega) (by omega) hb5s ?_)
                intro v6 w6 hown6 hg6
                obtain ⟨g6, k6, rfl⟩ := own_some hown6 (by omega)
                have HI6 := Lib.hid ((HI4.out.below HB45.out).grownO hg6 (fun tb he => ⟨by have := (HO5.out.lt tb he).1; have := HB0.out; have := HH.out.low; omega, fun e => by have := HH.out.vlt tb e; have := (HO5.out.lt tb he).1; have := HB0.out; omega⟩))
                have HF6 := Lib.hid ((HF4.out.trans (Went.refl _ _) (Fr.below HB45.out)).upO hg6 (fun tb he => by have := (HO5.out.lt tb he).1; have := HB0.out; omega))
                have HO6 := Lib.hid hown6
                clear hown6 hg6 hTi
                go_wp2_with fail
                go_roundg f2
                case rel => exact ⟨f2, q + ct + 2, ln + T, l ++ List.replicate T z, _, k6, rfl, rfl, Lib.hid ⟨HR4.out, HFU4.out, by rw [List.length_append, List.length_replicate]; have := HT.out.len; omega, by rw [List.length_append, List.length_replicate]; have := HT.out.len; omega, fun y hy => by
                  rcases List.mem_append.1 hy with h1 | h1
                  · exact HT.out.wf y h1
                  · rw [(List.mem_replicate.1 h1).2]; exact hzb⟩, HO6, HI6, HF6⟩
                case measure => have := HGG.out; omega
        · have n16 : ((sn : Int) == 16) = false := by rw [beq_eq_false_iff_ne]; omega
          have n16' : ¬ ((sn : Int) = 16) := by omega
          by_cases s17 : sn = 17
          · subst s17
            have hzwf : (Lit.int .i64 0).wf = true := by decide
            have hzb : (0 : Int) ≤ 0 ∧ (0 : Int) ≤ 320 := by decide
            have E4 := HE3.out
            rw [if_neg n16', if_pos (by rfl)] at E4
            clear n16' s16
            have hc := icount_any HI2.out 3 3 (by omega) (by omega)
            have hnl := num_lt xs (q + ct) 3
            obtain ⟨T, hT⟩ : ∃ T, T = num xs (q + ct) 3 + 3 := ⟨_, rfl⟩
            have hT1 : 1 ≤ T := by omega
            have hT2 : T ≤ 200 := by rw [hT]; have h2 : (2 : Nat) ^ 3 = 8 := by decide
                                     omega
            rw [← hT] at hc
            unfold LenThen at E4
            rw [← hT] at E4
            have HC := Lib.hid hc
            have HE4 := Lib.hid E4
            clear hc hnl hT E4
            go_wp2_with fail
            refine HC.out.mono ?_
            rintro e w4 (⟨hs, rfl, hg, hi4⟩ | ⟨hs, rfl, hg, hi4⟩)
            · have HR := Lib.hid (show run xs most (lensR C N f []) p o = .error 3 by rw [HE4.out, if_pos hs])
              have HF4 := Lib.hid (HF2.out.trans (Went.refl _ _) (Fr.rd B v hg))
              clear hs hg hi4
              go_wp2_with fail
              go_ret2
              rw [HR.out]
              exact ⟨rfl, HF4.out⟩
            · have HF4 := Lib.hid (HF2.out.trans (Went.refl _ _) (Fr.rd B v hg))
              have HI4 := Lib.hid hi4
              have HO4 := Lib.hid (own_keepR HO2.out hg hRb)
              have hL4 := HT.out.len
              have E5 := HE4.out
              rw [if_neg (by omega), hL4] at E5
              have HE5 := Lib.hid E5
              clear hg hi4 hL4 E5
              by_cases hbig : N < ln + T
              · have HR := Lib.hid (show run xs most (lensR C N f []) p o = .error 4 by rw [HE5.out, if_pos hbig])
                have hbi : (N : Int) - (ln : Int) < (T : Int) := by omega
                clear hs hbig
                go_wp2_with fail
                go_ret2
                rw [HR.out]
                exact ⟨rfl, HF4.out⟩
              · have E6 := HE5.out
                rw [if_neg hbig] at E6
                have HR4 := Lib.hid E6
                have HFU4 := Lib.hid (show 8 * xs.length < q + ct + 3 + f2 by have := HFU.out; omega)
                clear E6 hs
                have HREP := Lib.hid (repeat_any (ints_one w4 0 hzwf) T (by omega) (by omega))
                have HB4 := Lib.hid (show Below w4.heap.size w4 (w4.alloc (.cells #[.int .i64 0] 3)) from (Below.refl _ _).alloc (Nat.le_refl _) _)
                have hTi : (T : Int) ≤ (N : Int) - (ln : Int) := by omega
                go_wp2_with fail
                refine HREP.out.mono ?_
                rintro e w5 ⟨v5, rfl, ho5, hb5⟩
                have hb45 := HB4.out.trans (hb5.mono HB4.out.size)
                obtain ⟨a5, k5, rfl, hi5, hf5⟩ := IntsAt.ofOwn ho5 (fun z hz => by rw [(List.mem_replicate.1 hz).2]; exact hzwf)
                have HI5 := Lib.hid hi5
                have HO5 := Lib.hid (own_below HO4.out hb45)
                have HB45 := Lib.hid hb45
                have hb5s : b0 ≤ w5.heap.size := by have h1 := HB45.out.size; have h2 := HF4.out.size; have h3 := HB0.out; omega
                clear ho5 hb5 hi5 hf5 hb45
                go_wp2_with (at_builtin; refine wpList_append_ints Tryz.underlying77 info_int rfl (.tmp 70) (.tmp 74) rfl b0 _ _ l rfl HO5.out _ _ _ _ rfl HI5.out (by omega) (by omega) hb5s ?_)
                intro v6 w6 hown6 hg6
                obtain ⟨g6, k6, rfl⟩ := own_some hown6 (by omega)
                have HI6 := Lib.hid ((HI4.out.below HB45.out).grownO hg6 (fun tb he => ⟨by have := (HO5.out.lt tb he).1; have := HB0.out; have := HH.out.low; omega, fun e => by have := HH.out.vlt tb e; have := (HO5.out.lt tb he).1; have := HB0.out; omega⟩))
                have HF6 := Lib.hid ((HF4.out.trans (Went.refl _ _) (Fr.below HB45.out)).upO hg6 (fun tb he => by have := (HO5.out.lt tb he).1; have := HB0.out; omega))
                have HO6 := Lib.hid hown6
                clear hown6 hg6 hTi
                go_wp2_with fail
                go_roundg f2
                case rel => exact ⟨f2, q + ct + 3, ln + T, l ++ List.replicate T 0, _, k6, rfl, rfl, Lib.hid ⟨HR4.out, HFU4.out, by rw [List.length_append, List.length_replicate]; have := HT.out.len; omega, by rw [List.length_append, List.length_replicate]; have := HT.out.len; omega, fun y hy => by
                  rcases List.mem_append.1 hy with h1 | h1
                  · exact HT.out.wf y h1
                  · rw [(List.mem_replicate.1 h1).2]; exact hzb⟩, HO6, HI6, HF6⟩
                case measure => have := HGG.out; omega
          · have n17 : ((sn : Int) == 17) = false := by rw [beq_eq_false_iff_ne]; omega
            have n17' : ¬ ((sn : Int) = 17) := by omega
            by_cases s18 : sn = 18
            · subst s18
              have hzwf : (Lit.int .i64 0).wf = true := by decide
              have hzb : (0 : Int) ≤ 0 ∧ (0 : Int) ≤ 320 := by decide
              have E4 := HE3.out
              rw [if_neg n16', if_neg n17', if_pos (by rfl)] at E4
              clear n16' n17' s16 s17
              have hc := icount_any HI2.out 7 11 (by omega) (by omega)
              have hnl := num_lt xs (q + ct) 7
              obtain ⟨T, hT⟩ : ∃ T, T = num xs (q + ct) 7 + 11 := ⟨_, rfl⟩
              have hT1 : 1 ≤ T := by omega
              have hT2 : T ≤ 200 := by rw [hT]; have h2 : (2 : Nat) ^ 7 = 128 := by decide
                                       omega
              rw [← hT] at hc
              unfold LenThen at E4
              rw [← hT] at E4
              have HC := Lib.hid hc
              have HE4 := Lib.hid E4
              clear hc hnl hT E4
              go_wp2_with fail
              refine HC.out.mono ?_
              rintro e w4 (⟨hs, rfl, hg, hi4⟩ | ⟨hs, rfl, hg, hi4⟩)
              · have HR := Lib.hid (show run xs most (lensR C N f []) p o = .error 3 by rw [HE4.out, if_pos hs])
                have HF4 := Lib.hid (HF2.out.trans (Went.refl _ _) (Fr.rd B v hg))
                clear hs hg hi4
                go_wp2_with fail
                go_ret2
                rw [HR.out]
                exact ⟨rfl, HF4.out⟩
              · have HF4 := Lib.hid (HF2.out.trans (Went.refl _ _) (Fr.rd B v hg))
                have HI4 := Lib.hid hi4
                have HO4 := Lib.hid (own_keepR HO2.out hg hRb)
                have hL4 := HT.out.len
                have E5 := HE4.out
                rw [if_neg (by omega), hL4] at E5
                have HE5 := Lib.hid E5
                clear hg hi4 hL4 E5
                by_cases hbig : N < ln + T
                · have HR := Lib.hid (show run xs most (lensR C N f []) p o = .error 4 by rw [HE5.out, if_pos hbig])
                  have hbi : (N : Int) - (ln : Int) < (T : Int) := by omega
                  clear hs hbig
                  go_wp2_with fail
                  go_ret2
                  rw [HR.out]
                  exact ⟨rfl, HF4.out⟩
                · have E6 := HE5.out
                  rw [if_neg hbig] at E6
                  have HR4 := Lib.hid E6
                  have HFU4 := Lib.hid (show 8 * xs.length < q + ct + 7 + f2 by have := HFU.out; omega)
                  clear E6 hs
                  have HREP := Lib.hid (repeat_any (ints_one w4 0 hzwf) T (by omega) (by omega))
                  have HB4 := Lib.hid (show Below w4.heap.size w4 (w4.alloc (.cells #[.int .i64 0] 3)) from (Below.refl _ _).alloc (Nat.le_refl _) _)
                  have hTi : (T : Int) ≤ (N : Int) - (ln : Int) := by omega
                  go_wp2_with fail
                  refine HREP.out.mono ?_
                  rintro e w5 ⟨v5, rfl, ho5, hb5⟩
                  have hb45 := HB4.out.trans (hb5.mono HB4.out.size)
                  obtain ⟨a5, k5, rfl, hi5, hf5⟩ := IntsAt.ofOwn ho5 (fun z hz => by rw [(List.mem_replicate.1 hz).2]; exact hzwf)
                  have HI5 := Lib.hid hi5
                  have HO5 := Lib.hid (own_below HO4.out hb45)
                  have HB45 := Lib.hid hb45
                  have hb5s : b0 ≤ w5.heap.size := by have h1 := HB45.out.size; have h2 := HF4.out.size; have h3 := HB0.out; omega
                  clear ho5 hb5 hi5 hf5 hb45
                  go_wp2_with (at_builtin; refine wpList_append_ints Tryz.underlying77 info_int rfl (.tmp 70) (.tmp 74) rfl b0 _ _ l rfl HO5.out _ _ _ _ rfl HI5.out (by omega) (by omega) hb5s ?_)
                  intro v6 w6 hown6 hg6
                  obtain ⟨g6, k6, rfl⟩ := own_some hown6 (by omega)
                  have HI6 := Lib.hid ((HI4.out.below HB45.out).grownO hg6 (fun tb he => ⟨by have := (HO5.out.lt tb he).1; have := HB0.out; have := HH.out.low; omega, fun e => by have := HH.out.vlt tb e; have := (HO5.out.lt tb he).1; have := HB0.out; omega⟩))
                  have HF6 := Lib.hid ((HF4.out.trans (Went.refl _ _) (Fr.below HB45.out)).upO hg6 (fun tb he => by have := (HO5.out.lt tb he).1; have := HB0.out; omega))
                  have HO6 := Lib.hid hown6
                  clear hown6 hg6 hTi
                  go_wp2_with fail
                  go_roundg f2
                  case rel => exact ⟨f2, q + ct + 7, ln + T, l ++ List.replicate T 0, _, k6, rfl, rfl, Lib.hid ⟨HR4.out, HFU4.out, by rw [List.length_append, List.length_replicate]; have := HT.out.len; omega, by rw [List.length_append, List.length_replicate]; have := HT.out.len; omega, fun y hy => by
                    rcases List.mem_append.1 hy with h1 | h1
                    · exact HT.out.wf y h1
                    · rw [(List.mem_replicate.1 h1).2]; exact hzb⟩, HO6, HI6, HF6⟩
                  case measure => have := HGG.out; omega
            · have n18 : ((sn : Int) == 18) = false := by rw [beq_eq_false_iff_ne]; omega
              have n18' : ¬ ((sn : Int) = 18) := by omega
              have E4 := HE3.out
              rw [if_neg n16', if_neg n17', if_neg n18'] at E4
              obtain ⟨z, hz0⟩ : ∃ z : Int, z = (sn : Int) := ⟨_, rfl⟩
              obtain ⟨T, hT⟩ : ∃ T : Nat, T = 1 := ⟨_, rfl⟩
              have hzb : 0 ≤ (sn : Int) ∧ (sn : Int) ≤ 320 := by omega
              have hzwf : (Lit.int .i64 (sn : Int)).wf = true := wf_int (by omega)
              have HR4 := Lib.hid E4
              have HFU4 := HFU
              have HI4 := HI2
              have HF4 := HF2
              have HO4 := HO2
              clear E4 n16' n17' n18' s16 s17 s18 hz0 hT
              have HREP := Lib.hid (repeat_any (ints_one w2 (sn : Int) hzwf) 1 (by omega) (by omega))
              have HB4 := Lib.hid (show Below w2.heap.size w2 (w2.alloc (.cells #[.int .i64 (sn : Int)] 3)) from (Below.refl _ _).alloc (Nat.le_refl _) _)
              have hTi : (1 : Int) ≤ (N : Int) - (ln : Int) := by omega
              go_wp2_with fail
              refine HREP.out.mono ?_
              rintro e w5 ⟨v5, rfl, ho5, hb5⟩
              have hb45 := HB4.out.trans (hb5.mono HB4.out.size)
              obtain ⟨a5, k5, rfl, hi5, hf5⟩ := IntsAt.ofOwn ho5 (fun z hz => by rw [(List.mem_replicate.1 hz).2]; exact hzwf)
              have HI5 := Lib.hid hi5
              have HO5 := Lib.hid (own_below HO4.out hb45)
              have HB45 := Lib.hid hb45
              have hb5s : b0 ≤ w5.heap.size := by have h1 := HB45.out.size; have h2 := HF4.out.size; have h3 := HB0.out; omega
              clear ho5 hb5 hi5 hf5 hb45
              go_wp2_with (at_builtin; refine wpList_append_ints Tryz.underlying77 info_int rfl (.tmp 70) (.tmp 74) rfl b0 _ _ l rfl HO5.out _ _ _ _ rfl HI5.out (by omega) (by omega) hb5s ?_)
              intro v6 w6 hown6 hg6
              obtain ⟨g6, k6, rfl⟩ := own_some hown6 (by omega)
              have HI6 := Lib.hid ((HI4.out.below HB45.out).grownO hg6 (fun tb he => ⟨by have := (HO5.out.lt tb he).1; have := HB0.out; have := HH.out.low; omega, fun e => by have := HH.out.vlt tb e; have := (HO5.out.lt tb he).1; have := HB0.out; omega⟩))
              have HF6 := Lib.hid ((HF4.out.trans (Went.refl _ _) (Fr.below HB45.out)).upO hg6 (fun tb he => by have := (HO5.out.lt tb he).1; have := HB0.out; omega))
              have HO6 := Lib.hid hown6
              clear hown6 hg6 hTi
              go_wp2_with fail
              go_roundg f2
              case rel => exact ⟨f2, q + ct, ln + 1, l ++ List.replicate 1 (sn : Int), _, k6, rfl, rfl, Lib.hid ⟨HR4.out, HFU4.out, by rw [List.length_append, List.length_replicate]; have := HT.out.len; omega, by rw [List.length_append, List.length_replicate]; have := HT.out.len; omega, fun y hy => by
                rcases List.mem_append.1 hy with h1 | h1
                · exact HT.out.wf y h1
                · rw [(List.mem_replicate.1 h1).2]; exact hzb⟩, HO6, HI6, HF6⟩
              case measure => have := HGG.out; omega
      · have hz : ((er : Int) != 0) = true := by rw [bne_iff_ne]; omega
        have HE := Lib.hid (HT.out.run.trans (HE1.out her0))
        clear her0
        go_wp2_with fail
        go_ret2
        rw [HE.out]
        exact ⟨rfl, HF2.out⟩
end Go.Proofs.YtpbijdoemdoijaaGreatDoor
end PkCa25_0
