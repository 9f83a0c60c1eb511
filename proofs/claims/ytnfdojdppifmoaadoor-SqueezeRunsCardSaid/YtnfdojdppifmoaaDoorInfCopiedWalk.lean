/- Package inflate: copied, the walk. -/
import Derived.Test.YtnfdojdppifmoaaDoorInfCopied
namespace Go.Proofs.YtnfdojdppifmoaaDoor
open Go.RowKit PrefPlain BitsPlain InfPlain
set_option linter.unusedVariables false

set_option maxRecDepth 100000 in
set_option maxHeartbeats 4000000 in
theorem icopied_any {w : World} {B R base : Nat} {ra : Option Addr} {n c : Nat} {xs : List Nat} {p : Nat} {v : Value} {o : List Nat} {most : Nat} {fl fd : Option Addr} (h : InAt w B R base ra n c xs p v o most fl fd) :
    Calls Tryd.prog 19 #[.pointer (some ⟨B, 0, none⟩)] w fun e w' => Says w B R base ra n c xs v most fl fd (run xs most copyR p o) e w' := by
  obtain ⟨i0, hi, hz0, hz1, hz2⟩ := info_parts info_u8
  obtain ⟨av, cv, rfl, _, _⟩ := BytesAt.ofOwn h.own h.byte (by have := h.lim; have := h.most; omega)
  have c0 := h.ib.c0
  have hm := h.most
  have HA := Lib.hid (ialign_any h.rd)
  have HI := Lib.hid h
  have HLE := Lib.hid (show p ≤ 8 * xs.length by have := h.rd.le; have := h.rd.src.len; omega)
  clear h
  go_enter Tryd.func19, Tryd.ntmps19
  go_wp2_with fail
  refine HA.out.mono ?_
  rintro e w1 ⟨rfl, hr1, hg1⟩
  have hi1 := HI.out.read hr1 hg1
  have HF1 := Lib.hid (Fr.rd B (.slice av o.length cv) hg1)
  have hc1 := hi1.ib.c0
  have HI1 := Lib.hid hi1
  clear hr1 hg1 hi1 c0
  by_cases s1 : 8 * xs.length < (p + 7) / 8 * 8 + 16
  · have HB := Lib.hid (ibits_no HI1.out.rd 16 (by omega) s1)
    have HE := Lib.hid (copy_1 (most := most) (o := o) HLE.out s1)
    clear s1
    go_wp2_with fail
    refine HB.out.mono ?_
    rintro e w2 ⟨rfl, hr2, hg2⟩
    have HF2 := Lib.hid (HF1.out.trans (Went.refl _ _) (Fr.rd B _ hg2))
    clear hr2 hg2
    go_wp2_with fail
    go_ret
    rw [HE.out]
    exact ⟨rfl, HF2.out⟩
  · have HB := Lib.hid (ibits_yes HI1.out.rd 16 (by omega) (by omega))
    have hN := num_lt xs ((p + 7) / 8 * 8) 16
    obtain ⟨N, hNe⟩ : ∃ N, N = num xs ((p + 7) / 8 * 8) 16 := ⟨_, rfl⟩
    rw [← hNe] at HB hN
    have HN := Lib.hid hNe
    have hN2 : N < 65536 := by simpa using hN
    have HS1 := Lib.hid (show (p + 7) / 8 * 8 + 16 ≤ 8 * xs.length by omega)
    clear hNe hN s1
    go_wp2_with fail
    refine HB.out.mono ?_
    rintro e w2 ⟨rfl, hr2, hg2⟩
    have hi2 := HI1.out.read hr2 hg2
    have HF2 := Lib.hid (HF1.out.trans (Went.refl _ _) (Fr.rd B _ hg2))
    have HR := Lib.hid (room_any hi2.ib hi2.lim hi2.most N (by omega))
    have HI2 := Lib.hid hi2
    clear hr2 hg2 hi2 hc1
    by_cases hroom : o.length + N ≤ most
    · have hd : decide (o.length + N ≤ most) = true := decide_eq_true hroom
      rw [hd] at HR
      clear hd
      go_wp2_with fail
      refine HR.out.mono ?_
      rintro e w3 ⟨rfl, d3, rfl⟩
      have hi3 := HI2.out.drewN d3
      have hc3 := hi3.ib.c0
      have HF3 := Lib.hid (HF2.out.trans (Went.refl _ _) (Fr.touch R (touch_drewN w2 d3 B _)))
      have HI3 := Lib.hid hi3
      clear hi3
      by_cases s2 : 8 * xs.length < (p + 7) / 8 * 8 + 16 + 16
      · have HB3 := Lib.hid (ibits_no HI3.out.rd 16 (by omega) s2)
        have HE := Lib.hid (copy_3 (most := most) (o := o) HS1.out (by rw [← HN.out]; exact hroom) s2)
        clear s2
        go_wp2_with fail
        refine HB3.out.mono ?_
        rintro e w4 ⟨rfl, hr4, hg4⟩
        have HF4 := Lib.hid (HF3.out.trans (Went.refl _ _) (Fr.rd B _ hg4))
        clear hr4 hg4
        go_wp2_with fail
        go_ret
        rw [HE.out]
        exact ⟨rfl, HF4.out⟩
      · have HB3 := Lib.hid (ibits_yes HI3.out.rd 16 (by omega) (by omega))
        have hE := copy_4 (xs := xs) (most := most) (p := p) (o := o) (by omega) (by rw [← HN.out]; exact hroom)
        have hT := num_lt xs ((p + 7) / 8 * 8 + 16) 16
        obtain ⟨T, hTe⟩ : ∃ T, T = num xs ((p + 7) / 8 * 8 + 16) 16 := ⟨_, rfl⟩
        rw [← hTe] at HB3 hT hE
        rw [← HN.out] at hE
        have hT2 : T < 65536 := by simpa using hT
        have hx := xor_ffff N (by omega)
        obtain ⟨X, hX⟩ : ∃ X, X = N ^^^ 65535 := ⟨_, rfl⟩
        rw [← hX] at hE hx
        have HE := Lib.hid hE
        clear hTe hT hE hX s2
        go_wp2_with fail
        refine HB3.out.mono ?_
        rintro e w4 ⟨rfl, hr4, hg4⟩
        have HI4 := Lib.hid (HI3.out.read hr4 hg4)
        have HF4 := Lib.hid (HF3.out.trans (Went.refl _ _) (Fr.rd B _ hg4))
        clear hr4 hg4
        by_cases hTX : T = X
        · subst hTX
          have hee : ((T : Int) != (T : Int)) = false := by simp
          have HE2 := Lib.hid (show run xs most copyR p o = run xs most (bytesR N) ((p + 7) / 8 * 8 + 16 + 16) o by rw [HE.out, if_neg (by simp)])
          clear HE hc3
          go_wp2_with fail
          go_loopw [45] (fun s45 wr => ∃ (k q : Nat) (v' : Value) (o' : List Nat), k ≤ N ∧ s45 = .int .u32 (k : Int) ∧ Hid (InAt wr B R base ra n c xs q v' o' most fl fd) ∧ Hid (Cp xs most ((p + 7) / 8 * 8 + 16 + 16) o N k q o') ∧ Hid (Fr w wr B R (.slice av o.length cv)) ∧ Hid (Went w (.slice av o.length cv) v')) (fun s45 _ => N - (intOf s45).toNat)
          case atStart => exact ⟨0, _, _, o, by omega, rfl, HI4, Lib.hid ⟨rfl, hroom⟩, HF4, Lib.hid (Went.refl _ _)⟩
          case round =>
            obtain ⟨k, q, v', o', hk, rfl, HJ, HC, HF, HW⟩ := hrel
            rename World => wr
            obtain ⟨a', c', rfl, _, _⟩ := BytesAt.ofOwn HJ.out.own HJ.out.byte (by have := HJ.out.lim; omega)
            have hq : q ≤ 8 * xs.length := by have := HJ.out.rd.le; have := HJ.out.rd.src.len; omega
            have hc5 := HJ.out.ib.c0
            by_cases hkN : k < N
            · by_cases s3 : 8 * xs.length < q + 8
              · have HB5 := Lib.hid (ibits_no HJ.out.rd 8 (by omega) s3)
                have HE3 := Lib.hid (HC.out.short hkN hq s3)
                clear s3 hq
                go_wp2_with fail
                refine HB5.out.mono ?_
                rintro e w6 ⟨rfl, hr6, hg6⟩
                have HF6 := Lib.hid (HF.out.trans HW.out (Fr.rd B _ hg6))
                clear hr6 hg6
                go_wp2_with fail
                go_ret
                rw [HE2.out, HE3.out]
                exact ⟨rfl, HF6.out⟩
              · have HB5 := Lib.hid (ibits_yes HJ.out.rd 8 (by omega) (by omega))
                have HCN := Lib.hid (HC.out.next hkN (by omega))
                have hx8 := num_lt xs q 8
                obtain ⟨x, hxe⟩ : ∃ x, x = num xs q 8 := ⟨_, rfl⟩
                rw [← hxe] at HB5 HCN hx8
                have hx256 : x < 256 := by simpa using hx8
                have hl1 : o'.length + 1 ≤ most := by have := HC.out.room; omega
                clear s3 hq hx8 hxe
                go_wp2_with fail
                refine HB5.out.mono ?_
                rintro e w6 ⟨rfl, hr6, hg6⟩
                have hj6 := HJ.out.read hr6 hg6
                have HF6 := Lib.hid (HF.out.trans HW.out (Fr.rd B _ hg6))
                have hs6 := hg6.size
                have c6 := hj6.ib.c1
                have hlow6 := hj6.low
                have HJ6 := Lib.hid hj6
                have HOA := Lib.hid (hj6.own.alloc (.cells #[.int .u8 (x : Int)] 5))
                clear hr6 hg6 hj6
                go_wp2_with (at_builtin; refine wpList_append_own_at _ rfl (.tmp 62) (.tmp 65) 22 rfl base 5 i0 (.int .u8 0) 1 1 Tryd.underlying22 hi hz0 hz1 hz2 rfl (by decide) _ _ _ rfl HOA.out ⟨w6.heap.size, 0, none⟩ 1 1 [.int .u8 (x : Int)] rfl rfl (one_src _ _ _) (one_oneCell rfl) (by unfold maxLen; omega) (by omega) (by simp; omega) ?_)
                intro v2 w7 hown7 hg7 _ hat7
                have hwent : Went w6 (.slice a' o'.length c') v2 := by
                  rcases hat7 with e | e
                  · exact .inl e
                  · exact .inr ⟨_, e, by simp⟩
                have HWT := Lib.hid hwent
                obtain ⟨g2, cc2, rfl⟩ := own_some hown7 (by omega)
                obtain ⟨hb7, hb8, ho8, ht8⟩ := out_step _ HJ6.out.ib HJ6.out.own hown7 hg7
                have c7 := hb7.c1
                have f7 := hb7.f 1
                have HJ8 := Lib.hid (HJ6.out.wrote hx256 hl1 ht8 hb8 (by rw [bv_append]; exact ho8))
                have hsz6 : w.heap.size ≤ w6.heap.size := by have := HF.out.size; omega
                clear hb7 hb8 ho8 hown7 hg7 c6 hwent hat7
                go_wp2_with fail
                go_roundw
                case rel => exact ⟨k + 1, _, _, _, by omega, by go_num, HJ8, HCN, Lib.hid (HF6.out.trans HW.out (Fr.touch R ht8)), Lib.hid (HW.out.trans hsz6 HWT.out)⟩
                case measure => simp [intOf]; omega
            · obtain rfl : k = N := by omega
              have HE3 := Lib.hid HC.out.done
              clear hq hkN
              go_wp2_with fail
              go_ret
              rw [HE2.out, HE3.out]
              exact ⟨rfl, HF.out, _, HJ.out, HW.out⟩
        · have hee : ((T : Int) != (X : Int)) = true := by rw [bne_iff_ne]; omega
          have HE2 := Lib.hid (show run xs most copyR p o = .error 4 by rw [HE.out, if_pos hTX])
          clear HE hTX
          go_wp2_with fail
          go_ret
          rw [HE2.out]
          exact ⟨rfl, HF4.out⟩
    · have hd : decide (o.length + N ≤ most) = false := decide_eq_false hroom
      rw [hd] at HR
      have HE := Lib.hid (copy_2 (xs := xs) (most := most) (p := p) (o := o) HS1.out (by rw [← HN.out]; omega))
      clear hd
      go_wp2_with fail
      refine HR.out.mono ?_
      rintro e w3 ⟨rfl, d3, rfl⟩
      have HF3 := Lib.hid (HF2.out.trans (Went.refl _ _) (Fr.touch R (touch_drewN w2 d3 B _)))
      go_wp2_with fail
      go_ret
      rw [HE.out]
      exact ⟨rfl, HF3.out⟩
end Go.Proofs.YtnfdojdppifmoaaDoor
