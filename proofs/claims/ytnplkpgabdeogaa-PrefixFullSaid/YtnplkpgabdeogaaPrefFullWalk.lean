/- The walk of PrefixFull: it returns true for all lengths and bytes. -/
import Derived.Test.YtnplkpgabdeogaaPrefKraft
import Derived.Deep.LoopGhost
namespace Go.Proofs.Ytnplkpgabdeogaa
open Go.RowKit PrefPlain BitsPlain
set_option linter.unusedVariables false

/-- how many of the first k symbols have words -/
def wc (L : List Int) : Nat → Nat
  | 0 => 0
  | k + 1 => if 0 < L.getD k 0 then wc L k + 1 else wc L k
theorem wc_le (L : List Int) : ∀ k, wc L k ≤ k
  | 0 => Nat.le_refl _
  | k + 1 => by have := wc_le L k; rw [wc]; split <;> omega
theorem wc_one {L : List Int} : ∀ {k : Nat}, 1 ≤ wc L k → ∃ s, s < k ∧ 0 < L.getD s 0
  | 0, h => by simp [wc] at h
  | k + 1, h => by
    rw [wc] at h
    split at h
    · exact ⟨k, by omega, by assumption⟩
    · obtain ⟨s, hs, h1⟩ := wc_one h
      exact ⟨s, by omega, h1⟩
theorem wc_two {L : List Int} : ∀ {k : Nat}, 2 ≤ wc L k → ∃ s t, s < t ∧ t < k ∧ 0 < L.getD s 0 ∧ 0 < L.getD t 0
  | 0, h => by simp [wc] at h
  | k + 1, h => by
    rw [wc] at h
    split at h
    · obtain ⟨s, hs, h1⟩ := wc_one (L := L) (k := k) (by omega)
      exact ⟨s, k, hs, by omega, h1, by assumption⟩
    · obtain ⟨s, t, h1, h2, h3⟩ := wc_two h
      exact ⟨s, t, h1, by omega, h3⟩

theorem full_of {L : List Int} (hok : okL L L.length) (hf : fitsB (cn L) (mo L L.length) = true) (hw : 2 ≤ wc L L.length) : su (cn L) 16 = 32768 ∧ 0 < mo L L.length := by
  obtain ⟨s, t, hst, ht, h1, h2⟩ := wc_two hw
  have hs := hok s (by omega)
  have ht2 := hok t ht
  obtain ⟨n, hn⟩ : ∃ n : Nat, L.getD s 0 = (n : Int) := ⟨(L.getD s 0).toNat, by omega⟩
  obtain ⟨m, hm⟩ : ∃ m : Nat, L.getD t 0 = (m : Int) := ⟨(L.getD t 0).toNat, by omega⟩
  have hmn := mo_ge (L := L) (show s < L.length by omega)
  have hmm := mo_ge (L := L) ht
  rw [hn, Int.toNat_natCast] at hmn
  rw [hm, Int.toNat_natCast] at hmm
  refine ⟨?_, by omega⟩
  rcases fits_cases hf with g | g | ⟨g1, g2⟩
  · exact g
  · have := su_ge_pow (L := L) (n := n) (by omega) (by omega) (by omega) hn
    omega
  · exfalso
    obtain rfl : n = 1 := by omega
    obtain rfl : m = 1 := by omega
    have p1 := pl_ok (by omega) (show s < L.length by omega) hn
    have p2 := pl_ok (by omega) ht hm
    have e : (sy L L.length 1).length = 1 := g2
    have q1 : pl L s = 0 := by omega
    have q2 : pl L t = 0 := by omega
    rw [q1] at p1
    rw [q2] at p2
    have := p1.2.symm.trans p2.2
    omega

theorem mk_zero {L : List Int} (h : mk L = 0) : fitsB (cn L) (mo L L.length) = true := by
  unfold mk at h
  split at h
  · cases h
  · split at h
    · cases h
    · split at h
      · cases h
      · rename_i hh; simpa using hh

set_option maxRecDepth 100000 in
set_option maxHeartbeats 8000000 in
theorem prefixFull_walk (a0 : Option Addr) (len0 cap0 : Nat) (z0 : List Int) (a1 : Option Addr) (len1 cap1 : Nat) (z1 : List Int) (w : World) (w0 : IsRow .i64 8 w a0 len0 cap0 z0) (w1 : IsRow .u8 1 w a1 len1 cap1 z1) :
    Calls Try.prog 6 #[.slice a0 len0 cap0, .slice a1 len1 cap1] w fun e w' => e = .returned (.bool true) ∧ Below w.heap.size w w' := by
  have hz := w0.ints
  obtain ⟨xs, hx⟩ := w1.bytes
  obtain ⟨L, hL⟩ : ∃ L, L = z0.take len0 := ⟨_, rfl⟩
  rw [← hL] at hz
  have HL := Lib.hid (lives5_any w)
  have HH := Lib.hid hz
  have HX := Lib.hid hx
  have hcap := hz.cap
  have hcm := hz.capm
  clear w0 w1 hz hL hx
  by_cases hbad : (320 : Int) < (len0 : Int) ∨ ((len0 : Int) ≤ 320 ∧ (200 : Int) < (len1 : Int))
  · rcases hbad with hb | ⟨hb, hb'⟩
    all_goals
      go_enter Try.func6, Try.ntmps6
      go_wp2_with fail
      refine HL.out.mono ?_
      rintro e w1 ⟨rfl, hb1⟩
      have HB1 := Lib.hid hb1
      have HL1 := Lib.hid (lives5_any w1)
      clear hb1
      go_wp2_with fail
      refine HL1.out.mono ?_
      rintro e w2 ⟨rfl, hb2⟩
      have HB2 := Lib.hid (HB1.out.trans (hb2.mono HB1.out.size))
      clear hb2
      go_wp2_with fail
      go_ret
      exact ⟨rfl, HB2.out⟩
  · have hb : (len0 : Int) ≤ 320 := by omega
    have hb' : (len1 : Int) ≤ 200 := by omega
    clear hbad
    go_enter Try.func6, Try.ntmps6
    go_wp2_with fail
    refine HL.out.mono ?_
    rintro e w1 ⟨rfl, hb1⟩
    have HB1 := Lib.hid hb1
    have HM := Lib.hid (make_any (HH.out.kept hb1))
    clear hb1
    obtain ⟨q, hq⟩ : ∃ q, q = mk L := ⟨_, rfl⟩
    rw [← hq] at HM
    have HQ := Lib.hid hq
    clear hq
    go_wp2_with fail
    refine HM.out.mono ?_
    rintro e w2 ⟨p, rfl, hb2, hp0, hp⟩
    have HB2 := Lib.hid (HB1.out.trans (hb2.mono HB1.out.size))
    have HP0 := Lib.hid hp0
    have HP := Lib.hid hp
    clear hb2 hp hp0
    go_wp2_with fail
    go_loop [7, 37] (fun s7 s37 => ∃ k : Nat, k ≤ len0 ∧ s37 = .int .i64 k ∧ s7 = .int .i64 ((wc L k : Nat) : Int)) (fun _ s37 => len0 - (intOf s37).toNat)
    case atStart => exact ⟨0, by omega, rfl, rfl⟩
    case round =>
      obtain ⟨k, hk, rfl, rfl⟩ := hrel
      by_cases hkn : k < len0
      · obtain ⟨b, off, rfl, hlt, hcell⟩ := (HH.out.kept HB2.out).cells (by omega)
        have hck := hcell k hkn
        obtain ⟨x, hx⟩ : ∃ x, x = L.getD k 0 := ⟨_, rfl⟩
        rw [← hx] at hck
        have hwl := wc_le L k
        obtain ⟨u, hu⟩ : ∃ u, u = wc L k := ⟨_, rfl⟩
        have hw : wc L (k + 1) = if 0 < x then u + 1 else u := by rw [wc, ← hx, hu]
        rw [← hu] at hwl ⊢
        have HW := Lib.hid hw
        clear hcell hx hu hw
        by_cases hx0 : 0 < x
        · have HW2 := Lib.hid (show wc L (k + 1) = u + 1 by rw [HW.out, if_pos hx0])
          go_wp2_with fail
          go_round
          case rel => exact ⟨k + 1, by omega, by go_num, by rw [HW2.out]; go_num⟩
          case measure => simp [intOf]; omega
        · have HW2 := Lib.hid (show wc L (k + 1) = u by rw [HW.out, if_neg hx0])
          have hx0' : x ≤ 0 := by omega
          clear hx0
          go_wp2_with fail
          go_round
          case rel => exact ⟨k + 1, by omega, by go_num, by rw [HW2.out]⟩
          case measure => simp [intOf]; omega
      · obtain rfl : k = len0 := by omega
        obtain ⟨u, hu⟩ : ∃ u, u = wc L k := ⟨_, rfl⟩
        have hul : u ≤ 320 := by rw [hu]; exact Nat.le_trans (wc_le L k) (by omega)
        rw [← hu]
        by_cases hq0 : q = 0
        · subst hq0
          have hz : ((0 : Int) != 0) = false := by decide
          obtain ⟨B, rfl, hBw, hT⟩ := HP.out rfl
          have HT := Lib.hid hT
          clear hT
          by_cases hu2 : (u : Int) < 2
          · clear hu
            go_wp2_with fail
            go_ret
            exact ⟨rfl, HB2.out⟩
          · have hu2' : (2 : Int) ≤ (u : Int) := by omega
            have hfu := full_of HT.out.ok (mk_zero HQ.out.symm) (by rw [HH.out.len, ← hu]; omega)
            have HFU := Lib.hid hfu
            have HMO := Lib.hid (mo_le HT.out.ok)
            have HRN := Lib.hid (rnew_any (HX.out.kept HB2.out))
            clear hu hu2 hfu
            go_wp2_with fail
            refine HRN.out.mono ?_
            rintro e w3 ⟨R, a', c', rfl, hrd, hb3, hR, hfr⟩
            have HB3 := Lib.hid (HB2.out.trans (hb3.mono HB2.out.size))
            have HT3 := Lib.hid (HT.out.kept hb3)
            have HRD := Lib.hid hrd
            have hBl : B < w2.heap.size := by
              obtain ⟨_, _, _, _, h1, _⟩ := HT.out.tab
              exact h1.lt
            have hw2 := HB2.out.size
            have HRB := Lib.hid (show B ≠ R by omega)
            have hwR : w.heap.size ≤ R := by omega
            have hRl := hrd.lt
            have hkeep : ∀ w', w3.grownBy w' (some R) → TabAt w' B L := fun w' hg => by
              have hk : Below w2.heap.size w3 w' := ⟨hg.os, hg.tape, hg.output, hg.size, fun i hi => hg.block i (Nat.lt_of_lt_of_le hi hb3.size) (fun e => by have := Option.some.inj e; omega)⟩
              exact HT.out.kept (hb3.trans hk)
            have HKP := Lib.hid hkeep
            clear hrd hb3 hR hfr hkeep
            go_wp2_with fail
            go_loopg [] (8 * len1 + 1) (fun g wr => ∃ p : Nat, g = 8 * len1 + 1 - p ∧ p ≤ 8 * len1 ∧ Hid (RdAt wr R a' len1 c' xs p) ∧ Hid (w3.grownBy wr (some R)))
            case atStart => exact ⟨0, by omega, by omega, HRD, Lib.hid (World.grownBy.refl _ _)⟩
            case round =>
              obtain ⟨p, hg, hp, HR, HG⟩ := hrel
              have HGG := Lib.hid hg
              clear hg
              have HLF := Lib.hid (rleft_any HR.out)
              by_cases hl15 : 15 ≤ 8 * len1 - p
              · have hl15' : (15 : Int) ≤ ((8 * len1 - p : Nat) : Int) := by omega
                clear hl15
                go_wp2_with fail
                refine HLF.out.mono ?_
                rintro e w4 ⟨rfl, d4, rfl⟩
                have HR4 := Lib.hid (HR.out.drewN d4)
                have HG4 := Lib.hid (HG.out.trans' (grown_drewN _ d4 _))
                have HAT := Lib.hid (rat_any HR4.out)
                go_wp2_with fail
                refine HAT.out.mono ?_
                rintro e w4 ⟨rfl, rfl⟩
                have hnx := next_any (HKP.out _ HG4.out) HR4.out HRB.out (fun w' hg => HKP.out _ (HG4.out.trans' hg))
                have hfd := rn_full HFU.out.1 HMO.out HFU.out.2 xs p (by rw [HX.out.len]; omega)
                obtain ⟨r, hr⟩ : ∃ r, r = rn L xs p := ⟨_, rfl⟩
                rw [← hr] at hnx hfd
                obtain ⟨r1, r2, r3⟩ := r
                obtain ⟨h1, h2, h3, s, h4, h5, h6⟩ := hfd
                simp only at h1 h2 h3 h4 h6 hnx
                subst h1
                subst h4
                have HNX := Lib.hid hnx
                clear hnx hr
                have H5 := Lib.hid h5
                have H6 := Lib.hid h6
                clear h5 h6
                go_wp2_with fail
                refine HNX.out.mono ?_
                rintro e w5 ⟨rfl, hr5, hg5⟩
                have HR5 := Lib.hid hr5
                have HG5 := Lib.hid (HG4.out.trans' hg5)
                have HW5 := Lib.hid (word_yes (HKP.out _ HG5.out) s r3 H5.out h2 H6.out)
                have HAT5 := Lib.hid (rat_any HR5.out)
                have hne : ((((p + r3 : Nat) : Int)) != (p : Int) + (r3 : Int)) = false := by simp
                have hle5 := hr5.le
                clear hr5 hg5
                go_wp2_with fail
                refine HW5.out.mono ?_
                rintro e w6 ⟨rfl, rfl⟩
                go_wp2_with fail
                refine HAT5.out.mono ?_
                rintro e w6 ⟨rfl, rfl⟩
                go_wp2_with fail
                go_roundg (8 * len1 + 1 - (p + r3))
                case rel => exact ⟨p + r3, rfl, by omega, HR5, HG5⟩
                case measure => have := HGG.out; omega
              · have hl15' : ((8 * len1 - p : Nat) : Int) < 15 := by omega
                clear hl15
                go_wp2_with fail
                refine HLF.out.mono ?_
                rintro e w4 ⟨rfl, d4, rfl⟩
                have HR4 := Lib.hid (HR.out.drewN d4)
                have HG4 := Lib.hid (HG.out.trans' (grown_drewN _ d4 _))
                have HLF4 := Lib.hid (rleft_any HR4.out)
                go_wp2_with fail
                refine HLF4.out.mono ?_
                rintro e w5 ⟨rfl, d5, rfl⟩
                go_wp2_with fail
                go_ret
                exact ⟨rfl, HB3.out.grown (HG.out.trans' (grown_drewN _ (d4 + d5) _)) HB3.out.size (fun j hj => by cases hj; exact hwR)⟩
        · have hq1 : ((q : Int) != 0) = true := by rw [bne_iff_ne]; omega
          obtain rfl := HP0.out hq0
          clear hu hq0
          go_wp2_with fail
          go_ret
          exact ⟨rfl, HB2.out⟩
end Go.Proofs.Ytnplkpgabdeogaa
