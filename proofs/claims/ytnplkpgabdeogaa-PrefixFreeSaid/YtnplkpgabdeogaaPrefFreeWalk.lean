/- The walk of PrefixFree: it returns true for all lengths and symbols. -/
import Derived.Test.YtnplkpgabdeogaaPrefWord
namespace Go.Proofs.Ytnplkpgabdeogaa
open Go.RowKit PrefPlain
set_option linter.unusedVariables false

/-- words of unlike symbols: none begins the other -/
theorem free {L : List Int} {s t n m : Nat} (hs : s < L.length) (ht : t < L.length) (hn : 0 < n) (hLs : L.getD s 0 = (n : Int)) (hLt : L.getD t 0 = (m : Int)) (hst : s ≠ t) (hnm : n ≤ m) :
    (fw (cn L) m + pl L t) / 2 ^ (m - n) ≠ fw (cn L) n + pl L s := by
  have h1 := pl_ok hn hs hLs
  rcases Nat.lt_or_ge n m with g | g
  · exact no_begin (cn L) hn g h1.1
  · obtain rfl : m = n := by omega
    have h2 := pl_ok hn ht hLt
    rw [Nat.sub_self, Nat.pow_zero, Nat.div_one]
    intro e
    have he : pl L t = pl L s := by omega
    rw [he, h1.2] at h2
    omega

set_option maxRecDepth 100000 in
set_option maxHeartbeats 8000000 in
theorem prefixFree_walk (a0 : Option Addr) (len0 cap0 : Nat) (z0 : List Int) (a1 a2 : Int) (w : World) (w0 : IsRow .i64 8 w a0 len0 cap0 z0) (w1 : (Lit.int .i64 a1).wf = true) (w2 : (Lit.int .i64 a2).wf = true) :
    Calls Try.prog 5 #[.slice a0 len0 cap0, .int .i64 a1, .int .i64 a2] w fun e w' => e = .returned (.bool true) ∧ Below w.heap.size w w' := by
  have hz := w0.ints
  obtain ⟨L, hL⟩ : ∃ L, L = z0.take len0 := ⟨_, rfl⟩
  rw [← hL] at hz
  have HL := Lib.hid (lives5_any w)
  have HH := Lib.hid hz
  clear w0 w1 w2 hz hL
  by_cases hbad : (320 : Int) < (len0 : Int) ∨ ((len0 : Int) ≤ 320 ∧ a1 = a2)
  · rcases hbad with hb | ⟨hb, rfl⟩
    · go_enter Try.func5, Try.ntmps5
      go_wp2_with fail
      refine HL.out.mono ?_
      rintro e w1 ⟨rfl, hb1⟩
      have HB1 := Lib.hid hb1
      have HL1 := Lib.hid (lives5_any w1)
      clear hb1
      go_wp2_with fail
      refine HL1.out.mono ?_
      rintro e w2 ⟨rfl, hb2⟩
      have HB2 := Lib.hid (HB1.out.trans (hb2.mono HB1.out.size))
      clear hb2
      go_wp2_with fail
      go_ret
      exact ⟨rfl, HB2.out⟩
    · have he : (a1 == a1) = true := by simp
      go_enter Try.func5, Try.ntmps5
      go_wp2_with fail
      refine HL.out.mono ?_
      rintro e w1 ⟨rfl, hb1⟩
      have HB1 := Lib.hid hb1
      have HL1 := Lib.hid (lives5_any w1)
      clear hb1
      go_wp2_with fail
      refine HL1.out.mono ?_
      rintro e w2 ⟨rfl, hb2⟩
      have HB2 := Lib.hid (HB1.out.trans (hb2.mono HB1.out.size))
      clear hb2
      go_wp2_with fail
      go_ret
      exact ⟨rfl, HB2.out⟩
  · have hb : (len0 : Int) ≤ 320 := by omega
    have hne : a1 ≠ a2 := by omega
    have hne2 : (a1 == a2) = false := by rw [beq_eq_false_iff_ne]; exact hne
    have HNE := Lib.hid hne
    clear hbad hne
    go_enter Try.func5, Try.ntmps5
    go_wp2_with fail
    refine HL.out.mono ?_
    rintro e w1 ⟨rfl, hb1⟩
    have HB1 := Lib.hid hb1
    have HM := Lib.hid (make_any (HH.out.kept hb1))
    clear hb1
    obtain ⟨q, hq⟩ : ∃ q, q = mk L := ⟨_, rfl⟩
    rw [← hq] at HM
    clear hq
    by_cases hq0 : q = 0
    · subst hq0
      have hz : ((0 : Int) != 0) = false := by decide
      go_wp2_with fail
      refine HM.out.mono ?_
      rintro e w2 ⟨p, rfl, hb2, _, hp⟩
      obtain ⟨B, rfl, _, hT⟩ := hp trivial
      have HB2 := Lib.hid (HB1.out.trans (hb2.mono HB1.out.size))
      have HT := Lib.hid hT
      clear hb2 hp hT
      by_cases ha : hasW L a1
      · obtain ⟨ha0, ha1, ha2⟩ := ha
        obtain ⟨s, rfl⟩ := Int.eq_ofNat_of_zero_le ha0
        rw [Int.toNat_natCast] at ha2
        have hok := HT.out.ok s (by omega)
        obtain ⟨n, hn⟩ : ∃ n : Nat, L.getD s 0 = (n : Int) := ⟨(L.getD s 0).toNat, by omega⟩
        have hn0 : 0 < n := by omega
        have hn15 : n ≤ 15 := by omega
        have HWA := Lib.hid (word_yes HT.out s n (by omega) hn0 hn)
        have HN := Lib.hid hn
        have HS := Lib.hid (show s < L.length by omega)
        clear ha1 ha2 hok hn ha0
        by_cases hbw : hasW L a2
        · obtain ⟨hb0, hb1, hb2⟩ := hbw
          obtain ⟨t, rfl⟩ := Int.eq_ofNat_of_zero_le hb0
          rw [Int.toNat_natCast] at hb2
          have hok := HT.out.ok t (by omega)
          obtain ⟨m, hm⟩ : ∃ m : Nat, L.getD t 0 = (m : Int) := ⟨(L.getD t 0).toNat, by omega⟩
          have hm0 : 0 < m := by omega
          have hm15 : m ≤ 15 := by omega
          have HWB := Lib.hid (word_yes HT.out t m (by omega) hm0 hm)
          have hfree := fun (hnm : n ≤ m) => free HS.out (by omega) hn0 HN.out hm (fun e => HNE.out (by rw [e])) hnm
          obtain ⟨v, hv⟩ : ∃ v, v = fw (cn L) n + pl L s := ⟨_, rfl⟩
          obtain ⟨u, hu⟩ : ∃ u, u = fw (cn L) m + pl L t := ⟨_, rfl⟩
          rw [← hv] at HWA hfree
          rw [← hu] at HWB hfree
          have HF := Lib.hid hfree
          clear hb0 hb1 hb2 hok hm hfree hv hu
          by_cases hnm : (m : Int) < (n : Int)
          · go_wp2_with fail
            refine HWA.out.mono ?_
            rintro e w3 ⟨rfl, rfl⟩
            go_wp2_with fail
            refine HWB.out.mono ?_
            rintro e w3 ⟨rfl, rfl⟩
            go_wp2_with fail
            go_ret
            exact ⟨rfl, HB2.out⟩
          · have hnm2 : (n : Int) ≤ (m : Int) := by omega
            have hf := HF.out (by omega)
            obtain ⟨d, hd⟩ : ∃ d, d = m - n := ⟨_, rfl⟩
            have hdi : (m : Int) - (n : Int) = (d : Int) := by omega
            rw [← hd] at hf
            have hf2 : ((u : Int) / 2 ^ d != (v : Int)) = true := by
              rw [bne_iff_ne]
              intro e
              apply hf
              have : ((u / 2 ^ d : Nat) : Int) = (v : Int) := by rw [← e]; push_cast; rfl
              omega
            have hd15 : (d : Int) < 32 := by omega
            clear hnm hf hd
            go_wp2_with fail
            refine HWA.out.mono ?_
            rintro e w3 ⟨rfl, rfl⟩
            go_wp2_with fail
            refine HWB.out.mono ?_
            rintro e w3 ⟨rfl, rfl⟩
            go_wp2_with fail
            go_ret
            exact ⟨rfl, HB2.out⟩
        · have HWB := Lib.hid (word_no HT.out a2 hbw)
          clear hbw
          go_wp2_with fail
          refine HWA.out.mono ?_
          rintro e w3 ⟨rfl, rfl⟩
          go_wp2_with fail
          refine HWB.out.mono ?_
          rintro e w3 ⟨rfl, rfl⟩
          go_wp2_with fail
          go_ret
          exact ⟨rfl, HB2.out⟩
      · have HWA := Lib.hid (word_no HT.out a1 ha)
        have HWB : ∃ W n g : Int, Hid (Calls Try.prog 10 #[.pointer (some ⟨B, 0, none⟩), .int .i64 a2] w2 fun e w' => e = .returned (.tuple #[.int .u32 W, .int .i64 n, .int .i64 g]) ∧ w2 = w') := by
          by_cases hbw : hasW L a2
          · obtain ⟨hb0, hb1, hb2⟩ := hbw
            obtain ⟨t, rfl⟩ := Int.eq_ofNat_of_zero_le hb0
            rw [Int.toNat_natCast] at hb2
            have hok := HT.out.ok t (by omega)
            obtain ⟨m, hm⟩ : ∃ m : Nat, L.getD t 0 = (m : Int) := ⟨(L.getD t 0).toNat, by omega⟩
            exact ⟨_, _, _, Lib.hid (word_yes HT.out t m (by omega) (by omega) hm)⟩
          · exact ⟨_, _, _, Lib.hid (word_no HT.out a2 hbw)⟩
        obtain ⟨W, n, g, HWB⟩ := HWB
        clear ha
        go_wp2_with fail
        refine HWA.out.mono ?_
        rintro e w3 ⟨rfl, rfl⟩
        go_wp2_with fail
        refine HWB.out.mono ?_
        rintro e w3 ⟨rfl, rfl⟩
        go_wp2_with fail
        go_ret
        exact ⟨rfl, HB2.out⟩
    · have hq1 : ((q : Int) != 0) = true := by rw [bne_iff_ne]; omega
      have HQ := Lib.hid hq0
      clear hq0
      go_wp2_with fail
      refine HM.out.mono ?_
      rintro e w2 ⟨p, rfl, hb2, hp, _⟩
      obtain rfl := hp HQ.out
      have HB2 := Lib.hid (HB1.out.trans (hb2.mono HB1.out.size))
      clear hb2 hp
      go_wp2_with fail
      go_ret
      exact ⟨rfl, HB2.out⟩
end Go.Proofs.Ytnplkpgabdeogaa
