/- The walk of DeltaTurns: it returns true for all rows and ways. -/
import Derived.Test.YtcnkhliplcbfkaaDeltaRef3
namespace Go.Proofs.Ytcnkhliplcbfkaa
open Go.RowKit NumsPlain DeltaPlain
set_option linter.unusedVariables false

theorem IntsAt.drewN {k : IntKind} {w : World} {a : Option Addr} {n c : Nat} {zs : List Int} (h : IntsAt k w a n c zs) (m : Nat) : IntsAt k (w.drewN m) a n c zs := h.kept ⟨rfl, rfl, rfl, Nat.le_refl _, fun _ _ => rfl⟩
theorem below_drewN' {B : Nat} {w w' : World} (h : Below B w w') (m : Nat) : Below B w (w'.drewN m) := h.trans ⟨rfl, rfl, rfl, Nat.le_refl _, fun _ _ => rfl⟩

set_option maxRecDepth 100000 in
set_option maxHeartbeats 4000000 in
theorem deltaTurns_walk (a0 : Option Addr) (len0 cap0 : Nat) (z0 : List Int) (a1 : Int) (w : World) (w0 : IsRow .i64 8 w a0 len0 cap0 z0) (w1 : (Lit.int .i64 a1).wf = true) :
    Calls Try.prog 3 #[.slice a0 len0 cap0, .int .i64 a1] w fun e w' => e = .returned (.bool true) ∧ Below w.heap.size w w' := by
  have hz := w0.ints
  obtain ⟨zs, hzs⟩ : ∃ zs, zs = z0.take len0 := ⟨_, rfl⟩
  rw [← hzs] at hz
  have HL := Lib.hid (lives4_any w)
  have HH := Lib.hid hz
  clear w0 w1 hz hzs
  by_cases hbig : (2100 : Int) < (len0 : Int)
  · go_enter Try.func3, Try.ntmps3
    go_wp2_with fail
    refine HL.out.mono ?_
    rintro e w1 ⟨rfl, hb1⟩
    have HB1 := Lib.hid hb1
    have HL1 := Lib.hid (lives4_any w1)
    clear hb1
    go_wp2_with fail
    refine HL1.out.mono ?_
    rintro e w2 ⟨rfl, hb2⟩
    have HB2 := Lib.hid (HB1.out.trans (hb2.mono HB1.out.size))
    clear hb2
    go_wp2_with fail
    go_ret
    exact ⟨rfl, HB2.out⟩
  · have hbig2 : (len0 : Int) ≤ 2100 := by omega
    have hbig3 : len0 ≤ 2100 := by omega
    clear hbig
    go_enter Try.func3, Try.ntmps3
    go_wp2_with fail
    refine HL.out.mono ?_
    rintro e w1 ⟨rfl, hb1⟩
    have HB1 := Lib.hid hb1
    have HH1 := Lib.hid (HH.out.kept hb1)
    have hown0 := World.ownsRow_lit (base := w1.heap.size) (e := 2) (size := 1) w1 #[] 0 (Nat.le_refl _) (by unfold maxLen; omega) rfl
    have HA := Lib.hid (HH1.out.alloc (.cells #[] 2))
    clear hb1
    go_wp2_with (at_builtin; refine wpList_append_ints Try.underlying22 info_i64 rfl (.tmp 19) (.tmp 20) rfl w1.heap.size _ _ [] rfl hown0 _ _ _ _ rfl HA.out (by omega) (by omega) (by simp) ?_)
    intro v2 w2 hown2 hg2
    have HB12 := Lib.hid (show Below w1.heap.size w1 w2 from ((Below.refl _ _).alloc (Nat.le_refl _) _).grown hg2 (by simp) (fun k hk => by simp [Value.ownBlock] at hk; omega))
    have ho2 : w2.ownsRow w1.heap.size 2 1 v2 len0 (iv .i64 zs) := by simpa using hown2
    obtain ⟨a2, c2, rfl, hi2, _⟩ := IntsAt.ofOwn ho2 HH.out.wf
    have HI2 := Lib.hid hi2
    have HB2 := Lib.hid (HB1.out.trans (HB12.out.mono HB1.out.size))
    clear hown2 hg2 hown0 ho2 hi2
    have HT := Lib.hid (turn_any HI2.out a1)
    obtain ⟨q, hq⟩ : ∃ q, q = chk zs a1 := ⟨_, rfl⟩
    rw [← hq] at HT
    have HQ := Lib.hid hq
    clear hq
    go_wp2_with fail
    refine HT.out.mono ?_
    rintro e w3 ⟨a3, n3, c3, rfl, hi3, hb3⟩
    have HI3 := Lib.hid hi3
    have HI23 := Lib.hid (HI2.out.kept hb3)
    have HB3 := Lib.hid (HB2.out.trans (hb3.mono HB2.out.size))
    have HE := Lib.hid (encode_any HI23.out a1)
    rw [← HQ.out] at HE
    clear hi3 hb3
    go_wp2_with fail
    refine HE.out.mono ?_
    rintro e w4 ⟨a4, n4, c4, rfl, _, hy4, hb4⟩
    have HY4 := Lib.hid hy4
    have HI34 := Lib.hid (HI3.out.kept hb4)
    have HI24 := Lib.hid (HI23.out.kept hb4)
    have HB4 := Lib.hid (HB3.out.trans (hb4.mono HB3.out.size))
    clear hy4 hb4
    have HC := Lib.hid (rcheck_any (HH.out.kept HB4.out) a1)
    rw [← HQ.out] at HC
    have HS := Lib.hid (same64_any HI24.out (HH.out.kept HB4.out))
    rw [beq_self_eq_true] at HS
    have hqq : ((q : Int) != (q : Int)) = false := by simp
    go_wp2_with fail
    refine HC.out.mono ?_
    rintro e w5 ⟨rfl, rfl⟩
    go_wp2_with fail
    refine HS.out.mono ?_
    rintro e w5 ⟨rfl, m, rfl⟩
    by_cases hq0 : q = 0
    · have hce : chk zs a1 = 0 := by rw [← HQ.out, hq0]
      subst hq0
      have HCE := Lib.hid hce
      have HB5 := Lib.hid (below_drewN' HB4.out m)
      have HRT := Lib.hid (rturn_any (HH.out.kept HB5.out) a1 hce)
      clear hce
      go_wp2_with fail
      refine HRT.out.mono ?_
      rintro e w6 ⟨a6, c6, rfl, _, hi6, hb6⟩
      have HB6 := Lib.hid (HB5.out.trans (hb6.mono HB5.out.size))
      have h3 := (HI34.out.drewN m).kept hb6
      rw [tu_ok HCE.out] at h3
      have HS6 := Lib.hid (same64_any h3 hi6)
      rw [beq_self_eq_true] at HS6
      have HY6 := Lib.hid ((HY4.out.drewN m).kept hb6)
      clear hi6 hb6 h3
      go_wp2_with fail
      refine HS6.out.mono ?_
      rintro e w7 ⟨rfl, m7, rfl⟩
      have HB7 := Lib.hid (below_drewN' HB6.out m7)
      have HRE := Lib.hid (rencode_any (HH.out.kept HB7.out) a1 HCE.out)
      go_wp2_with fail
      refine HRE.out.mono ?_
      rintro e w8 ⟨a8, n8, c8, rfl, hy8, hb8⟩
      have HB8 := Lib.hid (HB7.out.trans (hb8.mono HB7.out.size))
      have h4 := (HY6.out.drewN m7).kept hb8
      rw [eb_ok HCE.out] at h4
      have HS8 := Lib.hid (same_any h4 hy8)
      rw [beq_self_eq_true] at HS8
      clear hy8 hb8 h4
      go_wp2_with fail
      refine HS8.out.mono ?_
      rintro e w9 ⟨rfl, rfl⟩
      go_wp2_with fail
      go_ret
      exact ⟨rfl, HB8.out⟩
    · have hce : chk zs a1 ≠ 0 := by rw [← HQ.out]; exact hq0
      have hq1 : ((q : Int) != 0) = true := by rw [bne_iff_ne]; omega
      have h3 := HI34.out.len
      rw [tu_no hce] at h3
      have h4 := HY4.out.len
      rw [eb_no hce] at h4
      obtain rfl : n3 = 0 := by simpa using h3.symm
      obtain rfl : n4 = 0 := by simpa using h4.symm
      have HB5 := Lib.hid (below_drewN' HB4.out m)
      clear hce hq0 h3 h4
      go_wp2_with fail
      go_ret
      exact ⟨rfl, HB5.out⟩
end Go.Proofs.Ytcnkhliplcbfkaa
