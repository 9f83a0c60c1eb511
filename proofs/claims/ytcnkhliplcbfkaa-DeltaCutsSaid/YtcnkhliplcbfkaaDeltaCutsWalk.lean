/- The walk of DeltaCuts: it returns true for all rows, ways and cuts. -/
import Derived.Test.YtcnkhliplcbfkaaDeltaDec
namespace Go.Proofs.Ytcnkhliplcbfkaa
open Go.RowKit NumsPlain DeltaPlain
set_option linter.unusedVariables false

set_option maxRecDepth 100000 in
set_option maxHeartbeats 4000000 in
theorem deltaCuts_walk (a0 : Option Addr) (len0 cap0 : Nat) (z0 : List Int) (a1 a2 : Int) (w : World) (w0 : IsRow .i64 8 w a0 len0 cap0 z0) (w1 : (Lit.int .i64 a1).wf = true) (w2 : (Lit.int .i64 a2).wf = true) :
    Calls Try.prog 8 #[.slice a0 len0 cap0, .int .i64 a1, .int .i64 a2] w fun e w' => e = .returned (.bool true) ∧ Below w.heap.size w w' := by
  obtain ⟨i0, hi, hz0, hz1, hz2⟩ := info_parts info_u8
  have hz := w0.ints
  obtain ⟨zs, hzs⟩ : ∃ zs, zs = z0.take len0 := ⟨_, rfl⟩
  rw [← hzs] at hz
  have HL := Lib.hid (lives4_any w)
  have HH := Lib.hid hz
  clear w0 w1 w2 hz hzs
  by_cases hbig : (2048 : Int) < (len0 : Int)
  · go_enter Try.func8, Try.ntmps8
    go_wp2_with fail
    refine HL.out.mono ?_
    rintro e w1 ⟨rfl, hb1⟩
    have HB1 := Lib.hid hb1
    have HL1 := Lib.hid (lives4_any w1)
    clear hb1
    go_wp2_with fail
    refine HL1.out.mono ?_
    rintro e w2 ⟨rfl, hb2⟩
    have HB2 := Lib.hid (HB1.out.trans (hb2.mono HB1.out.size))
    clear hb2
    go_wp2_with fail
    go_ret
    exact ⟨rfl, HB2.out⟩
  · have hbig2 : (len0 : Int) ≤ 2048 := by omega
    clear hbig
    go_enter Try.func8, Try.ntmps8
    go_wp2_with fail
    refine HL.out.mono ?_
    rintro e w1 ⟨rfl, hb1⟩
    have HB1 := Lib.hid hb1
    have HE := Lib.hid (encode_any (HH.out.kept hb1) a1)
    clear hb1
    by_cases hc : chk zs a1 = 0
    · obtain ⟨_, _, hl, hb⟩ := chk_ok hc
      have hel : (enc zs a1).length ≤ 90000 := by
        have h1 := pu_ten (n := zs.length) (by omega)
        have h2 := flat_len (tl_bound hb a1)
        rw [tl_length] at h2
        simp only [enc, List.length_append]; omega
      rw [hc, eb_ok hc] at HE
      have hep := enc_pos zs a1
      obtain ⟨E, hE⟩ : ∃ E, E = enc zs a1 := ⟨_, rfl⟩
      have hlong := dec_back hc [0]
      rw [if_neg (by simp)] at hlong
      have hshort := fun (m : Nat) (hm : m < (enc zs a1).length) => dec_short hc hm
      rw [← hE] at HE hel hep hlong hshort
      have HLO := Lib.hid hlong
      have HSH := Lib.hid hshort
      have hz : ((0 : Int) != 0) = false := by decide
      clear hl hb hlong hshort hE hc
      go_wp2_with fail
      refine HE.out.mono ?_
      rintro e w2 ⟨b2, n2, c2, rfl, ho2, hy2, hb2⟩
      have hn2 := hy2.len
      have HY2 := Lib.hid hy2
      have HO2 := Lib.hid ho2
      have HB2 := Lib.hid (HB1.out.trans (hb2.mono HB1.out.size))
      have hcap := hy2.cap
      have hcapm := hy2.capm
      have hz12 := hb2.size
      clear hy2 ho2 hb2
      obtain ⟨m, hm, hmn⟩ : ∃ m : Nat, wrap64 ((IntKind.u64.wrap a2).tmod (n2 : Int)) = (m : Int) ∧ m < n2 := by
        have h0 : 0 ≤ IntKind.u64.wrap a2 := by rw [IntKind.wrap_u64]; omega
        have h2 : (IntKind.u64.wrap a2).tmod (n2 : Int) = (IntKind.u64.wrap a2) % (n2 : Int) := Int.tmod_eq_emod_of_nonneg h0
        have h3 := Int.emod_lt_of_pos (IntKind.u64.wrap a2) (show (0 : Int) < (n2 : Int) by omega)
        have h4 := Int.emod_nonneg (IntKind.u64.wrap a2) (show ((n2 : Nat) : Int) ≠ 0 by omega)
        refine ⟨(IntKind.u64.wrap a2 % (n2 : Int)).toNat, ?_, by omega⟩
        rw [h2, IntWalk.wrap64_in _ (by omega)]
        omega
      have hb1 : n2 ≤ 90000 := by omega
      have hb3 : 1 ≤ n2 := by omega
      have hnz : ((n2 : Int) == 0) = false := by rw [beq_eq_false_iff_ne]; omega
      have HM := Lib.hid hm
      have HN2 := Lib.hid hn2
      have HD := Lib.hid (decode_any (HY2.out.upto m (by omega)) (by omega) a1)
      rw [HSH.out m (by rw [HN2.out]; exact hmn)] at HD
      have hmc : (m : Int) ≤ (c2 : Int) := by omega
      clear hn2 hel hep
      go_wp2_with fail
      refine HD.out.mono ?_
      rintro e w3 ⟨a3, n3, c3, rfl, hi3, hb4⟩
      obtain rfl : n3 = 0 := hi3.len.symm
      have HB3 := Lib.hid (HB2.out.trans (hb4.mono HB2.out.size))
      have hgo := own_below HO2.out hb4
      have hz13 : w1.heap.size ≤ w3.heap.size := Nat.le_trans hz12 hb4.size
      clear hi3 hb4 hm hmc
      go_wp2_with (at_builtin; refine wpList_append_own _ rfl (.tmp 47) (.tmp 48) 27 rfl w1.heap.size 5 i0 (.int .u8 0) 1 1 Try.underlying27 hi hz0 hz1 hz2 rfl (by decide) _ _ _ rfl (hgo.alloc _) ⟨w3.heap.size, 0, none⟩ 1 1 [.int .u8 0] rfl rfl (one_src _ _ _) (one_oneCell rfl) (by unfold maxLen; omega) (by omega) (by simp; omega) ?_)
      intro v4 w4 hown4 hg4 _
      have ho4 : w4.ownsRow w1.heap.size 5 1 v4 (n2 + 1) (bv (E ++ [0])) := by rw [bv_append]; exact hown4
      have hEb : ∀ x ∈ E ++ [0], x < 256 := by
        intro x hx
        rcases List.mem_append.1 hx with g | g
        · exact HY2.out.byte x g
        · simp at g; omega
      obtain ⟨a4, c4, rfl, hy4, _⟩ := BytesAt.ofOwn ho4 hEb (by omega)
      have HB4 := Lib.hid ((HB3.out.alloc HB3.out.size _).grown hg4 (by have := HB3.out.size; simp; omega) (fun j hj => Nat.le_trans HB1.out.size (hgo.lt j hj).1))
      have HD4 := Lib.hid (decode_any hy4 (by omega) a1)
      rw [HLO.out] at HD4
      clear hown4 hg4 hgo ho4 hEb hy4
      go_wp2_with fail
      refine HD4.out.mono ?_
      rintro e w5 ⟨a5, n5, c5, rfl, hi5, hb5⟩
      obtain rfl : n5 = 0 := hi5.len.symm
      have HB5 := Lib.hid (HB4.out.trans (hb5.mono HB4.out.size))
      clear hi5 hb5
      go_wp2_with fail
      go_ret
      exact ⟨rfl, HB5.out⟩
    · have hc1 : ((chk zs a1 : Nat) : Int) ≠ 0 := by omega
      obtain ⟨q, hq⟩ : ∃ q, q = chk zs a1 := ⟨_, rfl⟩
      have heb := eb_no hc
      rw [← hq] at HE hc1
      have hq1 : ((q : Int) != 0) = true := by rw [bne_iff_ne]; exact hc1
      rw [heb] at HE
      clear hc hc1 hq heb
      go_wp2_with fail
      refine HE.out.mono ?_
      rintro e w2 ⟨b2, n2, c2, rfl, ho2, hy2, hb2⟩
      obtain rfl : n2 = 0 := hy2.len.symm
      have HB2 := Lib.hid (HB1.out.trans (hb2.mono HB1.out.size))
      clear hy2 ho2 hb2
      go_wp2_with fail
      go_ret
      exact ⟨rfl, HB2.out⟩
end Go.Proofs.Ytcnkhliplcbfkaa
