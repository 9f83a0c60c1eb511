/- The walk of DeltaBack: it returns true for all rows. -/
import Derived.Test.YtcnkhliplcbfkaaDeltaDec
namespace Go.Proofs.Ytcnkhliplcbfkaa
open Go.RowKit NumsPlain DeltaPlain
set_option linter.unusedVariables false

theorem chk_two {l : List Int} {way : Int} (h0 : 0 ≤ way) (h2 : way ≤ 2) (hl : l.length ≤ 2048) (h : chk l way ≠ 0) : chk l way = 2 := by
  unfold chk at h ⊢
  rw [if_neg (by rw [(known_iff way).2 ⟨h0, h2⟩]; simp), if_neg (by omega)] at h ⊢
  split at h
  · exact absurd rfl h
  · rename_i hh; rw [if_neg hh]

set_option maxRecDepth 100000 in
set_option maxHeartbeats 4000000 in
theorem deltaBack_walk (a0 : Option Addr) (len0 cap0 : Nat) (z0 : List Int) (w : World) (w0 : IsRow .i64 8 w a0 len0 cap0 z0) :
    Calls Try.prog 5 #[.slice a0 len0 cap0] w fun e w' => e = .returned (.bool true) ∧ Below w.heap.size w w' := by
  have hz := w0.ints
  obtain ⟨zs, hzs⟩ : ∃ zs, zs = z0.take len0 := ⟨_, rfl⟩
  rw [← hzs] at hz
  have HL := Lib.hid (lives4_any w)
  have HH := Lib.hid hz
  clear w0 hz hzs
  by_cases hbig : (2048 : Int) < (len0 : Int)
  · go_enter Try.func5, Try.ntmps5
    go_wp2_with fail
    refine HL.out.mono ?_
    rintro e w1 ⟨rfl, hb1⟩
    have HB1 := Lib.hid hb1
    have HL1 := Lib.hid (lives4_any w1)
    clear hb1
    go_wp2_with fail
    refine HL1.out.mono ?_
    rintro e w2 ⟨rfl, hb2⟩
    have HB2 := Lib.hid (HB1.out.trans (hb2.mono HB1.out.size))
    clear hb2
    go_wp2_with fail
    go_ret
    exact ⟨rfl, HB2.out⟩
  · have hbig2 : (len0 : Int) ≤ 2048 := by omega
    clear hbig
    go_enter Try.func5, Try.ntmps5
    go_wp2_with fail
    refine HL.out.mono ?_
    rintro e w1 ⟨rfl, hb1⟩
    have HB1 := Lib.hid hb1
    clear hb1
    go_wp2_with fail
    go_loopw [3] (fun s3 wr => ∃ way : Int, 0 ≤ way ∧ way ≤ 3 ∧ s3 = .int .i64 way ∧ Hid (Below w.heap.size w wr)) (fun s3 _ => (3 - intOf s3).toNat)
    case atStart => exact ⟨0, by omega, by omega, rfl, HB1⟩
    case round =>
      obtain ⟨way, h0, h3, rfl, HB⟩ := hrel
      rename World => wr
      by_cases hw : way ≤ 2
      · have HE := Lib.hid (encode_any (HH.out.kept HB.out) way)
        by_cases hc : chk zs way = 0
        · obtain ⟨_, _, hl, hb⟩ := chk_ok hc
          have hel : (enc zs way).length ≤ 100000 := by
            have h1 := pu_ten (n := zs.length) (by omega)
            have h2 := flat_len (tl_bound hb way)
            rw [tl_length] at h2
            simp only [enc, List.length_append]; omega
          rw [hc, eb_ok hc] at HE
          have hdb := dec_back hc []
          rw [List.append_nil, if_pos rfl] at hdb
          have HDB := Lib.hid hdb
          have HEL := Lib.hid hel
          have hz : ((0 : Int) != 0) = false := by decide
          clear hl hb hel hdb hc
          go_wp2_with fail
          refine HE.out.mono ?_
          rintro e w2 ⟨a2, n2, c2, rfl, _, hy2, hb2⟩
          have HB2 := Lib.hid (HB.out.trans (hb2.mono HB.out.size))
          have hn2 : n2 ≤ 100000 := by rw [← hy2.len]; exact HEL.out
          have HDE := Lib.hid (decode_any hy2 hn2 way)
          rw [HDB.out] at HDE
          clear hy2 hb2
          go_wp2_with fail
          refine HDE.out.mono ?_
          rintro e w3 ⟨a3, n3, c3, rfl, hi3, hb3⟩
          have HB3 := Lib.hid (HB2.out.trans (hb3.mono HB2.out.size))
          have HS := Lib.hid (same64_any (HH.out.kept HB3.out) hi3)
          rw [beq_self_eq_true] at HS
          clear hi3 hb3
          go_wp2_with fail
          refine HS.out.mono ?_
          rintro e w4 ⟨rfl, m, rfl⟩
          go_wp2_with fail
          go_roundw
          case rel => exact ⟨way + 1, by omega, by omega, rfl, Lib.hid (HB3.out.trans ⟨rfl, rfl, rfl, Nat.le_refl _, fun _ _ => rfl⟩)⟩
          case measure => simp [intOf]; omega
        · have h2 := chk_two h0 hw (by rw [HH.out.len]; omega) hc
          rw [h2] at HE
          clear hc h2
          go_wp2_with fail
          refine HE.out.mono ?_
          rintro e w2 ⟨a2, n2, c2, rfl, _, hy2, hb2⟩
          have HB2 := Lib.hid (HB.out.trans (hb2.mono HB.out.size))
          clear hy2 hb2
          go_wp2_with fail
          go_ret
          exact ⟨rfl, HB2.out⟩
      · go_wp2_with fail
        go_ret
        exact ⟨rfl, HB.out⟩
end Go.Proofs.Ytcnkhliplcbfkaa
