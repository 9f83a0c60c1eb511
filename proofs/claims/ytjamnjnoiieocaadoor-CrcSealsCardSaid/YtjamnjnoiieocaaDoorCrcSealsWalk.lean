/- The walk of CrcSeals, given what the table holds: it returns true for all bytes. -/
import Derived.Test.YtjamnjnoiieocaaDoorCrcBackWalk
import Derived.Test.YtjamnjnoiieocaaDoorCrcRef
namespace Go.Proofs.YtjamnjnoiieocaaDoor
open Go.RowKit CrcPlain
set_option linter.unusedVariables false

theorem op_len (xs : List Nat) : (op xs).1.length ≤ xs.length := by
  unfold op
  split
  · simp
  · split
    · simp
    · simp

set_option maxRecDepth 100000 in
set_option maxHeartbeats 4000000 in
theorem crcSeals_walk (a0 : Option Addr) (len0 cap0 : Nat) (z0 : List Int) (w : World) (hT : Table w) (w0 : IsRow .u8 1 w a0 len0 cap0 z0) :
    Calls Tryd.prog 4 #[.slice a0 len0 cap0] w fun e w' => e = .returned (.bool true) ∧ Below w.heap.size w w' := by
  obtain ⟨xs, hb⟩ := w0.bytes
  obtain ⟨i0, hi, hz0, hz1, hz2⟩ := info_parts info_u8
  have HL := Lib.hid (lives_any hT)
  have HH := Lib.hid hb
  have HT := Lib.hid hT
  clear w0 hb hT
  by_cases hbig : (4096 : Int) < (len0 : Int)
  · go_enter Tryd.func4, Tryd.ntmps4
    go_wp2_with fail
    refine HL.out.mono ?_
    rintro e w1 ⟨rfl, hb1⟩
    have HB1 := Lib.hid hb1
    have HL1 := Lib.hid (lives_any (HT.out.below hb1))
    clear hb1
    go_wp2_with fail
    refine HL1.out.mono ?_
    rintro e w2 ⟨rfl, hb2⟩
    have HB2 := Lib.hid (HB1.out.trans (hb2.mono HB1.out.size))
    clear hb2
    go_wp2_with fail
    go_ret
    exact ⟨rfl, HB2.out⟩
  · have hbig2 : (len0 : Int) ≤ 4096 := by omega
    have hbig3 : len0 ≤ 4096 := by omega
    clear hbig
    go_enter Tryd.func4, Tryd.ntmps4
    go_wp2_with fail
    refine HL.out.mono ?_
    rintro e w1 ⟨rfl, hb1⟩
    have HB1 := Lib.hid hb1
    have HH1 := Lib.hid (HH.out.kept hb1)
    clear hb1
    go_wp2_with fail
    refine (twin HH1.out).mono ?_
    rintro e w2 ⟨g2, k2, rfl, _, _, _, hy2, hb2⟩
    have HB2 := Lib.hid (HB1.out.trans (hb2.mono HB1.out.size))
    have HY2 := Lib.hid hy2
    have HH2 := Lib.hid (HH1.out.kept hb2)
    clear hy2 hb2
    go_wp2_with fail
    refine (seal_any (HT.out.below HB2.out) HY2.out (by omega)).mono ?_
    rintro e w3 ⟨a3, c3, rfl, hs3, hb3, _, ho3⟩
    have HO3 := Lib.hid ho3
    have HS3 := Lib.hid hs3
    have HC3 := Lib.hid hb3
    have HB3 := Lib.hid (HB2.out.trans (hb3.mono HB2.out.size))
    clear ho3 hs3 hb3
    go_wp2_with fail
    refine (open_any (HT.out.below HB3.out) (HY2.out.kept HC3.out) (by omega)).mono ?_
    rintro e w4 ⟨a4, m4, c4, rfl, hx4, hb4, ho4⟩
    have HO4 := Lib.hid ho4
    have HX4 := Lib.hid hx4
    have HO34 := Lib.hid (own_below HO3.out hb4)
    have HS34 := Lib.hid (HS3.out.kept hb4)
    have HC4 := Lib.hid (HC3.out.trans (hb4.mono HC3.out.size))
    have HB4 := Lib.hid (HB3.out.trans (hb4.mono HB3.out.size))
    have z4 := hb4.size
    clear ho4 hx4 hb4
    go_wp2_with fail
    refine (ropen_any (HH.out.kept HB4.out) (by omega)).mono ?_
    rintro e w5 ⟨a5, m5, c5, rfl, hx5, hb5⟩
    have HX5 := Lib.hid hx5
    have HX45 := Lib.hid (HX4.out.kept hb5)
    have HO45 := Lib.hid (own_below HO4.out hb5)
    have HO35 := Lib.hid (own_below HO34.out hb5)
    have HS35 := Lib.hid (HS34.out.kept hb5)
    have HC5 := Lib.hid (HC4.out.trans (hb5.mono HC4.out.size))
    have HB5 := Lib.hid (HB4.out.trans (hb5.mono HB4.out.size))
    have z5 := hb5.size
    clear hx5 hb5
    go_wp2_with fail
    refine (rseal_any (HH.out.kept HB5.out) (by omega)).mono ?_
    rintro e w6 ⟨a6, c6, rfl, hs6, hb6⟩
    have HS6 := Lib.hid hs6
    have HX56 := Lib.hid (HX5.out.kept hb6)
    have HX46 := Lib.hid (HX45.out.kept hb6)
    have HO46 := Lib.hid (own_below HO45.out hb6)
    have HO36 := Lib.hid (own_below HO35.out hb6)
    have HS36 := Lib.hid (HS35.out.kept hb6)
    have HC6 := Lib.hid (HC5.out.trans (hb6.mono HC5.out.size))
    have HB6 := Lib.hid (HB5.out.trans (hb6.mono HB5.out.size))
    have z6 := hb6.size
    clear hs6 hb6
    have hs1 := Lib.hid (same_any HS36.out HS6.out)
    rw [beq_self_eq_true] at hs1
    have hs2 := Lib.hid (same_any HX46.out HX56.out)
    rw [beq_self_eq_true] at hs2
    go_wp2_with fail
    refine hs1.out.mono ?_
    rintro e w7 ⟨rfl, rfl⟩
    go_wp2_with fail
    refine hs2.out.mono ?_
    rintro e w7 ⟨rfl, rfl⟩
    have hgo3 := HO36.out
    have hm4 : m4 ≤ 4096 := by
      have h1 := HX46.out.len
      have h2 := op_len xs
      have h3 := HH.out.len
      omega
    have hB6 := HC6.out.size
    have hgo4 := HO46.out
    have hz36 : w3.heap.size ≤ w6.heap.size := Nat.le_trans z4 (Nat.le_trans z5 z6)
    have hz37 : w3.heap.size ≤ w6.heap.size + 1 := by omega
    go_wp2_with (at_builtin; refine wpList_append_own _ rfl (.tmp 47) (.tmp 48) 24 rfl w2.heap.size 5 i0 (.int .u8 0) 1 1 Tryd.underlying24 hi hz0 hz1 hz2 rfl (by decide) _ _ _ rfl (hgo3.alloc _) ⟨w6.heap.size, 0, none⟩ 1 1 [.int .u8 1] rfl rfl (one_src _ _ _) (one_oneCell rfl) (by unfold maxLen; omega) (by omega) (by simp; omega) ?_)
    intro v7 w7 ho7 hg7 _
    have HO47 := Lib.hid (own_other (hgo4.alloc (.cells #[.int .u8 1] 5)) hg7 HO3.out (Nat.le_refl _))
    have HC7 := Lib.hid ((HC6.out.alloc hB6 _).grown hg7 (by simp; omega) (fun k hk => ((hgo3.alloc (.cells #[.int .u8 1] 5)).lt k hk).1))
    have hz7 : w3.heap.size ≤ w7.heap.size := by have := hg7.size; simp at this; omega
    have hgo5 := HO47.out
    have hB7 := HC7.out.size
    clear ho7 hg7 hgo3 hgo4
    go_wp2_with (at_builtin; refine wpList_append_own _ rfl (.tmp 50) (.tmp 51) 24 rfl w3.heap.size 5 i0 (.int .u8 0) 1 1 Tryd.underlying24 hi hz0 hz1 hz2 rfl (by decide) _ _ _ rfl (hgo5.alloc _) ⟨w7.heap.size, 0, none⟩ 1 1 [.int .u8 1] rfl rfl (one_src _ _ _) (one_oneCell rfl) (by unfold maxLen; omega) (by omega) (by simp; omega) ?_)
    intro v8 w8 ho8 hg8 _
    have HC8 := Lib.hid ((HC7.out.alloc hB7 _).grown hg8 (by simp; omega) (fun k hk => Nat.le_trans HC3.out.size ((hgo5.alloc (.cells #[.int .u8 1] 5)).lt k hk).1))
    have HB8 := Lib.hid (HB2.out.trans (HC8.out.mono HB2.out.size))
    clear ho8 hg8 hgo5
    have hs3 := Lib.hid (same_any (HY2.out.kept HC8.out) (HH.out.kept HB8.out))
    rw [beq_self_eq_true] at hs3
    go_wp2_with fail
    refine hs3.out.mono ?_
    rintro e w9 ⟨rfl, rfl⟩
    go_wp2_with fail
    go_ret
    exact ⟨rfl, HB8.out⟩
end Go.Proofs.YtjamnjnoiieocaaDoor
