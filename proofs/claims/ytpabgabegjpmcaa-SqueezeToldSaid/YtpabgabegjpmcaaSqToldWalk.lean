/- The walk of SqueezeTold: it returns true for all bytes. -/
import Derived.Test.YtpabgabegjpmcaaSqLives
namespace Go.Proofs.Ytpabgabegjpmcaa
open Go.RowKit
set_option linter.unusedVariables false

theorem own_ty {w : World} {base : Nat} {e e' : TypeId} {size : Nat} {v : Value} {n : Nat} {xs : List Value} {T : Nat} {cs : Array Value} {mk : Nat × Nat} (h : w.ownsRow base e size v n xs) (hT : w.heap[T]? = some (.cells cs e' mk)) (hne : e ≠ e') : v.ownBlock ≠ some T := by
  intro hv
  rcases h.2 with ⟨rfl, _⟩ | ⟨g, cap, cur, rfl, _, hg, _⟩
  · simp [Value.ownBlock] at hv
  · simp [Value.ownBlock] at hv
    subst hv
    rw [hg] at hT
    simp at hT
    exact hne hT.2.1
theorem bv_take_succ {b : List Nat} {p : Nat} (h : p < b.length) : bv (b.take p) ++ [.int .u8 ((b.getD p 0 : Nat) : Int)] = bv (b.take (p + 1)) := by
  rw [List.take_add_one, List.getElem?_eq_getElem h, bv_append]
  simp [bv, h]
theorem drop_one {l r : List (Nat × Nat × Nat)} {k : Nat} {x : Nat × Nat × Nat} (h : l.drop k = x :: r) : l.getD k t0 = x ∧ l.drop (k + 1) = r := by
  have h1 : (l.drop k)[0]? = some x := by rw [h]; rfl
  rw [List.getElem?_drop, Nat.add_zero] at h1
  refine ⟨by simp [List.getD_eq_getElem?_getD, h1], ?_⟩
  rw [← List.tail_drop, h]
  rfl
/-- out of a token's place on -/
theorem told_at {b : List Nat} {n k p : Nat} (hn : b.length = n) (hk : k < (toks b).length) (hd : (toks b).drop k = toksFrom b (n - p) p) : p < n ∧ (toks b).getD k t0 = tokAt b p ∧ (toks b).drop (k + 1) = toksFrom b (n - (p + max 1 (tokAt b p).1)) (p + max 1 (tokAt b p).1) := by
  subst hn
  have hp : p < b.length := by
    rcases Nat.lt_or_ge p b.length with g | g
    · exact g
    · rw [show b.length - p = 0 from by omega, toksFrom, List.drop_eq_nil_iff] at hd
      omega
  rw [toks_next hp] at hd
  exact ⟨hp, drop_one hd⟩
theorem told_end {b : List Nat} {n p : Nat} (hn : b.length = n) (hp : p ≤ n) (hd : (toks b).drop (toks b).length = toksFrom b (n - p) p) : p = n := by
  subst hn
  rcases Nat.lt_or_ge p b.length with g | g
  · rw [toks_next g, List.drop_length] at hd
    cases hd
  · omega

set_option maxRecDepth 100000 in
set_option maxHeartbeats 4000000 in
theorem squeezeTold_walk (a0 : Option Addr) (len0 cap0 : Nat) (z0 : List Int) (w : World) (w0 : IsRow .u8 1 w a0 len0 cap0 z0) :
    Calls Try.prog 5 #[.slice a0 len0 cap0] w fun e w' => e = .returned (.bool true) ∧ Below w.heap.size w w' := by
  obtain ⟨xs, hb⟩ := w0.bytes
  obtain ⟨i0, hi, hz0, hz1, hz2⟩ := info_parts info_u8
  have hll := hb.len
  have HL := Lib.hid (lives7_any (w := w))
  have HH := Lib.hid hb
  clear w0 hb
  by_cases hbig : (4096 : Int) < (len0 : Int)
  · go_enter Try.func5, Try.ntmps5
    go_wp2_with fail
    refine HL.out.mono ?_
    rintro e w1 ⟨rfl, hb1⟩
    have HB1 := Lib.hid hb1
    have HL1 := Lib.hid (lives7_any (w := w1))
    clear hb1
    go_wp2_with fail
    refine HL1.out.mono ?_
    rintro e w2 ⟨rfl, hb2⟩
    have HB2 := Lib.hid (HB1.out.trans (hb2.mono HB1.out.size))
    clear hb2
    go_wp2_with fail
    go_ret
    exact ⟨rfl, HB2.out⟩
  · have hbig3 : len0 ≤ 4096 := by omega
    go_enter Try.func5, Try.ntmps5
    go_wp2_with fail
    refine HL.out.mono ?_
    rintro e w1 ⟨rfl, hb1⟩
    have HB1 := Lib.hid hb1
    have HH1 := Lib.hid (HH.out.kept hb1)
    clear hb1
    have HTK := Lib.hid (tokens_any HH1.out (by omega))
    go_wp2_with fail
    refine HTK.out.mono ?_
    rintro e w3 ⟨v3, rfl, ho3, hb3⟩
    obtain ⟨a3, c3, rfl, ht3⟩ := TksAt.ofOwn ho3 rfl
    have HB3 := Lib.hid (HB1.out.trans (hb3.mono HB1.out.size))
    have HH3 := Lib.hid (HH1.out.kept hb3)
    obtain ⟨m, hm⟩ : ∃ m, m = (toks xs).length := ⟨_, rfl⟩
    have hm6 : m ≤ 4096 := by have := toks_le xs; omega
    rw [← hm] at ht3
    rw [← hm]
    have HM := Lib.hid hm
    have HT3 := Lib.hid ht3
    clear ho3 hb3 ht3 hm
    have hcap3 := HT3.out.cap
    have hcm3 := HT3.out.capm
    go_wp2_with fail
    go_loopw [5, 23] (fun s5 s23 wr => ∃ (k p : Nat), k ≤ m ∧ s23 = .int .i64 (k : Int) ∧ p ≤ len0 ∧ Hid ((toks xs).drop k = toksFrom xs (len0 - p) p) ∧ Hid (wr.ownsRow w3.heap.size 5 1 s5 p (bv (xs.take p))) ∧ Hid (Below w3.heap.size w3 wr)) (fun _ s23 _ => m - (intOf s23).toNat)
    case atStart => exact ⟨0, 0, by omega, rfl, by omega, Lib.hid (by rw [Nat.sub_zero, List.drop_zero, toks, hll]), Lib.hid (own_nil_bytes _ _), Lib.hid (Below.refl _ _)⟩
    case round =>
      obtain ⟨k, p, hk, rfl, hp, HD, HO, HB⟩ := hrel
      rename World => wr
      rename Value => v
      by_cases hkm : k < m
      · obtain ⟨hpn, hgk, hdk⟩ := told_at hll (by rw [← HM.out]; exact hkm) HD.out
        have HDK := Lib.hid hdk
        obtain ⟨b1, off, rfl, hlt, hcell⟩ := (HT3.out.kept HB.out).cells (by omega)
        obtain ⟨h1, h2, h3⟩ := hcell k hkm
        rw [hgk] at h1 h2 h3
        have hkmi : (k : Int) < (m : Int) := by omega
        have hk0 : (0 : Int) ≤ (k : Int) := by omega
        have hsay := tokAt_says HH.out.byte (p := p) (by omega)
        clear hcell hgk hdk
        rcases hsay with ⟨ht, hx⟩ | ⟨nl, d, ht, hn3, hn258, hd1, hd2, hdp, hpnl, hlike⟩
        · rw [ht] at h1 h2 h3
          obtain ⟨x, hxe⟩ : ∃ x, x = xs.getD p 0 := ⟨_, rfl⟩
          rw [← hxe] at h3 hx
          have HXE := Lib.hid hxe
          have HTE := Lib.hid ht
          clear hxe ht
          have h1 : wr.cell? ⟨b1, off + k * 3, none⟩ = some (.int .i64 0) := h1
          have h2 : wr.cell? ⟨b1, off + k * 3 + 1, none⟩ = some (.int .i64 0) := h2
          obtain ⟨ob, hob⟩ : ∃ ob, ob = Obj.cells #[.int .i64 0, .int .i64 0, .int .u8 (x : Int)] 33 := ⟨_, rfl⟩
          have hs1 : (wr.alloc ob).heap.size = wr.heap.size + 1 := by show (wr.heap.push _).size = _; exact Array.size_push ..
          have hbt : Below wr.heap.size wr (wr.alloc ob) := (Below.refl _ _).alloc (Nat.le_refl _) _
          have HOT := Lib.hid ((own_below HO.out hbt).alloc (.cells #[.int .u8 (x : Int)] 5))
          have hws := HB.out.size
          have HBT := Lib.hid ((HB.out.trans (hbt.mono hws)).alloc (Nat.le_trans hws hbt.size) (.cells #[.int .u8 (x : Int)] 5))
          have hsrc := one_src (wr.alloc ob) (.int .u8 (x : Int)) 5
          rw [hs1] at hsrc
          rw [hob] at HOT HBT hsrc
          have HSZ := Lib.hid HBT.out.size
          have HSRC := Lib.hid hsrc
          clear hbt hws hs1 hob hsrc
          go_wp2_with (at_builtin; refine wpList_append_own _ rfl (.tmp 30) (.tmp 33) 22 rfl w3.heap.size 5 i0 (.int .u8 0) 1 1 Try.underlying22 hi hz0 hz1 hz2 rfl (by decide) _ _ _ rfl HOT.out ⟨wr.heap.size + 1, 0, none⟩ 1 1 [.int .u8 (x : Int)] rfl rfl HSRC.out (one_oneCell rfl) (by unfold maxLen; omega) (by omega) HSZ.out ?_)
          intro v5 w5 ho5 hg5 _
          have HO5 := Lib.hid (show w5.ownsRow w3.heap.size 5 1 v5 (p + 1) (bv (xs.take (p + 1))) from by rw [← bv_take_succ (by omega), ← HXE.out]; exact ho5)
          have HB5 := Lib.hid (below_own HBT.out HOT.out hg5 (Nat.le_refl _) HSZ.out)
          have HD5 := Lib.hid (show (toks xs).drop (k + 1) = toksFrom xs (len0 - (p + 1)) (p + 1) from by have e := HDK.out; rw [HTE.out] at e; exact e)
          clear ho5 hg5
          go_wp2_with fail
          go_roundw
          case rel => exact ⟨k + 1, p + 1, by omega, by go_num, by omega, HD5, HO5, HB5⟩
          case measure => simp [intOf]; omega
        · rw [ht] at h1 h2 h3
          have HTE := Lib.hid ht
          have HLK := Lib.hid hlike
          clear ht hlike
          have h3 : wr.cell? ⟨b1, off + k * 3 + 2, none⟩ = some (.int .u8 0) := h3
          have ho := HO.out
          have hxl : (xs.take p).length = p := by rw [List.length_take]; omega
          obtain ⟨g, c, rfl, hgb, hgl, hbg⟩ := BytesAt.own ho (fun x hx => HH.out.byte x (List.mem_of_mem_take hx)) (by omega) (by omega)
          have e1 : ¬ ((nl : Int) = 0) := by omega
          have e2 : ¬ ((nl : Int) < 3) := by omega
          have e3 : ¬ ((258 : Int) < (nl : Int)) := by omega
          have e4 : ¬ ((d : Int) < 1) := by omega
          have e5 : ¬ ((32768 : Int) < (d : Int)) := by omega
          have e6 : ¬ ((p : Int) < (d : Int)) := by omega
          have e7 : ¬ ((len0 : Int) < (p : Int)) := by omega
          obtain ⟨wt, hwt⟩ : ∃ wt, wt = wr.alloc (.cells #[.int .i64 (nl : Int), .int .i64 (d : Int), .int .u8 0] 33) := ⟨_, rfl⟩
          have hbt : Below wr.heap.size wr wt := by rw [hwt]; exact (Below.refl _ _).alloc (Nat.le_refl _) _
          have gT : wt.heap[wr.heap.size]? = some (.cells #[.int .i64 (nl : Int), .int .i64 (d : Int), .int .u8 0] 33 (0, 0)) := by rw [hwt]; exact heap_alloc_new _ _
          have lT := (Array.getElem?_eq_some_iff.1 gT).1
          obtain ⟨T, hT⟩ : ∃ T, T = wr.heap.size := ⟨_, rfl⟩
          rw [← hT] at gT lT
          have hws := HB.out.size
          have HGT := Lib.hid gT
          have HOT := Lib.hid (own_below ho hbt)
          have HBT := Lib.hid (HB.out.trans (hbt.mono hws))
          have HWT := Lib.hid hwt
          have HTT := Lib.hid hT
          have hTge : w3.heap.size ≤ T := by omega
          clear ho hgb hgl hbg hbt gT hws hwt hT lT
          go_wp2_with fail
          rw [← HTT.out, ← HWT.out]
          go_loopw [5, 74] (fun s5 s74 wx => ∃ (j y : Nat) (g c : Nat), j ≤ nl ∧ p + j ≤ y ∧ y ≤ p + j ∧ s74 = .int .i64 (j : Int) ∧ s5 = .slice (some ⟨g, 0, none⟩) y c ∧ Hid (wx.ownsRow w3.heap.size 5 1 (.slice (some ⟨g, 0, none⟩) y c) y (bv (xs.take y))) ∧ Hid (Below w3.heap.size w3 wx) ∧ Hid (wx.heap[T]? = some (.cells #[.int .i64 (nl : Int), .int .i64 (d : Int), .int .u8 0] 33 (0, 0)))) (fun _ s74 _ => nl - (intOf s74).toNat)
          case atStart => exact ⟨0, p, g, c, by omega, by omega, by omega, rfl, rfl, HOT, HBT, HGT⟩
          case round =>
            obtain ⟨j, y, g2, c2, hj, hy1, hy2, rfl, rfl, HOX, HBX, HGX⟩ := hrel
            rename World => wx
            by_cases hjn : j < nl
            · have hji : (j : Int) < (nl : Int) := by omega
              have ho := HOX.out
              have hgx := HGX.out
              have d1 := cell_of hgx (i := 1) (u := .int .i64 (d : Int)) rfl
              obtain ⟨q, hq⟩ : ∃ q, y = q + d := ⟨y - d, by omega⟩
              have hqv : IntKind.i64.wrap ((y : Int) - (d : Int)) = (q : Int) := by rw [IntWalk.i64_in _ (by omega)]; omega
              have hqy : q < y := by omega
              obtain ⟨x, hxe⟩ : ∃ x, x = xs.getD y 0 := ⟨_, rfl⟩
              have hcq : wx.cell? ⟨g2, q, none⟩ = some (.int .u8 (x : Int)) := by
                have hlk := HLK.out j hjn
                rw [show p - d + j = q from by omega, show p + j = y from by omega] at hlk
                have h9 := ho.cellAt q (by omega)
                rw [bv_get _ _ (by rw [List.length_take]; omega)] at h9
                rw [hxe, ← hlk, h9]
                simp [hqy]
              have HOT := Lib.hid (ho.alloc (.cells #[.int .u8 (x : Int)] 5))
              have hws := HBX.out.size
              have HBT := Lib.hid (HBX.out.alloc hws (.cells #[.int .u8 (x : Int)] 5))
              have HSRC := Lib.hid (one_src wx (.int .u8 (x : Int)) 5)
              have HSZ := Lib.hid HBT.out.size
              have HXE := Lib.hid hxe
              have hlx := (Array.getElem?_eq_some_iff.1 hgx).1
              have hax : Below wx.heap.size wx (wx.alloc (.cells #[.int .u8 (x : Int)] 5)) := (Below.refl _ _).alloc (Nat.le_refl _) _
              have HGA := Lib.hid ((hax.block T hlx).trans hgx)
              have HLA := Lib.hid (Nat.lt_of_lt_of_le hlx hax.size)
              have hqi : (0 : Int) ≤ (q : Int) := by omega
              have hqy2 : (q : Int) < (y : Int) := by omega
              clear ho hgx hq hxe hws hlx hax
              go_wp2_with (at_builtin; refine wpList_append_own _ rfl (.tmp 76) (.tmp 85) 22 rfl w3.heap.size 5 i0 (.int .u8 0) 1 1 Try.underlying22 hi hz0 hz1 hz2 rfl (by decide) _ _ _ rfl HOT.out ⟨wx.heap.size, 0, none⟩ 1 1 [.int .u8 (x : Int)] rfl rfl HSRC.out (one_oneCell rfl) (by unfold maxLen; omega) (by omega) HSZ.out ?_)
              intro v5 w5 ho5 hg5 _
              have HO5 : w5.ownsRow w3.heap.size 5 1 v5 (y + 1) (bv (xs.take (y + 1))) := by rw [← bv_take_succ (by omega), ← HXE.out]; exact ho5
              have HB5 := Lib.hid (below_own HBT.out HOT.out hg5 (Nat.le_refl _) HSZ.out)
              have HG5 := Lib.hid ((hg5.block T HLA.out (Ne.symm (own_ty HOT.out HGA.out (by decide)))).trans HGA.out)
              obtain ⟨g5, c5, rfl, _, _, _⟩ := BytesAt.own HO5 (fun x hx => HH.out.byte x (List.mem_of_mem_take hx)) (by omega) (by omega)
              have HO5 := Lib.hid HO5
              clear ho5 hg5
              go_wp2_with fail
              go_roundw
              case rel => exact ⟨j + 1, y + 1, g5, c5, by omega, by omega, by omega, by go_num, rfl, HO5, HB5, HG5⟩
              case measure => simp [intOf]; omega
            · obtain rfl : j = nl := by omega
              have HD5 := Lib.hid (show (toks xs).drop (k + 1) = toksFrom xs (len0 - y) y from by have e := HDK.out; rw [HTE.out] at e; rw [show max 1 j = j from by omega] at e; rw [show y = p + j from by omega]; exact e)
              have hjj : ¬ ((j : Int) < (j : Int)) := by omega
              go_wp2_with fail
              go_roundw
              case rel => exact ⟨k + 1, y, by omega, by go_num, by omega, HD5, HOX, HBX⟩
              case measure => simp [intOf]; omega
      · obtain rfl : k = m := by omega
        obtain rfl : p = len0 := told_end hll hp (by rw [← HM.out]; exact HD.out)
        have ho := HO.out
        rw [List.take_of_length_le (by omega)] at ho
        obtain ⟨a5, c5, rfl, hb5, _⟩ := BytesAt.ofOwn ho HH.out.byte (by omega)
        have hs1 := same_any hb5 (HH3.out.kept HB.out)
        rw [beq_self_eq_true] at hs1
        have HS1 := Lib.hid hs1
        clear hkm ho hb5 hs1
        go_wp2_with fail
        refine HS1.out.mono ?_
        rintro e w5 ⟨rfl, rfl⟩
        go_wp2_with fail
        go_ret
        exact ⟨rfl, HB3.out.trans (HB.out.mono HB3.out.size)⟩
end Go.Proofs.Ytpabgabegjpmcaa
