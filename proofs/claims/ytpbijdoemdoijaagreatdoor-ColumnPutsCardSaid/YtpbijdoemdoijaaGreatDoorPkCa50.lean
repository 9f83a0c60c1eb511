/- Texts put together by packtpl2.py: SqRFx, SqRSt, SqBytesWalk. -/
import Derived.Test.YtpbijdoemdoijaaGreatDoorPkCa1
import Derived.Test.YtpbijdoemdoijaaGreatDoorPkCa6
import Derived.Test.YtpbijdoemdoijaaGreatDoorPkCa7
import Derived.Test.YtpbijdoemdoijaaGreatDoorPkCa47
import Derived.Test.YtpbijdoemdoijaaGreatDoorPkCa48
import Derived.Test.YtpbijdoemdoijaaGreatDoorPkCa49
section PkCa50_0
/- The document's form Fixed, walked: the program's bytes. -/
namespace Go.Proofs.YtpbijdoemdoijaaGreatDoor
open Go.RowKit BitsPlain PrefPlain
set_option linter.unusedVariables false

theorem TksAt.grownE {w w' : World} {a : Option Addr} {n c : Nat} {l : List (Nat × Nat × Nat)} (h : TksAt w a n c l) {r : Nat} (hg : w.grownBy w' (some r)) (hne : ∀ b off s, a = some ⟨b, off, s⟩ → b ≠ r) : TksAt w' a n c l :=
  ⟨h.len, h.cap, h.capm, h.nl, fun hp => by
    obtain ⟨b, off, ha, hlt, hc⟩ := h.cells hp
    have hn : ∀ x : Nat, some x = some r → x = r := fun x e => Option.some.inj e
    exact ⟨b, off, ha, Nat.lt_of_lt_of_le hlt hg.size, fun k hk => ⟨hg.cell (hc k hk).1 (fun e => hne b off _ ha (Option.some.inj e)), hg.cell (hc k hk).2.1 (fun e => hne b off _ ha (Option.some.inj e)), hg.cell (hc k hk).2.2 (fun e => hne b off _ ha (Option.some.inj e))⟩⟩⟩
/-- a row of words -/
structure Wds (w : World) (g : Nat) (f : Nat → Nat × Nat) (N : Nat) : Prop where
  lt : g < w.heap.size
  cell : ∀ t, t < N → w.cell? ⟨g, t, none⟩ = some (.string (bs (txt (f t).1 (f t).2)))
theorem Wds.kept {w w' : World} {g : Nat} {f : Nat → Nat × Nat} {N : Nat} (h : Wds w g f N) (hb : Below w.heap.size w w') : Wds w' g f N :=
  ⟨Nat.lt_of_lt_of_le h.lt hb.size, fun t ht => (hb.cell (p := ⟨g, t, none⟩) h.lt).trans (h.cell t ht)⟩
theorem Wds.grownE {w w' : World} {g : Nat} {f : Nat → Nat × Nat} {N : Nat} (h : Wds w g f N) {r : Nat} (hg : w.grownBy w' (some r)) (hne : g ≠ r) : Wds w' g f N :=
  ⟨Nat.lt_of_lt_of_le h.lt hg.size, fun t ht => hg.cell (h.cell t ht) (fun e => hne (Option.some.inj e))⟩
theorem lcode_bin (s : Nat) : Bin (lcode s) := codeOf_bin _ _ _
theorem tbits_bin (t : Nat × Nat × Nat) : Bin (tbits t) := by
  unfold tbits
  split
  · exact lcode_bin _
  · exact (((lcode_bin _).app (bitsOf_bin _ _)).app (codeOf_bin _ _ _)).app (bitsOf_bin _ _)
theorem flat_bin : ∀ l : List (Nat × Nat × Nat), Bin (l.flatMap tbits)
  | [] => fun x hx => by cases hx
  | t :: r => by rw [List.flatMap_cons]; exact (tbits_bin t).app (flat_bin r)
theorem fixTo_bin (l : List (Nat × Nat × Nat)) (i : Nat) : Bin (fixTo l i) := ((bitsOf_bin _ _).app (bitsOf_bin _ _)).app (flat_bin _)
theorem fxB_bin (l : List (Nat × Nat × Nat)) : Bin (fxB l) := (fixTo_bin _ _).app (lcode_bin _)
theorem own_ty7 {w : World} {base : Nat} {e e' : TypeId} {size : Nat} {v : Value} {n : Nat} {xs : List Value} {T : Nat} {cs : Array Value} {mk : Nat × Nat} (h : w.ownsRow base e size v n xs) (hT : w.heap[T]? = some (.cells cs e' mk)) (hne : e ≠ e') : v.ownBlock ≠ some T := by
  intro hv
  rcases h.2 with ⟨rfl, _⟩ | ⟨g, cap, cur, rfl, _, hg, _⟩
  · simp [Value.ownBlock] at hv
  · simp [Value.ownBlock] at hv
    subst hv
    rw [hg] at hT
    simp at hT
    exact hne hT.2.1
theorem own_from {w : World} {base n size : Nat} {e : TypeId} {v : Value} {xs : List Value} (h : w.ownsRow base e size v n xs) : ∀ k, v.ownBlock = some k → base ≤ k := fun k hk => (h.lt k hk).1
theorem own_base {w : World} {base base' n size : Nat} {e : TypeId} {v : Value} {xs : List Value} (h : w.ownsRow base e size v n xs) (hb : base' ≤ base) : w.ownsRow base' e size v n xs := by
  refine ⟨h.1, ?_⟩
  rcases h.2 with g | ⟨g, cap, cur, e1, e2, e3⟩
  · exact .inl g
  · exact .inr ⟨g, cap, cur, e1, Nat.le_trans hb e2, e3⟩

set_option maxRecDepth 100000 in
set_option maxHeartbeats 4000000 in
theorem rfx_any {w : World} {a : Option Addr} {n c : Nat} {b : List Nat} (h : BytesAt w a n c b) (hn : n ≤ 4000) :
    Calls Tryz.prog 68 #[.slice a n c] w fun e w' => ∃ a' c', e = .returned (.slice a' (pack (fxB (toks b))).length c') ∧ BytesAt w' a' (pack (fxB (toks b))).length c' (pack (fxB (toks b))) ∧ Below w.heap.size w w' := by
  have hll := h.len
  have HH := Lib.hid h
  have HFX := Lib.hid (rfixed_any (w := w))
  clear h
  go_enter Tryz.func68, Tryz.ntmps68
  go_wp2_with fail
  refine HFX.out.mono ?_
  rintro e w1 ⟨a1, c1, a2, c2, rfl, hi1, hi2, hb1⟩
  have HB1 := Lib.hid hb1
  have HI2 := Lib.hid hi2
  have HW1 := words_any hi1 okL_flx fits_flx (by rw [flx_len]; omega)
  have HW1 := Lib.hid HW1
  clear hi1 hi2 hb1
  go_wp2_with fail
  refine HW1.out.mono ?_
  rintro e w2 ⟨rfl, hwr⟩
  have hbw := hwr.below
  have HWL : Hid (Wds w2 w1.heap.size lw 288) := Lib.hid ⟨hwr.lt, fun t ht => by rw [hwr.cell t (by rw [flx_len]; exact ht), wt_flx ht]⟩
  have HB2 := Lib.hid (HB1.out.trans (hbw.mono HB1.out.size))
  have HW2 := words_any (HI2.out.kept hbw) okL_fdx fits_fdx (by rw [fdx_len]; omega)
  have HW2 := Lib.hid HW2
  clear hwr hbw
  go_wp2_with fail
  refine HW2.out.mono ?_
  rintro e w3 ⟨rfl, hwr⟩
  have hbw := hwr.below
  have HWL3 := Lib.hid (HWL.out.kept hbw)
  have HWD : Hid (Wds w3 w2.heap.size (fun t => (t, 5)) 32) := Lib.hid ⟨hwr.lt, fun t ht => by rw [hwr.cell t (by rw [fdx_len]; exact ht), wt_fdx ht]⟩
  have HB3 := Lib.hid (HB2.out.trans (hbw.mono HB2.out.size))
  clear hwr hbw
  obtain ⟨w4, hw4⟩ : ∃ w4, w4 = w3.alloc (.cells #[.bool true, .bool true, .bool false] 4) := ⟨_, rfl⟩
  have o4 := World.ownsRow_lit (base := w3.heap.size) (e := 4) (size := 1) w3 #[.bool true, .bool true, .bool false] 3 (Nat.le_refl _) (by unfold maxLen; omega) rfl
  rw [← hw4] at o4
  have b4 : Below w3.heap.size w3 w4 := by rw [hw4]; exact (Below.refl _ _).alloc (Nat.le_refl _) _
  have HWL4 := Lib.hid (HWL3.out.kept b4)
  have HWD4 := Lib.hid (HWD.out.kept b4)
  have HB4 := Lib.hid (HB3.out.trans (b4.mono HB3.out.size))
  have HO4 := Lib.hid o4
  have HH4 := Lib.hid (HH.out.kept HB4.out)
  have HTK := Lib.hid (rtokens_any HH4.out (by omega))
  have HW4 := Lib.hid hw4
  have lt4 := o4.lt w3.heap.size rfl
  have HL4 := Lib.hid lt4.2
  clear o4 b4 hw4 lt4
  go_wp2_with fail
  rw [← HW4.out]
  refine HTK.out.mono ?_
  rintro e w5 ⟨v5, rfl, ho5, hb5⟩
  have hown5 := own_from ho5
  obtain ⟨a5, c5, rfl, ht5⟩ := TksAt.ofOwn ho5 rfl
  have HNE : Hid (∀ b off s, a5 = some ⟨b, off, s⟩ → b ≠ w3.heap.size) := Lib.hid (fun b off s e => by
    subst e
    have h1 := hown5 b rfl
    have h2 := HL4.out
    omega)
  have HT5 := Lib.hid ht5
  have HWL5 := Lib.hid (HWL4.out.kept hb5)
  have HWD5 := Lib.hid (HWD4.out.kept hb5)
  have HB5 := Lib.hid (HB4.out.trans (hb5.mono HB4.out.size))
  have HO5 := Lib.hid (own_below HO4.out hb5)
  have HLT5 := Lib.hid (Nat.lt_of_lt_of_le HL4.out hb5.size)
  have HOK := Lib.hid (toks_ok HH.out.byte)
  have HFL := Lib.hid (fxB_len HH.out.byte)
  have HTL := Lib.hid (toks_le b)
  have hcap5 := HT5.out.cap
  have hcm5 := HT5.out.capm
  obtain ⟨l, hl⟩ : ∃ l, l = toks b := ⟨_, rfl⟩
  rw [← hl] at HT5 HOK HFL HTL hcap5 ⊢
  obtain ⟨m, hm⟩ : ∃ m, m = l.length := ⟨_, rfl⟩
  rw [← hm] at HT5 HTL hcap5
  rw [← hm]
  have HM := Lib.hid hm
  have HLB := Lib.hid hl
  have hm6 : m ≤ 4000 := by have := HTL.out; omega
  obtain ⟨R0, hR0⟩ : ∃ R0, R0 = w3.heap.size := ⟨_, rfl⟩
  rw [← hR0] at HO5 HLT5 HNE
  rw [← hR0]
  have HRR := Lib.hid hR0
  have HN1 : Hid (w1.heap.size ≠ R0) := Lib.hid (by have := HWL3.out.lt; have := HRR.out; omega)
  have HN2 : Hid (w2.heap.size ≠ R0) := Lib.hid (by have := HWD.out.lt; have := HRR.out; omega)
  have HWR : Hid (w.heap.size ≤ R0) := Lib.hid (by have := HB3.out.size; have := HRR.out; omega)
  clear ho5 hb5 hown5 ht5 hl hm hR0
  go_wp2_with fail
  go_loopw [7, 25] (fun s7 s25 wr => ∃ i : Nat, i ≤ m ∧ s25 = .int .i64 (i : Int) ∧ Hid (wr.ownsRow R0 4 1 s7 (fixTo l i).length (bl (rowOf (fixTo l i)))) ∧ Hid (Og w5 (some R0) wr s7)) (fun _ s25 _ => m - (intOf s25).toNat)
  case atStart => exact ⟨0, by omega, rfl, Lib.hid (by rw [show fixTo l 0 = [1, 1, 0] from by simp [fixTo]; decide]; exact HO5.out), Lib.hid (Og.refl w5 (.slice (some ⟨R0, 0, none⟩) 3 3))⟩
  case round =>
    obtain ⟨i, hi, rfl, HO, HG⟩ := hrel
    rename World => wr
    have HLE := Lib.hid (fixTo_le l i)
    have HFXL := Lib.hid (show (fxB l).length = (fixTo l l.length).length + (lcode 256).length from by unfold fxB; rw [List.length_append])
    obtain ⟨y, hy⟩ : ∃ y, y = (fixTo l i).length := ⟨_, rfl⟩
    have hy1 : y ≤ 50000 := by have h1 := HLE.out; have h2 := HFXL.out; have h3 := HFL.out; omega
    rw [← hy] at HO
    have HY := Lib.hid hy
    clear hy
    by_cases him : i < m
    · have himi : (i : Int) < (m : Int) := by omega
      have HST := Lib.hid (fixTo_step (l := l) (i := i) (by rw [← HM.out]; exact him))
      have HLE1 := Lib.hid (fixTo_le l (i + 1))
      obtain ⟨b1, off, rfl, hlt, hcell⟩ := (HT5.out.grownE HG.out.g HNE.out).cells (by omega)
      obtain ⟨h1, h2, h3⟩ := hcell i him
      have hok := HOK.out _ (tok_mem (l := l) (i := i) (by rw [← HM.out]; exact him))
      obtain ⟨t, ht⟩ : ∃ t, t = l.getD i t0 := ⟨_, rfl⟩
      rw [← ht] at h1 h2 h3 hok HST
      obtain ⟨t1, t2, t3⟩ := t
      simp only at h1 h2 h3
      have HWLr := HWL5.out.grownE HG.out.g HN1.out
      have HWDr := HWD5.out.grownE HG.out.g HN2.out
      clear hcell ht
      obtain ⟨wt, hwt⟩ : ∃ wt, wt = wr.alloc (.cells #[.int .i64 (t1 : Int), .int .i64 (t2 : Int), .int .u8 (t3 : Int)] 129) := ⟨_, rfl⟩
      have hbt : Below wr.heap.size wr wt := by rw [hwt]; exact (Below.refl _ _).alloc (Nat.le_refl _) _
      have gT : wt.heap[wr.heap.size]? = some (.cells #[.int .i64 (t1 : Int), .int .i64 (t2 : Int), .int .u8 (t3 : Int)] 129 (0, 0)) := by rw [hwt]; exact heap_alloc_new _ _
      have HOT := own_below HO.out hbt
      have HGT := HG.out.below hbt
      have hRt : R0 ≤ wt.heap.size := Nat.le_trans (Nat.le_of_lt HLT5.out) (Nat.le_trans HG.out.g.size hbt.size)
      rcases hok with ⟨q1, q2, q3⟩ | ⟨q1, q2, q3, q4, q5⟩
      · simp only at q1 q2 q3
        subst q1
        subst q2
        have hx9 : (lw t3).2 ≤ 15 := by unfold lw; split <;> (try split) <;> (try split) <;> simp
        have hcw := (HWLr.kept hbt).cell t3 (by omega)
        have HC := code_any HOT hRt (by omega) (lw t3).1 (lw t3).2 hx9
        obtain ⟨sx, hsx⟩ : ∃ sx, sx = bs (txt (lw t3).1 (lw t3).2) := ⟨_, rfl⟩
        rw [← hsx] at hcw HC
        have hcw0 := (HWLr).cell t3 (by omega)
        rw [← hsx] at hcw0
        have HCC := Lib.hid HC
        have HGT2 := Lib.hid HGT
        have HTB := Lib.hid (show tbits (0, 0, t3) = codeOf (lw t3).1 (lw t3).2 (lw t3).2 from by unfold tbits; rw [if_pos rfl]; rfl)
        have h1' : wr.cell? ⟨b1, off + i * 3, none⟩ = some (.int .i64 0) := h1
        have h2' : wr.cell? ⟨b1, off + i * 3 + 1, none⟩ = some (.int .i64 0) := h2
        have HWT := Lib.hid (show wt = wr.alloc (.cells #[.int .i64 0, .int .i64 0, .int .u8 (t3 : Int)] 129) from hwt)
        have hcwl : (wr.alloc (.cells #[.int .i64 0, .int .i64 0, .int .u8 (t3 : Int)] 129)).cell? ⟨w1.heap.size, t3, none⟩ = some (.string sx) := by rw [← HWT.out]; exact hcw
        clear HC HGT hsx hwt hbt gT HOT HWLr HWDr hRt h1 h2 hcw hcw0
        go_wp2_with fail
        rw [← HWT.out]
        refine HCC.out.mono ?_
        rintro e w6 ⟨v6, rfl, ho6, hg6⟩
        have HO6 := Lib.hid (show w6.ownsRow R0 4 1 v6 (fixTo l (i + 1)).length (bl (rowOf (fixTo l (i + 1)))) from by
          rw [HST.out, HTB.out, List.length_append, codeOf_length, ← HY.out]; exact ho6)
        have HG6 := Lib.hid (HGT2.out.trans hg6)
        clear ho6 hg6
        go_wp2_with fail
        go_roundw
        case rel => exact ⟨i + 1, by omega, by go_num, HO6, HG6⟩
        case measure => simp [intOf]; omega
      · simp only at q1 q2 q3 q4 q5
        subst q5
        have e1 : ((t1 : Int) == 0) = false := by rw [beq_eq_false_iff_ne]; omega
        have hls := lenS_ok q1 q2
        have hds := distS_ok q3 q4
        obtain ⟨⟨ls, lv, lm⟩, hL⟩ : ∃ x, x = lenS t1 := ⟨_, rfl⟩
        obtain ⟨⟨ds, dv, dm⟩, hD⟩ : ∃ x, x = distS t2 := ⟨_, rfl⟩
        rw [← hL] at hls
        rw [← hD] at hds
        obtain ⟨hl1, hl2, hl3⟩ := hls
        obtain ⟨hd1, hd2, hd3⟩ := hds
        simp only at hl1 hl2 hl3 hd1 hd2 hd3
        have HC1 := rlength_any (w := wt) q1 q2
        rw [← hL] at HC1
        simp only at HC1
        have HC1 := Lib.hid HC1
        obtain ⟨qs, hqs1, hqs2⟩ : ∃ q : Nat, 257 + ls ≤ q ∧ q ≤ 257 + ls := ⟨_, Nat.le_refl _, Nat.le_refl _⟩
        have hqi : (257 : Int) + (ls : Int) = (qs : Int) := by omega
        have hx9 : (lw qs).2 ≤ 9 := by unfold lw; split <;> (try split) <;> (try split) <;> simp
        have hcw := (HWLr.kept hbt).cell qs (by omega)
        have HC2 := code_any HOT hRt (by omega) (lw qs).1 (lw qs).2 (by omega)
        obtain ⟨sx, hsx⟩ : ∃ sx, sx = bs (txt (lw qs).1 (lw qs).2) := ⟨_, rfl⟩
        rw [← hsx] at hcw HC2
        have HC2 := Lib.hid HC2
        have HTB := Lib.hid (show tbits (t1, t2, 0) = lcode qs ++ bitsOf lv lm ++ codeOf ds 5 5 ++ bitsOf dv dm from by
          unfold tbits
          rw [if_neg (by simp only; omega)]
          simp only
          rw [← hL, ← hD, show 257 + ls = qs from by omega])
        have lT := (Array.getElem?_eq_some_iff.1 gT).1
        have HT6 : Hid (u7.ownBlock ≠ some wr.heap.size) := Lib.hid (own_ty7 HOT gT (by decide))
        obtain ⟨T, hT⟩ : ∃ T, T = wr.heap.size := ⟨_, rfl⟩
        rw [← hT] at gT lT HT6
        have HTT := Lib.hid hT
        have HGE := Lib.hid gT
        have HLT := Lib.hid lT
        have HGT2 := Lib.hid HGT
        have HWT := Lib.hid (show wt = wr.alloc (.cells #[.int .i64 (t1 : Int), .int .i64 (t2 : Int), .int .u8 0] 129) from hwt)
        have m0 := cell_of gT (i := 0) (u := .int .i64 (t1 : Int)) rfl
        have HQ3 := Lib.hid q3
        have HQ4 := Lib.hid q4
        have HDD := Lib.hid hD
        clear HGT hsx hwt hbt gT lT HOT HWLr hRt hL hD hT q1 q2 q3 q4
        go_wp2_with fail
        rw [← HTT.out, ← HWT.out]
        refine HC1.out.mono ?_
        rintro e wz ⟨rfl, hwz⟩
        subst hwz
        go_wp2_with fail
        try rw [← HTT.out]
        refine HC2.out.mono ?_
        rintro e w6 ⟨v6, rfl, ho6, hg6⟩
        have HG6 := Lib.hid (HGT2.out.trans hg6)
        have HGE6 := Lib.hid ((hg6.g.block T HLT.out (Ne.symm HT6.out)).trans HGE.out)
        have hsz6 : y + (lw qs).2 ≤ 100000 := by omega
        obtain ⟨a6, c6, rfl, hb6, _⟩ := BoolsAt.ofOwn ho6 (by omega)
        have HP6 := rput_own hb6 (by omega) lv (by omega) lm (by omega) false
        have HP6 := Lib.hid HP6
        clear ho6 hg6 hb6 m0 hcw
        go_wp2_with fail
        try rw [← HTT.out]
        refine HP6.out.mono ?_
        rintro e wb ⟨vb, rfl, hob, hbb⟩
        have HGB := Lib.hid (HG6.out.fresh hbb (own_from hob))
        have hRb : R0 ≤ wb.heap.size := Nat.le_trans (Nat.le_of_lt HLT5.out) HGB.out.g.size
        have HOB := own_base hob (show R0 ≤ w6.heap.size from Nat.le_trans (Nat.le_of_lt HLT5.out) HG6.out.g.size)
        have lT6 := (Array.getElem?_eq_some_iff.1 HGE6.out).1
        have gB := (hbb.block T lT6).trans HGE6.out
        have m1 := cell_of gB (i := 1) (u := .int .i64 (t2 : Int)) rfl
        have HCD := rdistance_any (w := wb) (n := t2) HQ3.out HQ4.out
        rw [← HDD.out] at HCD
        simp only at HCD
        have HCD := Lib.hid HCD
        have hcd := (HWD5.out.grownE HGB.out.g HN2.out).cell ds (by omega)
        simp only at hcd
        have HC3 := code_any HOB hRb (by omega) ds 5 (by omega)
        obtain ⟨sd, hsd⟩ : ∃ sd, sd = bs (txt ds 5) := ⟨_, rfl⟩
        rw [← hsd] at hcd HC3
        have HC3 := Lib.hid HC3
        clear hob hbb HOB hsd lT6 gB hRb
        go_wp2_with fail
        try rw [← HTT.out]
        refine HCD.out.mono ?_
        rintro e wz ⟨rfl, hwz⟩
        subst hwz
        go_wp2_with fail
        try rw [← HTT.out]
        refine HC3.out.mono ?_
        rintro e wd ⟨vd, rfl, hod, hgd⟩
        have HGD := Lib.hid (HGB.out.trans hgd)
        obtain ⟨ad, cd, rfl, hbd, _⟩ := BoolsAt.ofOwn hod (by omega)
        have HPD := rput_own hbd (by omega) dv (by omega) dm (by omega) false
        have HPD := Lib.hid HPD
        clear hod hgd hbd m1 hcd
        go_wp2_with fail
        try rw [← HTT.out]
        refine HPD.out.mono ?_
        rintro e we ⟨ve, rfl, hoe, hbe⟩
        have HGF := Lib.hid (HGD.out.fresh hbe (own_from hoe))
        have HOF := Lib.hid (show we.ownsRow R0 4 1 ve (fixTo l (i + 1)).length (bl (rowOf (fixTo l (i + 1)))) from by
          have o1 := own_base hoe (show R0 ≤ wd.heap.size from Nat.le_trans (Nat.le_of_lt HLT5.out) HGD.out.g.size)
          have e2 : fixTo l (i + 1) = fixTo l i ++ codeOf (lw qs).1 (lw qs).2 (lw qs).2 ++ putBits lv lm false lm ++ codeOf ds 5 5 ++ putBits dv dm false dm := by
            rw [HST.out, HTB.out]
            simp only [List.append_assoc]
            rfl
          have e3 : (fixTo l (i + 1)).length = y + (lw qs).2 + lm + 5 + dm := by
            rw [e2]
            simp only [List.length_append, codeOf_length, putBits_len]
            rw [← HY.out]
          rw [e3, e2]
          exact o1)
        clear hoe hbe
        go_wp2_with fail
        go_roundw
        case rel => exact ⟨i + 1, by omega, by go_num, HOF, HGF⟩
        case measure => simp [intOf]; omega
    · have hie : i = m := by omega
      have HFE := Lib.hid (show fxB l = fixTo l i ++ codeOf (lw 256).1 (lw 256).2 (lw 256).2 from by unfold fxB; rw [hie, HM.out]; rfl)
      have him2 : ¬ (i : Int) < (m : Int) := by omega
      have hRr : R0 ≤ wr.heap.size := Nat.le_trans (Nat.le_of_lt HLT5.out) HG.out.g.size
      have hcw := (HWL5.out.grownE HG.out.g HN1.out).cell 256 (by omega)
      have HC := code_any HO.out hRr (by omega) (lw 256).1 (lw 256).2 (by decide)
      obtain ⟨sx, hsx⟩ : ∃ sx, sx = bs (txt (lw 256).1 (lw 256).2) := ⟨_, rfl⟩
      rw [← hsx] at hcw HC
      have HCC := Lib.hid HC
      clear HC hsx hie hRr him
      go_wp2_with fail
      refine HCC.out.mono ?_
      rintro e w6 ⟨v6, rfl, ho6, hg6⟩
      have HG6 := Lib.hid (HG.out.trans hg6)
      have ho7 : w6.ownsRow R0 4 1 v6 (fxB l).length (bl (rowOf (fxB l))) := by
        rw [HFE.out, List.length_append, codeOf_length, ← HY.out]; exact ho6
      have hfl := HFL.out
      obtain ⟨a6, c6, rfl, hb6, _⟩ := BoolsAt.ofOwn ho7 (by omega)
      have HBY := Lib.hid (rbytes_any hb6 (fxB_bin l) (by omega))
      clear ho6 hg6 ho7 hb6 hcw
      go_wp2_with fail
      refine HBY.out.mono ?_
      rintro e w7 ⟨a7, c7, rfl, hb7, hbb⟩
      have H7 := Lib.hid hb7
      have HB7 := Lib.hid (show Below w.heap.size w w7 from by
        have h1 := HB5.out.grown HG6.out.g HB5.out.size (fun k hk => by cases hk; exact HWR.out)
        exact h1.trans (hbb.mono h1.size))
      clear hb7 hbb
      go_wp2_with fail
      go_ret
      rw [← HLB.out]
      exact ⟨a7, c7, rfl, H7.out, HB7.out⟩
end Go.Proofs.YtpbijdoemdoijaaGreatDoor
end PkCa50_0
section PkCa50_1
/- The document's form Stored, walked. (Written by genrst.py.) -/
namespace Go.Proofs.YtpbijdoemdoijaaGreatDoor
open Go.RowKit BitsPlain
set_option linter.unusedVariables false

set_option maxRecDepth 100000 in
set_option maxHeartbeats 4000000 in
theorem rst_zero {w : World} {a : Option Addr} {c : Nat} (h : BytesAt w a 0 c []) :
    Calls Tryz.prog 69 #[.slice a 0 c] w fun e w' => ∃ a' c', e = .returned (.slice a' (stP []).length c') ∧ BytesAt w' a' (stP []).length c' (stP []) ∧ Below w.heap.size w w' := by
  obtain ⟨i0, hi, hz0, hz1, hz2⟩ := info_parts info_u8
  have hll := h.len
  have hcap := h.cap
  have hcm := h.capm
  have o0 := World.ownsRow_lit (base := w.heap.size) (e := 5) (size := 1) w #[] 0 (Nat.le_refl _) (by unfold maxLen; omega) rfl
  obtain ⟨w1, hw1⟩ : ∃ w1, w1 = w.alloc (.cells #[] 5) := ⟨_, rfl⟩
  rw [← hw1] at o0
  have b1 : Below w.heap.size w w1 := by rw [hw1]; exact (Below.refl _ _).alloc (Nat.le_refl _) _
  have HST := Lib.hid (show stP [] = [1, 0, 0, 255, 255] ++ [] from rfl)
  have HRR := Lib.hid (show (0 : Nat) < 256 ∧ 0 < 256 ∧ 255 < 256 ∧ 255 < 256 from by decide)
  have hmin : min (0 : Int) 65535 = 0 := by omega
  have HH := Lib.hid h
  have HBY := Lib.hid h.byte
  have HO0 := Lib.hid (o0.alloc (.cells #[.int .u8 1, .int .u8 0, .int .u8 0, .int .u8 255, .int .u8 255] 5))
  have HB1 := Lib.hid b1
  have HW1 := Lib.hid hw1
  have hsrc : ∀ j u, [Value.int .u8 1, .int .u8 0, .int .u8 0, .int .u8 255, .int .u8 255][j]? = some u → (w1.alloc (.cells #[.int .u8 1, .int .u8 0, .int .u8 0, .int .u8 255, .int .u8 255] 5)).cell? ((⟨w1.heap.size, 0, none⟩ : Addr).add j) = some u := by
    intro j u hj
    have h4 : (⟨w1.heap.size, 0, none⟩ : Addr).add j = ⟨w1.heap.size, j, none⟩ := by unfold Addr.add; split <;> simp_all
    rw [h4, cell_of_row _ _ j _ _ (0, 0) (heap_alloc_new w1 _)]
    simpa using hj
  have HSRC := Lib.hid hsrc
  have HSZ := Lib.hid (show w.heap.size ≤ (w1.alloc (.cells #[.int .u8 1, .int .u8 0, .int .u8 0, .int .u8 255, .int .u8 255] 5)).heap.size from Nat.le_trans b1.size ((Below.refl _ _).alloc (Nat.le_refl _) _).size)
  clear h o0 b1 hw1 hsrc
  rcases a with _ | ad
  · go_enter Tryz.func69, Tryz.ntmps69
    go_wp2_with fail
    rw [← HW1.out]
    go_loopw [3, 4] (fun s3 s4 wr => s3 = .slice (some ⟨w.heap.size, 0, none⟩) 0 0 ∧ s4 = .int .i64 0 ∧ Hid (wr = w1)) (fun _ _ _ => 0)
    case atStart => exact ⟨rfl, rfl, Lib.hid rfl⟩
    case round =>
      obtain ⟨rfl, rfl, HW⟩ := hrel
      rename World => wr
      have HWW := HW.out
      subst HWW
      go_wp2_with (at_builtin; refine wpList_append_own _ rfl (.tmp 29) (.tmp 46) 27 rfl w.heap.size 5 i0 (.int .u8 0) 1 1 Tryz.underlying27 hi hz0 hz1 hz2 rfl (by decide) _ _ _ rfl HO0.out ⟨wr.heap.size, 0, none⟩ 5 5 [.int .u8 1, .int .u8 0, .int .u8 0, .int .u8 255, .int .u8 255] rfl rfl HSRC.out (by simp [Value.oneCell']) (by unfold maxLen; omega) (by omega) HSZ.out ?_)
      intro v1 w2 ho1 hg1 _
      have HO1 := Lib.hid (show w2.ownsRow w.heap.size 5 1 v1 (0 + 5) (bv [1, 0, 0, 255, 255]) from ho1)
      have HB2 := Lib.hid (below_own (HB1.out.alloc HB1.out.size (.cells #[.int .u8 1, .int .u8 0, .int .u8 0, .int .u8 255, .int .u8 255] 5)) HO0.out hg1 (Nat.le_refl _) HSZ.out)
      have HH2 := Lib.hid (HH.out.kept HB2.out)
      have HS2 := Lib.hid HB2.out.size
      clear ho1 hg1
      go_wp2_with (at_builtin; refine wpList_append_bytes rfl (.tmp 48) (.tmp 54) rfl w.heap.size v1 (0 + 5) [1, 0, 0, 255, 255] rfl HO1.out _ _ _ [] rfl HH2.out (by omega) HS2.out ?_)
      intro v3 w3 ho3 hg3
      have ho4 : w3.ownsRow w.heap.size 5 1 v3 (stP []).length (bv (stP [])) := by
        rw [stP_len, List.length_nil, Nat.add_comm]
        rw [HST.out]
        exact ho3
      have hby : ∀ x ∈ stP [], x < 256 := by
        intro x hx
        rw [HST.out] at hx
        have hr := HRR.out
        rcases List.mem_append.1 hx with e | e
        · simp only [List.mem_cons, List.not_mem_nil, or_false] at e
          omega
        · exact HBY.out x e
      have HB3 := Lib.hid (below_own HB2.out HO1.out hg3 (Nat.le_refl _) HS2.out)
      obtain ⟨a5, c5, rfl, h5, _⟩ := BytesAt.ofOwn ho4 hby (by rw [stP_len]; decide)
      have H5 := Lib.hid h5
      clear ho3 hg3 ho4 hby h5
      go_wp2_with fail
      go_ret
      exact ⟨a5, c5, rfl, H5.out, HB3.out⟩
  · go_enter Tryz.func69, Tryz.ntmps69
    go_wp2_with fail
    rw [← HW1.out]
    go_loopw [3, 4] (fun s3 s4 wr => s3 = .slice (some ⟨w.heap.size, 0, none⟩) 0 0 ∧ s4 = .int .i64 0 ∧ Hid (wr = w1)) (fun _ _ _ => 0)
    case atStart => exact ⟨rfl, rfl, Lib.hid rfl⟩
    case round =>
      obtain ⟨rfl, rfl, HW⟩ := hrel
      rename World => wr
      have HWW := HW.out
      subst HWW
      go_wp2_with (at_builtin; refine wpList_append_own _ rfl (.tmp 29) (.tmp 46) 27 rfl w.heap.size 5 i0 (.int .u8 0) 1 1 Tryz.underlying27 hi hz0 hz1 hz2 rfl (by decide) _ _ _ rfl HO0.out ⟨wr.heap.size, 0, none⟩ 5 5 [.int .u8 1, .int .u8 0, .int .u8 0, .int .u8 255, .int .u8 255] rfl rfl HSRC.out (by simp [Value.oneCell']) (by unfold maxLen; omega) (by omega) HSZ.out ?_)
      intro v1 w2 ho1 hg1 _
      have HO1 := Lib.hid (show w2.ownsRow w.heap.size 5 1 v1 (0 + 5) (bv [1, 0, 0, 255, 255]) from ho1)
      have HB2 := Lib.hid (below_own (HB1.out.alloc HB1.out.size (.cells #[.int .u8 1, .int .u8 0, .int .u8 0, .int .u8 255, .int .u8 255] 5)) HO0.out hg1 (Nat.le_refl _) HSZ.out)
      have HH2 := Lib.hid (HH.out.kept HB2.out)
      have HS2 := Lib.hid HB2.out.size
      clear ho1 hg1
      go_wp2_with (at_builtin; refine wpList_append_bytes rfl (.tmp 48) (.tmp 54) rfl w.heap.size v1 (0 + 5) [1, 0, 0, 255, 255] rfl HO1.out _ _ _ [] rfl HH2.out (by omega) HS2.out ?_)
      intro v3 w3 ho3 hg3
      have ho4 : w3.ownsRow w.heap.size 5 1 v3 (stP []).length (bv (stP [])) := by
        rw [stP_len, List.length_nil, Nat.add_comm]
        rw [HST.out]
        exact ho3
      have hby : ∀ x ∈ stP [], x < 256 := by
        intro x hx
        rw [HST.out] at hx
        have hr := HRR.out
        rcases List.mem_append.1 hx with e | e
        · simp only [List.mem_cons, List.not_mem_nil, or_false] at e
          omega
        · exact HBY.out x e
      have HB3 := Lib.hid (below_own HB2.out HO1.out hg3 (Nat.le_refl _) HS2.out)
      obtain ⟨a5, c5, rfl, h5, _⟩ := BytesAt.ofOwn ho4 hby (by rw [stP_len]; decide)
      have H5 := Lib.hid h5
      clear ho3 hg3 ho4 hby h5
      go_wp2_with fail
      go_ret
      exact ⟨a5, c5, rfl, H5.out, HB3.out⟩

set_option maxRecDepth 100000 in
set_option maxHeartbeats 4000000 in
theorem rst_pos {w : World} {a : Option Addr} {n c : Nat} {b : List Nat} (h : BytesAt w a n c b) (hn : n ≤ 65535) (hp : 0 < n) :
    Calls Tryz.prog 69 #[.slice a n c] w fun e w' => ∃ a' c', e = .returned (.slice a' (stP b).length c') ∧ BytesAt w' a' (stP b).length c' (stP b) ∧ Below w.heap.size w w' := by
  obtain ⟨i0, hi, hz0, hz1, hz2⟩ := info_parts info_u8
  have hll := h.len
  have hcap := h.cap
  have hcm := h.capm
  have o0 := World.ownsRow_lit (base := w.heap.size) (e := 5) (size := 1) w #[] 0 (Nat.le_refl _) (by unfold maxLen; omega) rfl
  obtain ⟨w1, hw1⟩ : ∃ w1, w1 = w.alloc (.cells #[] 5) := ⟨_, rfl⟩
  rw [← hw1] at o0
  have b1 : Below w.heap.size w w1 := by rw [hw1]; exact (Below.refl _ _).alloc (Nat.le_refl _) _
  obtain ⟨r1, hr1, hr1b⟩ : ∃ r : Nat, (n : Int) % 256 = (r : Int) ∧ r = n % 256 := ⟨n % 256, by omega, rfl⟩
  obtain ⟨r2, hr2, hr2b⟩ : ∃ r : Nat, (n : Int) / 256 = (r : Int) ∧ r = n / 256 := ⟨n / 256, by omega, rfl⟩
  obtain ⟨r3, hr3, hr3b⟩ : ∃ r : Nat, (255 : Int) - (r1 : Int) = (r : Int) ∧ r + r1 = 255 := ⟨255 - r1, by omega, by omega⟩
  obtain ⟨r4, hr4, hr4b⟩ : ∃ r : Nat, (255 : Int) - (r2 : Int) = (r : Int) ∧ r + r2 = 255 := ⟨255 - r2, by omega, by omega⟩
  have hr1c : r1 < 256 := by omega
  have hr2c : r2 < 256 := by omega
  have HST := Lib.hid (show stP b = [1, r1, r2, r3, r4] ++ b from by
    unfold stP
    rw [hll, ← hr1b, ← hr2b, show 255 - r1 = r3 from by omega, show 255 - r2 = r4 from by omega])
  have hmin : min (n : Int) 65535 = (n : Int) := by omega
  have hc : ((0 : Int) < (n : Int)) := by omega
  have hrr : r1 < 256 ∧ r2 < 256 ∧ r3 < 256 ∧ r4 < 256 := by omega
  have HRR := Lib.hid hrr
  obtain ⟨g, off, rfl, hg, hcell⟩ := h.cells hp
  have HH := Lib.hid h
  have HBY := Lib.hid h.byte
  have HO0 := Lib.hid (o0.alloc (.cells #[.int .u8 1, .int .u8 (r1 : Int), .int .u8 (r2 : Int), .int .u8 (r3 : Int), .int .u8 (r4 : Int)] 5))
  have HB1 := Lib.hid b1
  have HW1 := Lib.hid hw1
  have hsrc : ∀ j u, [Value.int .u8 1, .int .u8 (r1 : Int), .int .u8 (r2 : Int), .int .u8 (r3 : Int), .int .u8 (r4 : Int)][j]? = some u → (w1.alloc (.cells #[.int .u8 1, .int .u8 (r1 : Int), .int .u8 (r2 : Int), .int .u8 (r3 : Int), .int .u8 (r4 : Int)] 5)).cell? ((⟨w1.heap.size, 0, none⟩ : Addr).add j) = some u := by
    intro j u hj
    have h4 : (⟨w1.heap.size, 0, none⟩ : Addr).add j = ⟨w1.heap.size, j, none⟩ := by unfold Addr.add; split <;> simp_all
    rw [h4, cell_of_row _ _ j _ _ (0, 0) (heap_alloc_new w1 _)]
    simpa using hj
  have HSRC := Lib.hid hsrc
  have HSZ := Lib.hid (show w.heap.size ≤ (w1.alloc (.cells #[.int .u8 1, .int .u8 (r1 : Int), .int .u8 (r2 : Int), .int .u8 (r3 : Int), .int .u8 (r4 : Int)] 5)).heap.size from Nat.le_trans b1.size ((Below.refl _ _).alloc (Nat.le_refl _) _).size)
  clear h o0 b1 hw1 hsrc hr1b hr2b hrr hcell hp hg
  skip
  go_enter Tryz.func69, Tryz.ntmps69
  go_wp2_with fail
  rw [← HW1.out]
  go_loopw [3, 4] (fun s3 s4 wr => s3 = .slice (some ⟨w.heap.size, 0, none⟩) 0 0 ∧ s4 = .int .i64 0 ∧ Hid (wr = w1)) (fun _ _ _ => 0)
  case atStart => exact ⟨rfl, rfl, Lib.hid rfl⟩
  case round =>
    obtain ⟨rfl, rfl, HW⟩ := hrel
    rename World => wr
    have HWW := HW.out
    subst HWW
    go_wp2_with (at_builtin; refine wpList_append_own _ rfl (.tmp 29) (.tmp 46) 27 rfl w.heap.size 5 i0 (.int .u8 0) 1 1 Tryz.underlying27 hi hz0 hz1 hz2 rfl (by decide) _ _ _ rfl HO0.out ⟨wr.heap.size, 0, none⟩ 5 5 [.int .u8 1, .int .u8 (r1 : Int), .int .u8 (r2 : Int), .int .u8 (r3 : Int), .int .u8 (r4 : Int)] rfl rfl HSRC.out (by simp [Value.oneCell']) (by unfold maxLen; omega) (by omega) HSZ.out ?_)
    intro v1 w2 ho1 hg1 _
    have HO1 := Lib.hid (show w2.ownsRow w.heap.size 5 1 v1 (0 + 5) (bv [1, r1, r2, r3, r4]) from ho1)
    have HB2 := Lib.hid (below_own (HB1.out.alloc HB1.out.size (.cells #[.int .u8 1, .int .u8 (r1 : Int), .int .u8 (r2 : Int), .int .u8 (r3 : Int), .int .u8 (r4 : Int)] 5)) HO0.out hg1 (Nat.le_refl _) HSZ.out)
    have HH2 := Lib.hid (HH.out.kept HB2.out)
    have HS2 := Lib.hid HB2.out.size
    clear ho1 hg1
    go_wp2_with (at_builtin; refine wpList_append_bytes rfl (.tmp 48) (.tmp 54) rfl w.heap.size v1 (0 + 5) [1, r1, r2, r3, r4] rfl HO1.out _ _ _ b rfl HH2.out (by omega) HS2.out ?_)
    intro v3 w3 ho3 hg3
    have ho4 : w3.ownsRow w.heap.size 5 1 v3 (stP b).length (bv (stP b)) := by
      rw [stP_len, hll, Nat.add_comm]
      rw [HST.out]
      exact ho3
    have hby : ∀ x ∈ stP b, x < 256 := by
      intro x hx
      rw [HST.out] at hx
      have hr := HRR.out
      rcases List.mem_append.1 hx with e | e
      · simp only [List.mem_cons, List.not_mem_nil, or_false] at e
        omega
      · exact HBY.out x e
    have HB3 := Lib.hid (below_own HB2.out HO1.out hg3 (Nat.le_refl _) HS2.out)
    obtain ⟨a5, c5, rfl, h5, _⟩ := BytesAt.ofOwn ho4 hby (by rw [stP_len, hll]; omega)
    have H5 := Lib.hid h5
    clear ho3 hg3 ho4 hby h5
    go_wp2_with fail
    go_ret
    exact ⟨a5, c5, rfl, H5.out, HB3.out⟩
theorem rst_any {w : World} {a : Option Addr} {n c : Nat} {b : List Nat} (h : BytesAt w a n c b) (hn : n ≤ 65535) :
    Calls Tryz.prog 69 #[.slice a n c] w fun e w' => ∃ a' c', e = .returned (.slice a' (stP b).length c') ∧ BytesAt w' a' (stP b).length c' (stP b) ∧ Below w.heap.size w w' := by
  rcases Nat.eq_zero_or_pos n with h0 | hp
  · subst h0
    obtain rfl : b = [] := List.eq_nil_of_length_eq_zero h.len
    exact rst_zero h
  · exact rst_pos h hn hp
end Go.Proofs.YtpbijdoemdoijaaGreatDoor
end PkCa50_1
section PkCa50_2
/- The walk of SqueezeBytes: it returns true for all bytes. -/
namespace Go.Proofs.YtpbijdoemdoijaaGreatDoor
open Go.RowKit BitsPlain
set_option linter.unusedVariables false

set_option maxRecDepth 100000 in
set_option maxHeartbeats 4000000 in
theorem rdeflate_any {w : World} {a : Option Addr} {n c : Nat} {b : List Nat} (h : BytesAt w a n c b) (hn : n ≤ 4000) :
    Calls Tryz.prog 36 #[.slice a n c] w fun e w' => ∃ a' c', e = .returned (.slice a' (dfl b).length c') ∧ BytesAt w' a' (dfl b).length c' (dfl b) ∧ Below w.heap.size w w' := by
  have HH := Lib.hid h
  have hll := h.len
  have HSP := Lib.hid (stor_bytes h.byte (by omega))
  have HF := Lib.hid (rfx_any h hn)
  clear h
  go_enter Tryz.func36, Tryz.ntmps36
  go_wp2_with fail
  refine HF.out.mono ?_
  rintro e w1 ⟨a1, c1, rfl, h1, hb1⟩
  have HB1 := Lib.hid hb1
  have HH1 := Lib.hid (HH.out.kept hb1)
  have H1 := Lib.hid h1
  have HS := Lib.hid (rst_any HH1.out (by omega))
  clear h1 hb1
  go_wp2_with fail
  refine HS.out.mono ?_
  rintro e w2 ⟨a2, c2, rfl, h2, hb2⟩
  have HB2 := Lib.hid (HB1.out.trans (hb2.mono HB1.out.size))
  have H12 := Lib.hid (H1.out.kept hb2)
  have H2 := Lib.hid h2
  clear h2 hb2
  obtain ⟨s, hs⟩ : ∃ s, s = stP b := ⟨_, rfl⟩
  obtain ⟨x, hx⟩ : ∃ x, x = pack (fxB (toks b)) := ⟨_, rfl⟩
  obtain ⟨ls, hls⟩ : ∃ ls, ls = s.length := ⟨_, rfl⟩
  obtain ⟨lx, hlx⟩ : ∃ lx, lx = x.length := ⟨_, rfl⟩
  have HD := Lib.hid (show dfl b = if ls ≤ lx then s else x from by unfold dfl; rw [HSP.out, hls, hlx, hs, hx])
  rw [← hs] at H2
  rw [← hx] at H12
  rw [← hs, ← hls, ← hx, ← hlx]
  rw [← hls] at H2
  rw [← hlx] at H12
  have HLS := Lib.hid hls
  have HLX := Lib.hid hlx
  clear hs hx hls hlx
  by_cases hle : lx < ls
  · have hi : (lx : Int) < (ls : Int) := by omega
    have e := HD.out
    rw [if_neg (by omega)] at e
    have HE := Lib.hid e
    have HT := Lib.hid (twin H12.out)
    clear e hle
    go_wp2_with fail
    refine HT.out.mono ?_
    rintro e w3 ⟨g3, k3, rfl, _, _, _, hy3, hb3⟩
    have HY3 := Lib.hid hy3
    have HB3 := Lib.hid (HB2.out.trans (hb3.mono HB2.out.size))
    clear hy3 hb3
    go_wp2_with fail
    go_ret
    rw [HE.out, ← HLX.out]
    exact ⟨_, k3, rfl, HY3.out, HB3.out⟩
  · have hi : ¬ (lx : Int) < (ls : Int) := by omega
    have e := HD.out
    rw [if_pos (by omega)] at e
    have HE := Lib.hid e
    have HT := Lib.hid (twin H2.out)
    clear e hle
    go_wp2_with fail
    refine HT.out.mono ?_
    rintro e w3 ⟨g3, k3, rfl, _, _, _, hy3, hb3⟩
    have HY3 := Lib.hid hy3
    have HB3 := Lib.hid (HB2.out.trans (hb3.mono HB2.out.size))
    clear hy3 hb3
    go_wp2_with fail
    go_ret
    rw [HE.out, ← HLS.out]
    exact ⟨_, k3, rfl, HY3.out, HB3.out⟩

end Go.Proofs.YtpbijdoemdoijaaGreatDoor
end PkCa50_2
