/- Package prefix's Make, walked: the table of any lengths, or the error. -/
import Derived.Test.YtnfdojdppifmoaaDoorPrefMake
namespace Go.Proofs.YtnfdojdppifmoaaDoor
open Go.RowKit PrefPlain
set_option linter.unusedVariables false

/-- a table, made -/
structure TabAt (w : World) (B : Nat) (L : List Int) : Prop where
  tab : ∃ a n c V, TabBlk w B (.slice a n c) (fw (cn L)) V (mo L L.length) ∧ IntsAt .i64 w a n c L ∧ Syms w B V L L.length
  ok : okL L L.length
  short : L.length ≤ 320
theorem TabAt.kept {w w' : World} {B : Nat} {L : List Int} (h : TabAt w B L) (hb : Below w.heap.size w w') : TabAt w' B L := by
  obtain ⟨a, n, c, V, h1, h2, h3⟩ := h.tab
  exact ⟨⟨a, n, c, V, h1.other (hb.block B h1.lt), h2.kept hb, h3.same (fun i _ hi => hb.block i hi)⟩, h.ok, h.short⟩
theorem fw_congr {c : Nat → Nat} : ∀ j, fw c j = fw c j := fun _ => rfl
/-- the word ahead of a length -/
def wd (c : Nat → Nat) (j : Nat) : Nat := if j ≤ 1 then 0 else fw c (j - 1) + c (j - 1)
theorem wd_two (c : Nat → Nat) {j : Nat} (h : 1 ≤ j) : 2 * wd c j = fw c j := by
  unfold wd
  split
  · obtain rfl : j = 1 := by omega
    rfl
  · obtain ⟨i, rfl⟩ : ∃ i, j = i + 2 := ⟨j - 2, by omega⟩
    rfl
theorem wd_succ (c : Nat → Nat) {j : Nat} (h : 1 ≤ j) : wd c (j + 1) = fw c j + c j := by
  unfold wd; rw [if_neg (by omega)]; rfl
theorem cn_le (L : List Int) (h : L.length ≤ 320) (i : Nat) : cn L i ≤ 400 := by
  have := sy_len L L.length i
  unfold cn; omega
theorem fw_26 (c : Nat → Nat) (hc : ∀ n, c n ≤ 400) {j : Nat} (hj : j ≤ 15) : fw c j ≤ 26214400 := by
  have h := fw_le c hc j
  have h2 : 2 ^ j ≤ 2 ^ 15 := Nat.pow_le_pow_right (by omega) hj
  have h3 : 800 * 2 ^ j ≤ 800 * 2 ^ 15 := Nat.mul_le_mul_left _ h2
  have h4 : (800 : Nat) * 2 ^ 15 = 26214400 := by decide
  omega

set_option maxRecDepth 100000 in
set_option maxHeartbeats 4000000 in
theorem make_any {w : World} {a : Option Addr} {n c : Nat} {L : List Int} (h : IntsAt .i64 w a n c L) :
    Calls Tryd.prog 45 #[.slice a n c] w fun e w' => ∃ p, e = .returned (.tuple #[.pointer p, .int .i64 ((mk L : Nat) : Int)]) ∧ Below w.heap.size w w' ∧ (mk L ≠ 0 → p = none) ∧ (mk L = 0 → ∃ B, p = some ⟨B, 0, none⟩ ∧ w.heap.size ≤ B ∧ TabAt w' B L) := by
  obtain ⟨i0, hi, hz0, hz1, hz2⟩ := info_parts info_int
  have hlen := h.len
  have hcap := h.cap
  have hcm := h.capm
  have HH := Lib.hid h
  have HL := Lib.hid hlen
  clear h hlen
  by_cases hbig : (320 : Int) < (n : Int)
  · have HM := Lib.hid (show mk L = 5 by unfold mk; rw [if_pos (by rw [HL.out]; omega)])
    go_enter Tryd.func45, Tryd.ntmps45
    go_wp2_with fail
    go_ret2
    rw [HM.out]
    exact ⟨none, rfl, Below.refl _ _, fun _ => rfl, fun h => by cases h⟩
  · have hn : n ≤ 320 := by omega
    have HC := Lib.hid (cloneInt HH.out (by omega))
    have hbig2 : (n : Int) ≤ 320 := by omega
    clear hbig
    go_enter Tryd.func45, Tryd.ntmps45
    go_wp2_with fail
    refine HC.out.mono ?_
    rintro e w1 ⟨v1, rfl, ho1, hb1⟩
    obtain ⟨a1, c1, rfl, hi1, _⟩ := IntsAt.ofOwn ho1 HH.out.wf
    go_wp2_with fail
    generalize hwb : w1.alloc (Obj.cells _ _) = wb
    obtain ⟨B, hB⟩ : ∃ B, B = w1.heap.size := ⟨_, rfl⟩
    rw [← hB]
    have hT0 : TabBlk wb B (.slice a1 n c1) (fun _ => 0) (fun _ => .slice none 0 0) (mo L 0) := by
      rw [← hwb, hB]
      exact ⟨_, heap_alloc_new w1 _, rfl, rfl, (by intro i hi; have h16 := lt16 i hi; rcases h16 with rfl | rfl | rfl | rfl | rfl | rfl | rfl | rfl | rfl | rfl | rfl | rfl | rfl | rfl | rfl | rfl <;> rfl), (by intro i hi; have h16 := lt16 i hi; rcases h16 with rfl | rfl | rfl | rfl | rfl | rfl | rfl | rfl | rfl | rfl | rfl | rfl | rfl | rfl | rfl | rfl <;> rfl), rfl⟩
    have hS0 : Syms wb B (fun _ => .slice none 0 0) L 0 := ⟨fun i hi => by rw [sy_start]; exact World.ownsRow_nil _ _ _ _, fun i j _ _ _ => .inl rfl⟩
    have hb0 : Below B w1 wb := by rw [← hwb]; exact (Below.refl _ _).alloc (by omega) _
    have HB0 := Lib.hid hb0
    have HB1 := Lib.hid hb1
    have HI1 := Lib.hid hi1
    have HB := Lib.hid hB
    have hO0 : okL L 0 := fun s hs => absurd hs (Nat.not_lt_zero _)
    clear hwb hB hb0 hb1 ho1 hi1
    go_loopw [18] (fun s18 wr => ∃ (k : Nat) (V : Nat → Value), k ≤ n ∧ s18 = .int .i64 k ∧ okL L k ∧ TabBlk wr B (.slice a1 n c1) (fun _ => 0) V (mo L k) ∧ Syms wr B V L k ∧ Hid (Below B w1 wr)) (fun s18 _ => n - (intOf s18).toNat)
    case atStart => exact ⟨0, _, by omega, rfl, hO0, hT0, hS0, HB0⟩
    case round =>
      clear hO0 hT0 hS0
      obtain ⟨k, V, hk, rfl, hok, hT, hS, HBW⟩ := hrel
      rename World => wr
      have hbw : Below w.heap.size w wr := (HB1.out.trans (HBW.out.mono (by have := HB.out; have := HB1.out.size; omega)))
      have HBL := Lib.hid hbw
      by_cases hkn : k < n
      · obtain ⟨b, off, rfl, hlt, hcell⟩ := (HH.out.kept hbw).cells (by omega)
        have hck := hcell k hkn
        obtain ⟨x, hx⟩ : ∃ x, x = L.getD k 0 := ⟨_, rfl⟩
        rw [← hx] at hck
        by_cases hx0 : x < 0
        · have HN := Lib.hid (show mk L = 1 by unfold mk; rw [if_neg (by rw [HL.out]; omega), if_pos (allOk_no (k := k) (by rw [HL.out]; exact hkn) (by rw [← hx]; omega))])
          clear hcell hx hT hS hok hbw
          go_wp2_with fail
          go_ret2
          rw [HN.out]
          exact ⟨none, rfl, HBL.out, fun _ => rfl, fun h => by cases h⟩
        · by_cases hx15 : 15 < x
          · have HN := Lib.hid (show mk L = 1 by unfold mk; rw [if_neg (by rw [HL.out]; omega), if_pos (allOk_no (k := k) (by rw [HL.out]; exact hkn) (by rw [← hx]; omega))])
            have hx0' : 0 ≤ x := by omega
            clear hx0 hcell hx hT hS hok hbw
            go_wp2_with fail
            go_ret2
            rw [HN.out]
            exact ⟨none, rfl, HBL.out, fun _ => rfl, fun h => by cases h⟩
          · by_cases hxz : x = 0
            · subst hxz
              have hS' := hS.miss hx.symm
              have hT' : TabBlk wr B (.slice a1 n c1) (fun _ => 0) V (mo L (k + 1)) := by
                have : mo L (k + 1) = mo L k := by rw [mo, ← hx]; simp
                rw [this]; exact hT
              have hok' : okL L (k + 1) := okL_succ hok (by rw [← hx]; omega)
              have HS' := Lib.hid hS'
              have HT' := Lib.hid hT'
              have HOK' := Lib.hid hok'
              clear hcell hx hT hS hok hbw hx0 hx15 hS' hT' hok'
              go_wp2_with fail
              go_roundw
              case rel => exact ⟨k + 1, V, by omega, by go_num, HOK'.out, HT'.out, HS'.out, HBW⟩
              case measure => simp [intOf]; omega
            · obtain ⟨m, rfl⟩ : ∃ m : Nat, x = (m : Int) := ⟨x.toNat, by omega⟩
              have hm1 : 0 < m := by omega
              have hm16 : m < 16 := by omega
              have hmi : (m : Int) < 16 := by omega
              obtain ⟨am, cm, hVm, hiV, _⟩ := IntsAt.ofOwn (hS.own m hm16) (fun z hz => wf_int (by have := sy_bound z hz; omega))
              have hcv := hT.cV m hm16
              rw [hVm] at hcv
              have hfv := hT.fr (17 + m)
              have hcm := hT.cM
              have hfm := hT.fr 33
              have hso := hS.own m hm16
              rw [hVm] at hso
              obtain ⟨q, hq⟩ : ∃ q, q = (sy L k m).length := ⟨_, rfl⟩
              rw [← hq] at hso hcv
              have hq2 : q ≤ 320 := by rw [hq]; exact Nat.le_trans (sy_len L k m) (by omega)
              have HSO := Lib.hid hso
              have HT := Lib.hid hT
              have HS := Lib.hid hS
              have HV := Lib.hid hVm
              have HX := Lib.hid hx
              have HOK := Lib.hid hok
              have HQ := Lib.hid hq
              have hBl := hT.lt
              clear hcell hx hiV hVm hT hS hso hok hbw hq hx0 hx15 hxz
              go_wp2_with fail
              go_region_law (first | (refine step_append_own_at rfl (.tmp 38) (.tmp 40) 61 rfl (B + 1) 3 i0 (.int .i64 0) 1 8 Tryd.underlying61 hi hz0 hz1 hz2 rfl (by decide) _ _ _ rfl ((HSO.out.alloc (.cells #[.int .i64 (k : Int)] 3)).drew) ⟨wr.heap.size, 0, none⟩ 1 1 [.int .i64 (k : Int)] rfl rfl (one_src _ _ _) (one_oneCell rfl) (by unfold maxLen; omega) (by omega) (by simp; omega) ?_; intro v4 w4 ho4 hg4 hat4; obtain ⟨g4, c4, rfl⟩ := own_some ho4 (by omega); have hT4 := Lib.hid (HT.out.other (w' := w4) (step_blk hg4 hBl (own_low HSO.out))); have hcv4 := hT4.out.cV m hm16; have hfv4 := hT4.out.fr (17 + m)))
              all_goals
                generalize hw5 : World.setCell _ _ _ = w5
                have hT5 := hT4.out.setV m hm16 (.slice (some ⟨g4, 0, none⟩) (q + 1) c4)
                rw [hw5] at hT5
                have hcM5 := hT5.cM
                have hfM5 := hT5.fr 33
                have HW5 := Lib.hid hw5
                have HT5 := Lib.hid hT5
                have HO4 := Lib.hid ho4
                have HG4 := Lib.hid hg4
                have HA4 := Lib.hid hat4
                clear hw5 hT5 ho4 hg4 hat4 hcv4 hfv4 hcv hfv hcm hfm
                go_wp2_with fail
                generalize hw6 : World.setCell _ _ _ = w6
                rw [max_cast] at hw6
                have hT6 := HT5.out.setM (max (mo L k) m)
                rw [hw6] at hT6
                have hmo : mo L (k + 1) = max (mo L k) m := by rw [mo, ← HX.out]; rfl
                rw [← hmo] at hT6
                have ho4 := HO4.out
                have hg4 := HG4.out
                have hvq : Value.slice am q cm = V m := by rw [HV.out, ← HQ.out]
                rw [hvq] at hg4
                have hat4 := HA4.out
                rw [hvq] at hat4
                have hS4 := HS.out.step hm16 hm1 HX.out.symm HQ.out ho4 hg4 hat4
                have hS6 : Syms w6 B (fun i => if i = m then .slice (some ⟨g4, 0, none⟩) (q + 1) c4 else V i) L (k + 1) := hS4.same (by
                  rw [← hw6, ← HW5.out]; exact two_sets _ _ _ _)
                have hB6 : Below B w1 w6 := by
                  rw [← hw6, ← HW5.out]
                  exact ((((HBW.out.alloc (by omega) _).drew).grown hg4 (by simp; omega) (fun j hj => by have := ((HS.out.own m hm16).lt j hj).1; omega)).setCell (Nat.le_refl _) _).setCell (Nat.le_refl _) _
                have hok6 : okL L (k + 1) := okL_succ HOK.out (by rw [← HX.out]; omega)
                clear hw6 hmo ho4 hg4 hat4 hS4 hvq
                go_roundw
                case rel => exact ⟨k + 1, _, by omega, by go_num, hok6, hT6, hS6, Lib.hid hB6⟩
                case measure => simp [intOf]; omega
      · obtain rfl : k = n := by omega
        have hLk : L.length = k := HL.out
        have hVc : ∀ i, i < 16 → ∃ a c, V i = .slice a (cn L i) c := fun i hi => by
          obtain ⟨a, c, he, _, _⟩ := IntsAt.ofOwn (hS.own i hi) (fun z hz => wf_int (by have := sy_bound z hz; omega))
          exact ⟨a, c, by rw [he]; unfold cn; rw [hLk]⟩
        have hcn := cn_le L (by omega)
        have HF := Lib.hid (fits_any hT hVc hcn)
        have hall : allOk L = true := allOk_of (by rw [hLk]; exact hok)
        have hmk : mk L = if fitsB (cn L) (mo L k) = false then 4 else 0 := by
          unfold mk; rw [if_neg (by omega), if_neg (by rw [hall]; simp), hLk]
        have HMK := Lib.hid hmk
        have HS := Lib.hid hS
        have HT := Lib.hid hT
        have HOK := Lib.hid hok
        have HVC := Lib.hid hVc
        have HCN := Lib.hid hcn
        have HLK := Lib.hid hLk
        clear hT hS hok hVc hcn hall hmk hbw hLk
        go_wp2_with fail
        refine HF.out.mono ?_
        rintro e w2 ⟨rfl, rfl⟩
        cases hfb : fitsB (cn L) (mo L k) with
        | false =>
          have HM := Lib.hid (show mk L = 4 by rw [HMK.out, hfb]; rfl)
          clear hfb
          go_wp2_with fail
          go_ret2
          rw [HM.out]
          exact ⟨none, rfl, HBL.out, fun _ => rfl, fun h => by cases h⟩
        | true =>
          have HM := Lib.hid (show mk L = 0 by rw [HMK.out, hfb]; rfl)
          have hF0 : (fun i => if i < 1 then fw (cn L) i else 0) = fun (_ : Nat) => 0 := by
            funext i
            split
            · obtain rfl : i = 0 := by omega
              rfl
            · rfl
          have hT1 : TabBlk wr B (.slice a1 k c1) (fun i => if i < 1 then fw (cn L) i else 0) V (mo L k) := by rw [hF0]; exact HT.out
          have HS1 := HS
          clear hfb hF0 HT HS
          go_wp2_with fail
          go_loopw [7, 8] (fun s7 s8 wq => ∃ j : Nat, 1 ≤ j ∧ j ≤ 16 ∧ s8 = .int .i64 j ∧ s7 = .int .u32 ((wd (cn L) j : Nat) : Int) ∧ TabBlk wq B (.slice a1 k c1) (fun i => if i < j then fw (cn L) i else 0) V (mo L k) ∧ Syms wq B V L k ∧ Hid (Below B w1 wq)) (fun _ s8 _ => 16 - (intOf s8).toNat)
          case atStart => exact ⟨1, by omega, by omega, rfl, rfl, hT1, HS1.out, HBW⟩
          case round =>
            clear hT1 HS1
            obtain ⟨j, hj1, hj16, rfl, rfl, hT, hS, HBQ⟩ := hrel
            rename World => wq
            by_cases hj : j ≤ 15
            · have h2 := wd_two (cn L) hj1
              have h26 := fw_26 (cn L) HCN.out hj
              have hs := wd_succ (cn L) hj1
              have hcj := HCN.out j
              obtain ⟨aj, cj, hVj⟩ := HVC.out j (by omega)
              have c1' := hT.cF j (by omega)
              have f1' := hT.fr (1 + j)
              have c2' := hT.cV j (by omega)
              rw [hVj] at c2'
              have hTn := hT.setF j (by omega) (fw (cn L) j)
              have hfe : (fun i => if i = j then fw (cn L) j else if i < j then fw (cn L) i else 0) = fun i => if i < j + 1 then fw (cn L) i else 0 := by
                funext i
                by_cases e : i = j
                · subst e; rw [if_pos rfl, if_pos (by omega)]
                · rw [if_neg e]
                  by_cases g : i < j
                  · rw [if_pos g, if_pos (by omega)]
                  · rw [if_neg g, if_neg (by omega)]
              rw [hfe] at hTn
              have hBl := hT.lt
              obtain ⟨u, hu⟩ : ∃ u, u = wd (cn L) j := ⟨_, rfl⟩
              obtain ⟨f, hf⟩ : ∃ f, f = fw (cn L) j := ⟨_, rfl⟩
              obtain ⟨cj', hcj'⟩ : ∃ x, x = cn L j := ⟨_, rfl⟩
              rw [← hu, ← hf] at h2
              rw [← hf] at h26 hTn
              rw [← hf, ← hcj'] at hs
              rw [← hcj'] at hcj c2'
              rw [if_neg (by omega)] at c1'
              rw [← hu]
              have hfu : (u : Int) * 2 = (f : Int) := by omega
              have hjb : (j : Int) < 16 := by omega
              have HTN := Lib.hid hTn
              have HSN := Lib.hid hs
              have HS2 := Lib.hid hS
              have hub : u ≤ 13107200 := by omega
              clear hT hS hVj hfe hTn hu hf hcj' hs h2
              go_wp2_with fail
              generalize hwq : World.setCell _ _ _ = wq2
              have hTn := HTN.out
              rw [hwq] at hTn
              have hSn : Syms wq2 B V L k := HS2.out.same (fun i hi _ => by rw [← hwq]; exact heap_setCell_other _ _ _ _ hi)
              have hBn : Below B w1 wq2 := by rw [← hwq]; exact HBQ.out.setCell (Nat.le_refl _) _
              clear hwq
              go_roundw
              case rel => exact ⟨j + 1, by omega, by omega, by go_num, by rw [HSN.out]; go_num, hTn, hSn, Lib.hid hBn⟩
              case measure => simp [intOf]; omega
            · obtain rfl : j = 16 := by omega
              have hfin : TabBlk wq B (.slice a1 k c1) (fw (cn L)) V (mo L k) := by
                obtain ⟨cs, g1, g2, g3, g4, g5, g6⟩ := hT.blk
                exact ⟨cs, g1, g2, g3, fun i hi => by have := g4 i hi; rw [if_pos hi] at this; exact this, g5, g6⟩
              have hwB : w.heap.size ≤ B := by have := HB.out; have := HB1.out.size; omega
              have hBw : Below w.heap.size w wq := HB1.out.trans (HBQ.out.mono (by have := HB.out; have := HB1.out.size; omega))
              have hI : IntsAt .i64 wq a1 k c1 L := HI1.out.keep HBQ.out (by have := HB.out; omega)
              have HT9 := Lib.hid (show TabAt wq B L from ⟨⟨a1, k, c1, V, by rw [HLK.out]; exact hfin, hI, by rw [HLK.out]; exact hS⟩, by rw [HLK.out]; exact HOK.out, by rw [HLK.out]; omega⟩)
              have HBW9 := Lib.hid hBw
              clear hT hS hfin hBw hI
              go_wp2_with fail
              go_ret2
              rw [HM.out]
              exact ⟨some ⟨B, 0, none⟩, rfl, HBW9.out, fun h => absurd rfl h, fun _ => ⟨B, rfl, hwB, HT9.out⟩⟩
end Go.Proofs.YtnfdojdppifmoaaDoor
