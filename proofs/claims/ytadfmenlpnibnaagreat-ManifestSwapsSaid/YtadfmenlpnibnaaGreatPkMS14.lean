/- Texts put together by packtpl2.py: ApSw. -/
import Derived.Test.YtadfmenlpnibnaaGreatPkMS12
import Derived.Test.YtadfmenlpnibnaaGreatPkMS13
section PkMS14_0
/- The law ManifestSwaps, walked. Written by genapsw.py. -/
namespace Go.Proofs.YtadfmenlpnibnaaGreat
open Go.RowKit Go.Shelf LabPlain
set_option linter.unusedVariables false

/-- a law's boxes: a manifest, two edits -/
structure T2E (w W : World) (mv dv gv : Array Value) : Prop where
  below : Below w.heap.size w W
  g2 : W.heap[w.heap.size]? = some (.cells mv 26 (0, 0))
  g3 : W.heap[w.heap.size + 1]? = some (.cells dv 31 (0, 0))
  g4 : W.heap[w.heap.size + 1 + 1]? = some (.cells gv 31 (0, 0))
theorem T2E.step {w W W' : World} {mv dv gv : Array Value} (h : T2E w W mv dv gv) (hb : Below W.heap.size W W') : T2E w W' mv dv gv :=
  ⟨h.below.trans (hb.mono h.below.size), blk_step h.g2 hb, blk_step h.g3 hb, blk_step h.g4 hb⟩
/-- Apply's answer where it lies -/
structure ResAt (w : World) (base : Nat) (r : MaV) (xa xb xe : Option Addr) (rn rm ro xc xd xf : Nat) : Prop where
  en : VecAt EntS w xa rn xc r.ents
  mr : VecAt MarkS w xb rm xd r.marks
  ow : VecAt OwnS w xe ro xf r.owns
theorem ResAt.below {w w' : World} {base : Nat} {r : MaV} {xa xb xe : Option Addr} {rn rm ro xc xd xf : Nat} (h : ResAt w base r xa xb xe rn rm ro xc xd xf) (hb : Below w.heap.size w w') : ResAt w' base r xa xb xe rn rm ro xc xd xf := ⟨h.en.kept hb, h.mr.kept hb, h.ow.kept hb⟩
/-- what Apply answers, in the words that a law's walk wants -/
def ApR (pf : ByteArray → Int) (m : MaV) (d : EdV) (w : World) (e : Ending) (w' : World) : Prop := ∃ (er : Int) (r : MaV) (xa xb xe : Option Addr) (rn rm ro xc xd xf : Nat), ApIs pf m d er r ∧ e = .returned (.tuple #[.agg #[.int .i64 r.gen, .int .i64 r.cut, .int .i64 r.fence, .slice xa rn xc, .slice xb rm xd, .slice xe ro xf], .int .i64 er]) ∧ ResAt w' w.heap.size r xa xb xe rn rm ro xc xd xf ∧ Below w.heap.size w w'
theorem ApOut.toR {pf : ByteArray → Int} {m : MaV} {d : EdV} {w w' : World} {e : Ending} (h : ApOut pf m d w e w') (hok : ∀ x, x ∈ m.ents ∨ x ∈ d.add → EntS.ok w' x) : ApR pf m d w e w' := by
  obtain ⟨er, r, xa, xb, xe, xc, xd, xf, hi, rfl, h1, h2, h3, hb⟩ := h
  exact ⟨er, r, xa, xb, xe, _, _, _, xc, xd, xf, hi, rfl, ⟨VecAt.ofOwn (S := EntS) h1 rfl (fun x hx => hok x (is_sub hi hx)), VecAt.ofOwn (S := MarkS) h2 rfl (fun _ _ => trivial), VecAt.ofOwn (S := OwnS) h3 rfl (fun _ _ => trivial)⟩, hb⟩
theorem ApIs.yes {pf : ByteArray → Int} {m r : MaV} {d : EdV} {er : Int} (h : ApIs pf m d er r) (h0 : er = 0) : ApYes pf m d r := by
  rcases h with ⟨h9, _⟩ | ⟨_, h9⟩
  · exact absurd h0 h9
  · exact h9
theorem snoc_apart {l : List EntV} {k : Nat} {q : EntV → Prop} {s : EntV} (h : ∀ x ∈ l.take k, q x) (hk : k < l.length) (hs : s = l.getD k EntS.z) (h2 : q s) : ∀ x ∈ l.take (k + 1), q x := by
  rw [take_snoc l EntS.z hk, ← hs]
  intro x hx
  rcases List.mem_append.1 hx with g | g
  · exact h x g
  · rw [List.mem_singleton.1 g]; exact h2

set_option maxRecDepth 100000 in
set_option maxHeartbeats 16000000 in
theorem swaps_any {w : World} {gen cut fen cut' fen' y0 y1 y2 cut3 fen3 z0 z1 z2 mx : Int} {ea ma oa aa da ka ba fa ha : Option Addr} {en ec mn mc on oc an ac dn dc kn kc bn bc fn fc hn hc : Nat} {es ad bd : List EntV} {ms km hm : List (Int × Int)} {os : List (Int × Int × Int)} {dr fr : List ByteArray} (hE : VecAt EntS w ea en ec es) (hM : VecAt MarkS w ma mn mc ms) (hO : VecAt OwnS w oa on oc os) (hA : VecAt EntS w aa an ac ad) (hD : VecAt KeyS w da dn dc dr) (hK : VecAt MarkS w ka kn kc km) (hB : VecAt EntS w ba bn bc bd) (hF : VecAt KeyS w fa fn fc fr) (hH : VecAt MarkS w ha hn hc hm) (hmx : MaxAt mx w) :
    Calls Tryz.prog 6 #[.agg #[.int .i64 gen, .int .i64 cut, .int .i64 fen, .slice ea en ec, .slice ma mn mc, .slice oa on oc], .agg #[.slice aa an ac, .slice da dn dc, .slice ka kn kc, .int .i64 cut', .int .i64 fen', .int .i64 y0, .int .i64 y1, .int .i64 y2], .agg #[.slice ba bn bc, .slice fa fn fc, .slice ha hn hc, .int .i64 cut3, .int .i64 fen3, .int .i64 z0, .int .i64 z1, .int .i64 z2]] w fun e w' => e = .returned (.bool true) ∧ Below w.heap.size w w' := by
  obtain ⟨wa, hwa⟩ : ∃ wa, wa = w.alloc (.cells #[.int .i64 gen, .int .i64 cut, .int .i64 fen, .slice ea en ec, .slice ma mn mc, .slice oa on oc] 26) := ⟨_, rfl⟩
  obtain ⟨wb, hwb⟩ : ∃ wb, wb = wa.alloc (.cells #[.slice aa an ac, .slice da dn dc, .slice ka kn kc, .int .i64 cut', .int .i64 fen', .int .i64 y0, .int .i64 y1, .int .i64 y2] 31) := ⟨_, rfl⟩
  obtain ⟨wc, hwc⟩ : ∃ wc, wc = wb.alloc (.cells #[.slice ba bn bc, .slice fa fn fc, .slice ha hn hc, .int .i64 cut3, .int .i64 fen3, .int .i64 z0, .int .i64 z1, .int .i64 z2] 31) := ⟨_, rfl⟩
  have sa : wa.heap.size = w.heap.size + 1 := by rw [hwa]; exact Array.size_push _
  have sb : wb.heap.size = w.heap.size + 1 + 1 := by rw [hwb]; show (wa.heap.push _).size = _; rw [Array.size_push, sa]
  have bwa : Below w.heap.size w wa := by rw [hwa]; exact (Below.refl _ _).alloc (Nat.le_refl _) _
  have bwb : Below w.heap.size w wb := by rw [hwb]; exact bwa.alloc bwa.size _
  have T0 := Lib.hid (show T2E w wc #[.int .i64 gen, .int .i64 cut, .int .i64 fen, .slice ea en ec, .slice ma mn mc, .slice oa on oc] #[.slice aa an ac, .slice da dn dc, .slice ka kn kc, .int .i64 cut', .int .i64 fen', .int .i64 y0, .int .i64 y1, .int .i64 y2] #[.slice ba bn bc, .slice fa fn fc, .slice ha hn hc, .int .i64 cut3, .int .i64 fen3, .int .i64 z0, .int .i64 z1, .int .i64 z2] from ⟨by rw [hwc]; exact bwb.alloc bwb.size _, by rw [hwc, hao9 _ _ _ (by omega), hwb, hao9 _ _ _ (by omega), hwa]; exact heap_alloc_new _ _, by rw [hwc, hao9 _ _ _ (by omega), hwb, ← sa]; exact heap_alloc_new _ _, by rw [hwc, ← sb]; exact heap_alloc_new _ _⟩)
  have HWC := Lib.hid (show ((w.alloc (.cells #[.int .i64 gen, .int .i64 cut, .int .i64 fen, .slice ea en ec, .slice ma mn mc, .slice oa on oc] 26)).alloc (.cells #[.slice aa an ac, .slice da dn dc, .slice ka kn kc, .int .i64 cut', .int .i64 fen', .int .i64 y0, .int .i64 y1, .int .i64 y2] 31)).alloc (.cells #[.slice ba bn bc, .slice fa fn fc, .slice ha hn hc, .int .i64 cut3, .int .i64 fen3, .int .i64 z0, .int .i64 z1, .int .i64 z2] 31) = wc from by rw [hwc, hwb, hwa])
  have HE := Lib.hid hE
  have HM := Lib.hid hM
  have HO := Lib.hid hO
  have HA := Lib.hid hA
  have HD := Lib.hid hD
  have HK := Lib.hid hK
  have HB := Lib.hid hB
  have HF := Lib.hid hF
  have HH := Lib.hid hH
  have HMX := Lib.hid hmx
  have hec1 := hE.cap
  have hec2 := hE.capm
  have hmc1 := hM.cap
  have hmc2 := hM.capm
  have hoc1 := hO.cap
  have hoc2 := hO.capm
  have hac1 := hA.cap
  have hac2 := hA.capm
  have hdc1 := hD.cap
  have hdc2 := hD.capm
  have hkc1 := hK.cap
  have hkc2 := hK.capm
  have hbc1 := hB.cap
  have hbc2 := hB.capm
  have hfc1 := hF.cap
  have hfc2 := hF.capm
  have hhc1 := hH.cap
  have hhc2 := hH.capm
  clear hwa hwb hwc sa sb bwa bwb hE hM hO hA hD hK hB hF hH hmx
  go_enter Tryz.func6, Tryz.ntmps6
  go_wp2_with fail
  rw [HWC.out]
  refine (lives_true wc).mono ?_
  rintro e w1 ⟨rfl, hb1⟩
  have T1 := Lib.hid (T0.out.step hb1)
  clear hb1
  have HFW := Lib.hid (few_says (w := w1) (s := gen) (d := cut) (hz := fen) (ma := ma) (mn := mn) (mc := mc) (oa := oa) (on := on) (oc := oc) (HE.out.kept T1.out.below))
  have a0 : w1.cell? ⟨w.heap.size, 0, none⟩ = some (.int .i64 gen) := cell_blk T1.out.g2 rfl
  have a1 : w1.cell? ⟨w.heap.size, 1, none⟩ = some (.int .i64 cut) := cell_blk T1.out.g2 rfl
  have a2 : w1.cell? ⟨w.heap.size, 2, none⟩ = some (.int .i64 fen) := cell_blk T1.out.g2 rfl
  have a3 : w1.cell? ⟨w.heap.size, 3, none⟩ = some (.slice ea en ec) := cell_blk T1.out.g2 rfl
  have a4 : w1.cell? ⟨w.heap.size, 4, none⟩ = some (.slice ma mn mc) := cell_blk T1.out.g2 rfl
  have a5 : w1.cell? ⟨w.heap.size, 5, none⟩ = some (.slice oa on oc) := cell_blk T1.out.g2 rfl
  go_wp2_with fail
  refine HFW.out.mono ?_
  rintro e w2 ⟨⟨b1, rfl, hf1⟩, hb2⟩
  have T2w := Lib.hid (T1.out.step hb2)
  have HF1 := Lib.hid hf1
  clear hb2 hf1 a0 a1 a2 a3 a4 a5
  cases b1 with
  | false =>
    go_wp2_with fail
    refine (lives_true w2).mono ?_
    rintro e wl ⟨rfl, hbl⟩
    have TL := Lib.hid (T2w.out.step hbl)
    clear hbl
    go_wp2_with fail
    go_ret
    exact ⟨rfl, TL.out.below⟩
  | true =>
  have HFE := Lib.hid (HF1.out rfl)
  have HPE := Lib.hid (FewIs.all HE.out HFE.out.2.2.2)
  have HFD := Lib.hid (fewed_says (w := w2) (da := da) (dn := dn) (dc := dc) (ka := ka) (kn := kn) (kc := kc) (c := cut') (f := fen') (y0 := y0) (y1 := y1) (y2 := y2) (HA.out.kept T2w.out.below))
  have e0 : w2.cell? ⟨w.heap.size + 1, 0, none⟩ = some (.slice aa an ac) := cell_blk T2w.out.g3 rfl
  have e1 : w2.cell? ⟨w.heap.size + 1, 1, none⟩ = some (.slice da dn dc) := cell_blk T2w.out.g3 rfl
  have e2 : w2.cell? ⟨w.heap.size + 1, 2, none⟩ = some (.slice ka kn kc) := cell_blk T2w.out.g3 rfl
  have e3 : w2.cell? ⟨w.heap.size + 1, 3, none⟩ = some (.int .i64 cut') := cell_blk T2w.out.g3 rfl
  have e4 : w2.cell? ⟨w.heap.size + 1, 4, none⟩ = some (.int .i64 fen') := cell_blk T2w.out.g3 rfl
  have e5 : w2.cell? ⟨w.heap.size + 1, 5, none⟩ = some (.int .i64 y0) := cell_blk T2w.out.g3 rfl
  have e6 : w2.cell? ⟨w.heap.size + 1, 6, none⟩ = some (.int .i64 y1) := cell_blk T2w.out.g3 rfl
  have e7 : w2.cell? ⟨w.heap.size + 1, 7, none⟩ = some (.int .i64 y2) := cell_blk T2w.out.g3 rfl
  go_wp2_with fail
  refine HFD.out.mono ?_
  rintro e w3 ⟨⟨b2, rfl, hf2⟩, hb3⟩
  have T3w := Lib.hid (T2w.out.step hb3)
  have HF2 := Lib.hid hf2
  clear hb3 hf2 e0 e1 e2 e3 e4 e5 e6 e7
  cases b2 with
  | false =>
    go_wp2_with fail
    refine (lives_true w3).mono ?_
    rintro e wl ⟨rfl, hbl⟩
    have TL := Lib.hid (T3w.out.step hbl)
    clear hbl
    go_wp2_with fail
    go_ret
    exact ⟨rfl, TL.out.below⟩
  | true =>
  have HFG := Lib.hid (HF2.out rfl)
  have HPA := Lib.hid (FewIs.all HA.out HFG.out.2.2.2)
  have HFB := Lib.hid (fewed_says (w := w3) (da := fa) (dn := fn) (dc := fc) (ka := ha) (kn := hn) (kc := hc) (c := cut3) (f := fen3) (y0 := z0) (y1 := z1) (y2 := z2) (HB.out.kept T3w.out.below))
  have g0 : w3.cell? ⟨w.heap.size + 1 + 1, 0, none⟩ = some (.slice ba bn bc) := cell_blk T3w.out.g4 rfl
  have g1 : w3.cell? ⟨w.heap.size + 1 + 1, 1, none⟩ = some (.slice fa fn fc) := cell_blk T3w.out.g4 rfl
  have g2 : w3.cell? ⟨w.heap.size + 1 + 1, 2, none⟩ = some (.slice ha hn hc) := cell_blk T3w.out.g4 rfl
  have g3 : w3.cell? ⟨w.heap.size + 1 + 1, 3, none⟩ = some (.int .i64 cut3) := cell_blk T3w.out.g4 rfl
  have g4 : w3.cell? ⟨w.heap.size + 1 + 1, 4, none⟩ = some (.int .i64 fen3) := cell_blk T3w.out.g4 rfl
  have g5 : w3.cell? ⟨w.heap.size + 1 + 1, 5, none⟩ = some (.int .i64 z0) := cell_blk T3w.out.g4 rfl
  have g6 : w3.cell? ⟨w.heap.size + 1 + 1, 6, none⟩ = some (.int .i64 z1) := cell_blk T3w.out.g4 rfl
  have g7 : w3.cell? ⟨w.heap.size + 1 + 1, 7, none⟩ = some (.int .i64 z2) := cell_blk T3w.out.g4 rfl
  go_wp2_with fail
  refine HFB.out.mono ?_
  rintro e w4 ⟨⟨b3, rfl, hf3⟩, hb4⟩
  have T4 := Lib.hid (T3w.out.step hb4)
  have HF3 := Lib.hid hf3
  clear hb4 hf3 g0 g1 g2 g3 g4 g5 g6 g7
  cases b3 with
  | false =>
    go_wp2_with fail
    refine (lives_true w4).mono ?_
    rintro e wl ⟨rfl, hbl⟩
    have TL := Lib.hid (T4.out.step hbl)
    clear hbl
    go_wp2_with fail
    go_ret
    exact ⟨rfl, TL.out.below⟩
  | true =>
  have HFJ := Lib.hid (HF3.out rfl)
  have HPB := Lib.hid (FewIs.all HB.out HFJ.out.2.2.2)
  have e5 : w4.cell? ⟨w.heap.size + 1, 5, none⟩ = some (.int .i64 y0) := cell_blk T4.out.g3 rfl
  have g5 : w4.cell? ⟨w.heap.size + 1 + 1, 5, none⟩ = some (.int .i64 z0) := cell_blk T4.out.g4 rfl
  by_cases hag : y0 = z0
  · subst hag
    go_wp2_with fail
    refine (lives_true w4).mono ?_
    rintro e wl ⟨rfl, hbl⟩
    have TL := Lib.hid (T4.out.step hbl)
    clear hbl
    go_wp2_with fail
    go_ret
    exact ⟨rfl, TL.out.below⟩
  have hagb : (y0 == z0) = false := beq_eq_false_iff_ne.2 hag
  have HAG := Lib.hid hag
  clear hag
  have e0 : w4.cell? ⟨w.heap.size + 1, 0, none⟩ = some (.slice aa an ac) := cell_blk T4.out.g3 rfl
  go_wp2_with fail
  clear e5 g5 hagb
  go_loopw [47] (fun s47 wr => ∃ k : Nat, k ≤ an ∧ s47 = .int .i64 (k : Int) ∧ Hid (Below w4.heap.size w4 wr) ∧ Hid (∀ x ∈ ad.take k, ∀ y ∈ bd, x.key ≠ y.key)) (fun s47 _ => an - (intOf s47).toNat)
  case atStart => exact ⟨0, by omega, rfl, Lib.hid (Below.refl _ _), Lib.hid (by intro x hx; rw [List.take_zero] at hx; cases hx)⟩
  case round =>
    clear e0
    obtain ⟨k, hk, rfl, HBR, HNE⟩ := hrel
    rename World => wr
    have TR := Lib.hid (T4.out.step HBR.out)
    by_cases hkn : k < an
    · have hki : (k : Int) < (an : Int) := by omega
      obtain ⟨sb, so, rfl, hsl, _, hsc9⟩ := (HA.out.kept TR.out.below).get hkn
      obtain ⟨s, hse⟩ : ∃ s, s = ad.getD k EntS.z := ⟨_, rfl⟩
      rw [← hse] at hsc9
      have HSE := Lib.hid hse
      have HKN := Lib.hid hkn
      clear hse
      obtain ⟨x0, x1, x2, x3, x4, x5, x6, x7, x8⟩ := s
      have d0 : wr.cell? ⟨sb, so + k * 9, none⟩ = some (.string x0) := hsc9 0 _ rfl
      have d1 : wr.cell? ⟨sb, so + k * 9 + 1, none⟩ = some (.int .i64 x1) := hsc9 1 _ rfl
      have d2 : wr.cell? ⟨sb, so + k * 9 + 2, none⟩ = some (.string x2) := hsc9 2 _ rfl
      have d3 : wr.cell? ⟨sb, so + k * 9 + 3, none⟩ = some (.int .i64 x3) := hsc9 3 _ rfl
      have d4 : wr.cell? ⟨sb, so + k * 9 + 4, none⟩ = some (.int .i64 x4) := hsc9 4 _ rfl
      have d5 : wr.cell? ⟨sb, so + k * 9 + 5, none⟩ = some (.int .i64 x5) := hsc9 5 _ rfl
      have d6 : wr.cell? ⟨sb, so + k * 9 + 6, none⟩ = some (.int .i64 x6) := hsc9 6 _ rfl
      have d7 : wr.cell? ⟨sb, so + k * 9 + 7, none⟩ = some (.int .u32 x7) := hsc9 7 _ rfl
      have d8 : wr.cell? ⟨sb, so + k * 9 + 8, none⟩ = some (.int .i64 x8) := hsc9 8 _ rfl
      obtain ⟨wx, hwx⟩ : ∃ wx, wx = wr.alloc (.cells #[.string x0, .int .i64 x1, .string x2, .int .i64 x3, .int .i64 x4, .int .i64 x5, .int .i64 x6, .int .u32 x7, .int .i64 x8] 42) := ⟨_, rfl⟩
      obtain ⟨bk, hbk⟩ : ∃ bk, bk = wr.heap.size := ⟨_, rfl⟩
      have hbx : Below wr.heap.size wr wx := by rw [hwx]; exact (Below.refl _ _).alloc (Nat.le_refl _) _
      have HK5 := Lib.hid (show wx.heap[bk]? = some (.cells #[.string x0, .int .i64 x1, .string x2, .int .i64 x3, .int .i64 x4, .int .i64 x5, .int .i64 x6, .int .u32 x7, .int .i64 x8] 42 (0, 0)) from by rw [hwx, hbk]; exact heap_alloc_new wr _)
      have HBX := Lib.hid (HBR.out.trans (hbx.mono HBR.out.size))
      have TX := Lib.hid (TR.out.step hbx)
      have HWX := Lib.hid hwx
      have HBK := Lib.hid hbk
      clear hsc9 hwx hbk hbx
      go_upto_region 6 with fail
      rw [← HWX.out, ← HBK.out]
      clear d0 d1 d2 d3 d4 d5 d6 d7 d8
      have g0 : wx.cell? ⟨w.heap.size + 1 + 1, 0, none⟩ = some (.slice ba bn bc) := cell_blk TX.out.g4 rfl
      go_wp2_with fail
      go_loopw [54] (fun s54 wv => ∃ j : Nat, j ≤ bn ∧ s54 = .int .i64 (j : Int) ∧ Hid (Below wx.heap.size wx wv) ∧ Hid (∀ y ∈ bd.take j, x0 ≠ y.key)) (fun s54 _ => bn - (intOf s54).toNat)
      case atStart => exact ⟨0, by omega, rfl, Lib.hid (Below.refl _ _), Lib.hid (by intro x hx; rw [List.take_zero] at hx; cases hx)⟩
      case round =>
        clear g0
        obtain ⟨j, hj, rfl, HBV, HNJ⟩ := hrel
        rename World => wv
        have TV := Lib.hid (TX.out.step HBV.out)
        have HKV := Lib.hid (blk_step HK5.out HBV.out)
        by_cases hjn : j < bn
        · have hji : (j : Int) < (bn : Int) := by omega
          obtain ⟨tb, to9, rfl, htl, _, htc9⟩ := (HB.out.kept TV.out.below).get hjn
          obtain ⟨t, hte⟩ : ∃ t, t = bd.getD j EntS.z := ⟨_, rfl⟩
          rw [← hte] at htc9
          have HTE := Lib.hid hte
          have HJN := Lib.hid hjn
          clear hte
          obtain ⟨u0, u1, u2, u3, u4, u5, u6, u7, u8⟩ := t
          have d0 : wv.cell? ⟨tb, to9 + j * 9, none⟩ = some (.string u0) := htc9 0 _ rfl
          have d1 : wv.cell? ⟨tb, to9 + j * 9 + 1, none⟩ = some (.int .i64 u1) := htc9 1 _ rfl
          have d2 : wv.cell? ⟨tb, to9 + j * 9 + 2, none⟩ = some (.string u2) := htc9 2 _ rfl
          have d3 : wv.cell? ⟨tb, to9 + j * 9 + 3, none⟩ = some (.int .i64 u3) := htc9 3 _ rfl
          have d4 : wv.cell? ⟨tb, to9 + j * 9 + 4, none⟩ = some (.int .i64 u4) := htc9 4 _ rfl
          have d5 : wv.cell? ⟨tb, to9 + j * 9 + 5, none⟩ = some (.int .i64 u5) := htc9 5 _ rfl
          have d6 : wv.cell? ⟨tb, to9 + j * 9 + 6, none⟩ = some (.int .i64 u6) := htc9 6 _ rfl
          have d7 : wv.cell? ⟨tb, to9 + j * 9 + 7, none⟩ = some (.int .u32 u7) := htc9 7 _ rfl
          have d8 : wv.cell? ⟨tb, to9 + j * 9 + 8, none⟩ = some (.int .i64 u8) := htc9 8 _ rfl
          obtain ⟨wy, hwy⟩ : ∃ wy, wy = wv.alloc (.cells #[.string u0, .int .i64 u1, .string u2, .int .i64 u3, .int .i64 u4, .int .i64 u5, .int .i64 u6, .int .u32 u7, .int .i64 u8] 42) := ⟨_, rfl⟩
          obtain ⟨bl, hbl⟩ : ∃ bl, bl = wv.heap.size := ⟨_, rfl⟩
          have hby : Below wv.heap.size wv wy := by rw [hwy]; exact (Below.refl _ _).alloc (Nat.le_refl _) _
          have hl5 : wy.heap[bl]? = some (.cells #[.string u0, .int .i64 u1, .string u2, .int .i64 u3, .int .i64 u4, .int .i64 u5, .int .i64 u6, .int .u32 u7, .int .i64 u8] 42 (0, 0)) := by rw [hwy, hbl]; exact heap_alloc_new wv _
          have hk5 := blk_step HKV.out hby
          have HBY := Lib.hid (HBV.out.trans (hby.mono HBV.out.size))
          have TY := Lib.hid (TV.out.step hby)
          have HWY := Lib.hid hwy
          have HBL := Lib.hid hbl
          clear htc9 hwy hbl hby
          go_upto_region 9 with fail
          rw [← HWY.out, ← HBL.out]
          clear d0 d1 d2 d3 d4 d5 d6 d7 d8
          have q0 : wy.cell? ⟨bk, 0, none⟩ = some (.string x0) := cell_blk hk5 rfl
          have q1 : wy.cell? ⟨bl, 0, none⟩ = some (.string u0) := cell_blk hl5 rfl
          clear hk5 hl5
          by_cases hxu : x0 = u0
          · subst hxu
            go_wp2_with fail
            go_ret
            exact ⟨rfl, TY.out.below⟩
          have heq := txt_ne hxu
          have HNJ2 := Lib.hid (show ∀ y ∈ bd.take (j + 1), x0 ≠ y.key from snoc_apart (q := fun y => x0 ≠ y.key) HNJ.out (by rw [HB.out.len]; exact HJN.out) HTE.out hxu)
          clear hxu
          go_wp2_with fail
          go_roundw
          case rel => exact ⟨j + 1, by omega, by go_num, HBY, HNJ2⟩
          case measure => simp [intOf]; omega
        · obtain rfl : bn = j := by omega
          have HNE2 := Lib.hid (show ∀ x ∈ ad.take (k + 1), ∀ y ∈ bd, x.key ≠ y.key from snoc_apart (q := fun x => ∀ y ∈ bd, x.key ≠ y.key) HNE.out (by rw [HA.out.len]; exact HKN.out) HSE.out (by have h9 := HNJ.out; rwa [take_len HB.out.len (Nat.le_refl _)] at h9))
          have HBZ := Lib.hid (HBX.out.trans (HBV.out.mono HBX.out.size))
          clear hj hjn
          go_wp2_with fail
          go_roundw
          case rel => exact ⟨k + 1, by omega, by go_num, HBZ, HNE2⟩
          case measure => simp [intOf]; omega
    · obtain rfl : an = k := by omega
      have HKK := Lib.hid (show ∀ x ∈ ad, ∀ y ∈ bd, x.key ≠ y.key from by have h9 := HNE.out; rwa [take_len HA.out.len (Nat.le_refl _)] at h9)
      clear hk hkn HNE
      have HPP := Lib.hid (show ∀ W0, Below w.heap.size w W0 → ∀ (W : World) (x : EntV), x ∈ es ∨ x ∈ ad ∨ x ∈ bd → Below W0.heap.size W0 W → Calls Tryz.prog 68 #[.string x.part] W fun e w' => ParIs (pfS x.part) e ∧ Below W.heap.size W w' from fun W0 h0 W x hx hB => par_any (le := es ++ (ad ++ bd)) (HMX.out.below h0) (fun z hz => by
        rcases List.mem_append.1 hz with g | g
        · have := (HPE.out z g).2; omega
        rcases List.mem_append.1 g with g | g
        · have := (HPA.out z g).2; omega
        · have := (HPB.out z g).2; omega) W x (by rw [List.mem_append, List.mem_append]; exact hx) hB)
      have HOKE := Lib.hid (show ∀ (W : World) (x : EntV), x ∈ es ∨ x ∈ ad ∨ x ∈ bd → EntS.ok W x from fun W x hx => by
        rcases hx with hx | hx | hx
        · exact HE.out.all x hx
        · exact HA.out.all x hx
        · exact HB.out.all x hx)
      have HAP := Lib.hid ((apply_any (w := wr) pfS (m := (⟨gen, cut, fen, es, ms, os⟩ : MaV)) (d := (⟨ad, dr, km, cut', fen', (y0, y1, y2)⟩ : EdV)) rfl (HE.out.kept TR.out.below) (HM.out.kept TR.out.below) (HO.out.kept TR.out.below) (HA.out.kept TR.out.below) (HD.out.kept TR.out.below) (HK.out.kept TR.out.below) (by have := HFG.out.2.1; omega) (by have := HFG.out.1; omega) (fun W x hx hB => HPP.out wr TR.out.below W x (by
        rcases hx with hx | hx
        · exact .inl hx
        · exact .inr (.inl hx)) hB)).mono fun e w' h => h.toR (fun x hx => HOKE.out w' x (by
        rcases hx with hx | hx
        · exact .inl hx
        · exact .inr (.inl hx))))
      have a0 : wr.cell? ⟨w.heap.size, 0, none⟩ = some (.int .i64 gen) := cell_blk TR.out.g2 rfl
      have a1 : wr.cell? ⟨w.heap.size, 1, none⟩ = some (.int .i64 cut) := cell_blk TR.out.g2 rfl
      have a2 : wr.cell? ⟨w.heap.size, 2, none⟩ = some (.int .i64 fen) := cell_blk TR.out.g2 rfl
      have a3 : wr.cell? ⟨w.heap.size, 3, none⟩ = some (.slice ea en ec) := cell_blk TR.out.g2 rfl
      have a4 : wr.cell? ⟨w.heap.size, 4, none⟩ = some (.slice ma mn mc) := cell_blk TR.out.g2 rfl
      have a5 : wr.cell? ⟨w.heap.size, 5, none⟩ = some (.slice oa on oc) := cell_blk TR.out.g2 rfl
      have e0 : wr.cell? ⟨w.heap.size + 1, 0, none⟩ = some (.slice aa an ac) := cell_blk TR.out.g3 rfl
      have e1 : wr.cell? ⟨w.heap.size + 1, 1, none⟩ = some (.slice da dn dc) := cell_blk TR.out.g3 rfl
      have e2 : wr.cell? ⟨w.heap.size + 1, 2, none⟩ = some (.slice ka kn kc) := cell_blk TR.out.g3 rfl
      have e3 : wr.cell? ⟨w.heap.size + 1, 3, none⟩ = some (.int .i64 cut') := cell_blk TR.out.g3 rfl
      have e4 : wr.cell? ⟨w.heap.size + 1, 4, none⟩ = some (.int .i64 fen') := cell_blk TR.out.g3 rfl
      have e5 : wr.cell? ⟨w.heap.size + 1, 5, none⟩ = some (.int .i64 y0) := cell_blk TR.out.g3 rfl
      have e6 : wr.cell? ⟨w.heap.size + 1, 6, none⟩ = some (.int .i64 y1) := cell_blk TR.out.g3 rfl
      have e7 : wr.cell? ⟨w.heap.size + 1, 7, none⟩ = some (.int .i64 y2) := cell_blk TR.out.g3 rfl
      go_wp2_with fail
      refine HAP.out.mono ?_
      rintro e wr1 ⟨er1, r1, xa1, xb1, xe1, rn1, rm1, ro1, xc1, xd1, xf1, hi, rfl, hres, hb9⟩
      have TA1 := Lib.hid (TR.out.step hb9)
      have HI1 := Lib.hid hi
      have HCA10 := hres.en.cap
      have HCA11 := hres.en.capm
      have HCA12 := hres.mr.cap
      have HCA13 := hres.mr.capm
      have HCA14 := hres.ow.cap
      have HCA15 := hres.ow.capm
      obtain ⟨wz1, hwz⟩ : ∃ wz, wz = wr1.alloc (.cells #[.int .i64 r1.gen, .int .i64 r1.cut, .int .i64 r1.fence, .slice xa1 rn1 xc1, .slice xb1 rm1 xd1, .slice xe1 ro1 xf1] 26) := ⟨_, rfl⟩
      obtain ⟨nb1, hnb⟩ : ∃ nb, nb = wr1.heap.size := ⟨_, rfl⟩
      have hbz : Below wr1.heap.size wr1 wz1 := by rw [hwz]; exact (Below.refl _ _).alloc (Nat.le_refl _) _
      have hb99 := hb9.trans (hbz.mono hb9.size)
      have TZ1 := Lib.hid (TA1.out.step hbz)
      have N1 := Lib.hid (show wz1.heap[nb1]? = some (.cells #[.int .i64 r1.gen, .int .i64 r1.cut, .int .i64 r1.fence, .slice xa1 rn1 xc1, .slice xb1 rm1 xd1, .slice xe1 ro1 xf1] 26 (0, 0)) from by rw [hwz, hnb]; exact heap_alloc_new _ _)
      have RS1 := Lib.hid (hres.below hbz)
      have HWZ1 := Lib.hid hwz
      have HNB1 := Lib.hid hnb
      clear hi hres hb9 hbz hb99 hwz hnb HAP a0 a1 a2 a3 a4 a5 e0 e1 e2 e3 e4 e5 e6 e7
      go_upto_region 14 with fail
      rw [← HWZ1.out, ← HNB1.out]
      have HAP := Lib.hid ((apply_any (w := wz1) pfS (m := (⟨gen, cut, fen, es, ms, os⟩ : MaV)) (d := (⟨bd, fr, hm, cut3, fen3, (z0, z1, z2)⟩ : EdV)) rfl (HE.out.kept TZ1.out.below) (HM.out.kept TZ1.out.below) (HO.out.kept TZ1.out.below) (HB.out.kept TZ1.out.below) (HF.out.kept TZ1.out.below) (HH.out.kept TZ1.out.below) (by have := HFJ.out.2.1; omega) (by have := HFJ.out.1; omega) (fun W x hx hB => HPP.out wz1 TZ1.out.below W x (by
        rcases hx with hx | hx
        · exact .inl hx
        · exact .inr (.inr hx)) hB)).mono fun e w' h => h.toR (fun x hx => HOKE.out w' x (by
        rcases hx with hx | hx
        · exact .inl hx
        · exact .inr (.inr hx))))
      have a0 : wz1.cell? ⟨w.heap.size, 0, none⟩ = some (.int .i64 gen) := cell_blk TZ1.out.g2 rfl
      have a1 : wz1.cell? ⟨w.heap.size, 1, none⟩ = some (.int .i64 cut) := cell_blk TZ1.out.g2 rfl
      have a2 : wz1.cell? ⟨w.heap.size, 2, none⟩ = some (.int .i64 fen) := cell_blk TZ1.out.g2 rfl
      have a3 : wz1.cell? ⟨w.heap.size, 3, none⟩ = some (.slice ea en ec) := cell_blk TZ1.out.g2 rfl
      have a4 : wz1.cell? ⟨w.heap.size, 4, none⟩ = some (.slice ma mn mc) := cell_blk TZ1.out.g2 rfl
      have a5 : wz1.cell? ⟨w.heap.size, 5, none⟩ = some (.slice oa on oc) := cell_blk TZ1.out.g2 rfl
      have g0 : wz1.cell? ⟨w.heap.size + 1 + 1, 0, none⟩ = some (.slice ba bn bc) := cell_blk TZ1.out.g4 rfl
      have g1 : wz1.cell? ⟨w.heap.size + 1 + 1, 1, none⟩ = some (.slice fa fn fc) := cell_blk TZ1.out.g4 rfl
      have g2 : wz1.cell? ⟨w.heap.size + 1 + 1, 2, none⟩ = some (.slice ha hn hc) := cell_blk TZ1.out.g4 rfl
      have g3 : wz1.cell? ⟨w.heap.size + 1 + 1, 3, none⟩ = some (.int .i64 cut3) := cell_blk TZ1.out.g4 rfl
      have g4 : wz1.cell? ⟨w.heap.size + 1 + 1, 4, none⟩ = some (.int .i64 fen3) := cell_blk TZ1.out.g4 rfl
      have g5 : wz1.cell? ⟨w.heap.size + 1 + 1, 5, none⟩ = some (.int .i64 z0) := cell_blk TZ1.out.g4 rfl
      have g6 : wz1.cell? ⟨w.heap.size + 1 + 1, 6, none⟩ = some (.int .i64 z1) := cell_blk TZ1.out.g4 rfl
      have g7 : wz1.cell? ⟨w.heap.size + 1 + 1, 7, none⟩ = some (.int .i64 z2) := cell_blk TZ1.out.g4 rfl
      go_wp2_with fail
      refine HAP.out.mono ?_
      rintro e wr2 ⟨er2, r2, xa2, xb2, xe2, rn2, rm2, ro2, xc2, xd2, xf2, hi, rfl, hres, hb9⟩
      have TA2 := Lib.hid (TZ1.out.step hb9)
      have HI2 := Lib.hid hi
      have HCA20 := hres.en.cap
      have HCA21 := hres.en.capm
      have HCA22 := hres.mr.cap
      have HCA23 := hres.mr.capm
      have HCA24 := hres.ow.cap
      have HCA25 := hres.ow.capm
      obtain ⟨wz2, hwz⟩ : ∃ wz, wz = wr2.alloc (.cells #[.int .i64 r2.gen, .int .i64 r2.cut, .int .i64 r2.fence, .slice xa2 rn2 xc2, .slice xb2 rm2 xd2, .slice xe2 ro2 xf2] 26) := ⟨_, rfl⟩
      obtain ⟨nb2, hnb⟩ : ∃ nb, nb = wr2.heap.size := ⟨_, rfl⟩
      have hbz : Below wr2.heap.size wr2 wz2 := by rw [hwz]; exact (Below.refl _ _).alloc (Nat.le_refl _) _
      have hb99 := hb9.trans (hbz.mono hb9.size)
      have TZ2 := Lib.hid (TA2.out.step hbz)
      have N2 := Lib.hid (show wz2.heap[nb2]? = some (.cells #[.int .i64 r2.gen, .int .i64 r2.cut, .int .i64 r2.fence, .slice xa2 rn2 xc2, .slice xb2 rm2 xd2, .slice xe2 ro2 xf2] 26 (0, 0)) from by rw [hwz, hnb]; exact heap_alloc_new _ _)
      have RS2 := Lib.hid (hres.below hbz)
      have N1_2 := Lib.hid (blk_step N1.out hb99)
      have RS1_2 := Lib.hid (RS1.out.below hb99)
      have HWZ2 := Lib.hid hwz
      have HNB2 := Lib.hid hnb
      clear hi hres hb9 hbz hb99 hwz hnb HAP a0 a1 a2 a3 a4 a5 g0 g1 g2 g3 g4 g5 g6 g7
      go_upto_region 15 with fail
      rw [← HWZ2.out, ← HNB2.out]
      by_cases h1 : er1 = 0
      rotate_left
      · have hz1 : (er1 == 0) = false := beq_eq_false_iff_ne.2 h1
        go_wp2_with fail
        go_ret
        exact ⟨rfl, TZ2.out.below⟩
      subst h1
      by_cases h2 : er2 = 0
      rotate_left
      · have hz2 : (er2 == 0) = false := beq_eq_false_iff_ne.2 h2
        go_wp2_with fail
        go_ret
        exact ⟨rfl, TZ2.out.below⟩
      subst h2
      have HY1 := Lib.hid (HI1.out.yes rfl)
      have HY2 := Lib.hid (HI2.out.yes rfl)
      clear HI1 HI2
      have HAP := Lib.hid ((apply_any (w := wz2) pfS (m := r1) (d := (⟨bd, fr, hm, cut3, fen3, (z0, z1, z2)⟩ : EdV)) rfl RS1_2.out.en RS1_2.out.mr RS1_2.out.ow (HB.out.kept TZ2.out.below) (HF.out.kept TZ2.out.below) (HH.out.kept TZ2.out.below) (by have := HFJ.out.2.1; omega) (by have := HFJ.out.1; omega) (fun W x hx hB => HPP.out wz2 TZ2.out.below W x (by
        rcases hx with hx | hx
        · exact (yes_sub HY1.out hx).elim .inl (fun h => .inr (.inl h))
        · exact .inr (.inr hx)) hB)).mono fun e w' h => h.toR (fun x hx => HOKE.out w' x (by
        rcases hx with hx | hx
        · exact (yes_sub HY1.out hx).elim .inl (fun h => .inr (.inl h))
        · exact .inr (.inr hx))))
      have n0 : wz2.cell? ⟨nb1, 0, none⟩ = some (.int .i64 r1.gen) := cell_blk N1_2.out rfl
      have n1 : wz2.cell? ⟨nb1, 1, none⟩ = some (.int .i64 r1.cut) := cell_blk N1_2.out rfl
      have n2 : wz2.cell? ⟨nb1, 2, none⟩ = some (.int .i64 r1.fence) := cell_blk N1_2.out rfl
      have n3 : wz2.cell? ⟨nb1, 3, none⟩ = some (.slice xa1 rn1 xc1) := cell_blk N1_2.out rfl
      have n4 : wz2.cell? ⟨nb1, 4, none⟩ = some (.slice xb1 rm1 xd1) := cell_blk N1_2.out rfl
      have n5 : wz2.cell? ⟨nb1, 5, none⟩ = some (.slice xe1 ro1 xf1) := cell_blk N1_2.out rfl
      have g0 : wz2.cell? ⟨w.heap.size + 1 + 1, 0, none⟩ = some (.slice ba bn bc) := cell_blk TZ2.out.g4 rfl
      have g1 : wz2.cell? ⟨w.heap.size + 1 + 1, 1, none⟩ = some (.slice fa fn fc) := cell_blk TZ2.out.g4 rfl
      have g2 : wz2.cell? ⟨w.heap.size + 1 + 1, 2, none⟩ = some (.slice ha hn hc) := cell_blk TZ2.out.g4 rfl
      have g3 : wz2.cell? ⟨w.heap.size + 1 + 1, 3, none⟩ = some (.int .i64 cut3) := cell_blk TZ2.out.g4 rfl
      have g4 : wz2.cell? ⟨w.heap.size + 1 + 1, 4, none⟩ = some (.int .i64 fen3) := cell_blk TZ2.out.g4 rfl
      have g5 : wz2.cell? ⟨w.heap.size + 1 + 1, 5, none⟩ = some (.int .i64 z0) := cell_blk TZ2.out.g4 rfl
      have g6 : wz2.cell? ⟨w.heap.size + 1 + 1, 6, none⟩ = some (.int .i64 z1) := cell_blk TZ2.out.g4 rfl
      have g7 : wz2.cell? ⟨w.heap.size + 1 + 1, 7, none⟩ = some (.int .i64 z2) := cell_blk TZ2.out.g4 rfl
      go_wp2_with fail
      refine HAP.out.mono ?_
      rintro e wr3 ⟨er3, r3, xa3, xb3, xe3, rn3, rm3, ro3, xc3, xd3, xf3, hi, rfl, hres, hb9⟩
      have TA3 := Lib.hid (TZ2.out.step hb9)
      have HI3 := Lib.hid hi
      have HCA30 := hres.en.cap
      have HCA31 := hres.en.capm
      have HCA32 := hres.mr.cap
      have HCA33 := hres.mr.capm
      have HCA34 := hres.ow.cap
      have HCA35 := hres.ow.capm
      obtain ⟨wz3, hwz⟩ : ∃ wz, wz = wr3.alloc (.cells #[.int .i64 r3.gen, .int .i64 r3.cut, .int .i64 r3.fence, .slice xa3 rn3 xc3, .slice xb3 rm3 xd3, .slice xe3 ro3 xf3] 26) := ⟨_, rfl⟩
      obtain ⟨nb3, hnb⟩ : ∃ nb, nb = wr3.heap.size := ⟨_, rfl⟩
      have hbz : Below wr3.heap.size wr3 wz3 := by rw [hwz]; exact (Below.refl _ _).alloc (Nat.le_refl _) _
      have hb99 := hb9.trans (hbz.mono hb9.size)
      have TZ3 := Lib.hid (TA3.out.step hbz)
      have N3 := Lib.hid (show wz3.heap[nb3]? = some (.cells #[.int .i64 r3.gen, .int .i64 r3.cut, .int .i64 r3.fence, .slice xa3 rn3 xc3, .slice xb3 rm3 xd3, .slice xe3 ro3 xf3] 26 (0, 0)) from by rw [hwz, hnb]; exact heap_alloc_new _ _)
      have RS3 := Lib.hid (hres.below hbz)
      have N2_3 := Lib.hid (blk_step N2.out hb99)
      have RS2_3 := Lib.hid (RS2.out.below hb99)
      have HWZ3 := Lib.hid hwz
      have HNB3 := Lib.hid hnb
      clear hi hres hb9 hbz hb99 hwz hnb HAP n0 n1 n2 n3 n4 n5 g0 g1 g2 g3 g4 g5 g6 g7
      go_upto_region 18 with fail
      rw [← HWZ3.out, ← HNB3.out]
      have HAP := Lib.hid ((apply_any (w := wz3) pfS (m := r2) (d := (⟨ad, dr, km, cut', fen', (y0, y1, y2)⟩ : EdV)) rfl RS2_3.out.en RS2_3.out.mr RS2_3.out.ow (HA.out.kept TZ3.out.below) (HD.out.kept TZ3.out.below) (HK.out.kept TZ3.out.below) (by have := HFG.out.2.1; omega) (by have := HFG.out.1; omega) (fun W x hx hB => HPP.out wz3 TZ3.out.below W x (by
        rcases hx with hx | hx
        · exact (yes_sub HY2.out hx).elim .inl (fun h => .inr (.inr h))
        · exact .inr (.inl hx)) hB)).mono fun e w' h => h.toR (fun x hx => HOKE.out w' x (by
        rcases hx with hx | hx
        · exact (yes_sub HY2.out hx).elim .inl (fun h => .inr (.inr h))
        · exact .inr (.inl hx))))
      have n0 : wz3.cell? ⟨nb2, 0, none⟩ = some (.int .i64 r2.gen) := cell_blk N2_3.out rfl
      have n1 : wz3.cell? ⟨nb2, 1, none⟩ = some (.int .i64 r2.cut) := cell_blk N2_3.out rfl
      have n2 : wz3.cell? ⟨nb2, 2, none⟩ = some (.int .i64 r2.fence) := cell_blk N2_3.out rfl
      have n3 : wz3.cell? ⟨nb2, 3, none⟩ = some (.slice xa2 rn2 xc2) := cell_blk N2_3.out rfl
      have n4 : wz3.cell? ⟨nb2, 4, none⟩ = some (.slice xb2 rm2 xd2) := cell_blk N2_3.out rfl
      have n5 : wz3.cell? ⟨nb2, 5, none⟩ = some (.slice xe2 ro2 xf2) := cell_blk N2_3.out rfl
      have e0 : wz3.cell? ⟨w.heap.size + 1, 0, none⟩ = some (.slice aa an ac) := cell_blk TZ3.out.g3 rfl
      have e1 : wz3.cell? ⟨w.heap.size + 1, 1, none⟩ = some (.slice da dn dc) := cell_blk TZ3.out.g3 rfl
      have e2 : wz3.cell? ⟨w.heap.size + 1, 2, none⟩ = some (.slice ka kn kc) := cell_blk TZ3.out.g3 rfl
      have e3 : wz3.cell? ⟨w.heap.size + 1, 3, none⟩ = some (.int .i64 cut') := cell_blk TZ3.out.g3 rfl
      have e4 : wz3.cell? ⟨w.heap.size + 1, 4, none⟩ = some (.int .i64 fen') := cell_blk TZ3.out.g3 rfl
      have e5 : wz3.cell? ⟨w.heap.size + 1, 5, none⟩ = some (.int .i64 y0) := cell_blk TZ3.out.g3 rfl
      have e6 : wz3.cell? ⟨w.heap.size + 1, 6, none⟩ = some (.int .i64 y1) := cell_blk TZ3.out.g3 rfl
      have e7 : wz3.cell? ⟨w.heap.size + 1, 7, none⟩ = some (.int .i64 y2) := cell_blk TZ3.out.g3 rfl
      go_wp2_with fail
      refine HAP.out.mono ?_
      rintro e wr4 ⟨er4, r4, xa4, xb4, xe4, rn4, rm4, ro4, xc4, xd4, xf4, hi, rfl, hres, hb9⟩
      have TA4 := Lib.hid (TZ3.out.step hb9)
      have HI4 := Lib.hid hi
      have HCA40 := hres.en.cap
      have HCA41 := hres.en.capm
      have HCA42 := hres.mr.cap
      have HCA43 := hres.mr.capm
      have HCA44 := hres.ow.cap
      have HCA45 := hres.ow.capm
      obtain ⟨wz4, hwz⟩ : ∃ wz, wz = wr4.alloc (.cells #[.int .i64 r4.gen, .int .i64 r4.cut, .int .i64 r4.fence, .slice xa4 rn4 xc4, .slice xb4 rm4 xd4, .slice xe4 ro4 xf4] 26) := ⟨_, rfl⟩
      obtain ⟨nb4, hnb⟩ : ∃ nb, nb = wr4.heap.size := ⟨_, rfl⟩
      have hbz : Below wr4.heap.size wr4 wz4 := by rw [hwz]; exact (Below.refl _ _).alloc (Nat.le_refl _) _
      have hb99 := hb9.trans (hbz.mono hb9.size)
      have TZ4 := Lib.hid (TA4.out.step hbz)
      have N4 := Lib.hid (show wz4.heap[nb4]? = some (.cells #[.int .i64 r4.gen, .int .i64 r4.cut, .int .i64 r4.fence, .slice xa4 rn4 xc4, .slice xb4 rm4 xd4, .slice xe4 ro4 xf4] 26 (0, 0)) from by rw [hwz, hnb]; exact heap_alloc_new _ _)
      have RS4 := Lib.hid (hres.below hbz)
      have N3_4 := Lib.hid (blk_step N3.out hb99)
      have RS3_4 := Lib.hid (RS3.out.below hb99)
      have HWZ4 := Lib.hid hwz
      have HNB4 := Lib.hid hnb
      clear hi hres hb9 hbz hb99 hwz hnb HAP n0 n1 n2 n3 n4 n5 e0 e1 e2 e3 e4 e5 e6 e7
      go_upto_region 19 with fail
      rw [← HWZ4.out, ← HNB4.out]
      by_cases h3 : er3 = 0
      rotate_left
      · have hz3 : (er3 == 0) = false := beq_eq_false_iff_ne.2 h3
        go_wp2_with fail
        go_ret
        exact ⟨rfl, TZ4.out.below⟩
      subst h3
      by_cases h4 : er4 = 0
      rotate_left
      · have hz4 : (er4 == 0) = false := beq_eq_false_iff_ne.2 h4
        go_wp2_with fail
        go_ret
        exact ⟨rfl, TZ4.out.below⟩
      subst h4
      have HXY := Lib.hid (swaps_same (d := (⟨ad, dr, km, cut', fen', (y0, y1, y2)⟩ : EdV)) (o := (⟨bd, fr, hm, cut3, fen3, (z0, z1, z2)⟩ : EdV)) HY1.out HY2.out (HI3.out.yes rfl) (HI4.out.yes rfl) HAG.out HKK.out)
      have HSM := Lib.hid (rsame13_any (w := wz4) (s := r3.gen) (s2 := r4.gen) (d := r3.cut) (d2 := r4.cut) (hz := r3.fence) (hz2 := r4.fence) RS3_4.out.en RS3_4.out.mr RS3_4.out.ow RS4.out.en RS4.out.mr RS4.out.ow)
      have n0 : wz4.cell? ⟨nb3, 0, none⟩ = some (.int .i64 r3.gen) := cell_blk N3_4.out rfl
      have n1 : wz4.cell? ⟨nb3, 1, none⟩ = some (.int .i64 r3.cut) := cell_blk N3_4.out rfl
      have n2 : wz4.cell? ⟨nb3, 2, none⟩ = some (.int .i64 r3.fence) := cell_blk N3_4.out rfl
      have n3 : wz4.cell? ⟨nb3, 3, none⟩ = some (.slice xa3 rn3 xc3) := cell_blk N3_4.out rfl
      have n4 : wz4.cell? ⟨nb3, 4, none⟩ = some (.slice xb3 rm3 xd3) := cell_blk N3_4.out rfl
      have n5 : wz4.cell? ⟨nb3, 5, none⟩ = some (.slice xe3 ro3 xf3) := cell_blk N3_4.out rfl
      have u0 : wz4.cell? ⟨nb4, 0, none⟩ = some (.int .i64 r4.gen) := cell_blk N4.out rfl
      have u1 : wz4.cell? ⟨nb4, 1, none⟩ = some (.int .i64 r4.cut) := cell_blk N4.out rfl
      have u2 : wz4.cell? ⟨nb4, 2, none⟩ = some (.int .i64 r4.fence) := cell_blk N4.out rfl
      have u3 : wz4.cell? ⟨nb4, 3, none⟩ = some (.slice xa4 rn4 xc4) := cell_blk N4.out rfl
      have u4 : wz4.cell? ⟨nb4, 4, none⟩ = some (.slice xb4 rm4 xd4) := cell_blk N4.out rfl
      have u5 : wz4.cell? ⟨nb4, 5, none⟩ = some (.slice xe4 ro4 xf4) := cell_blk N4.out rfl
      go_wp2_with fail
      refine HSM.out.mono ?_
      rintro e w9 ⟨⟨b9, rfl, hb⟩, hb9⟩
      obtain rfl : b9 = true := hb.2 (by rw [HXY.out]; exact ⟨rfl, rfl, rfl, rfl, rfl, rfl⟩)
      have T9 := Lib.hid (TZ4.out.step hb9)
      clear hb hb9
      go_wp2_with fail
      go_ret
      exact ⟨rfl, T9.out.below⟩
/-- as the frame takes it -/
theorem swaps_go (gen cut fen : Int) (ea : Option Addr) (en ec : Nat) (es : List EntV) (ma : Option Addr) (mn mc : Nat) (ms : List (Int × Int)) (oa : Option Addr) (on oc : Nat) (os : List (Int × Int × Int)) (aa : Option Addr) (an ac : Nat) (ad : List EntV) (da : Option Addr) (dn dc : Nat) (dr : List ByteArray) (ka : Option Addr) (kn kc : Nat) (km : List (Int × Int)) (cut' fen' y0 y1 y2 : Int) (ba : Option Addr) (bn bc : Nat) (bd : List EntV) (fa : Option Addr) (fn fc : Nat) (fr : List ByteArray) (ha : Option Addr) (hn hc : Nat) (hm : List (Int × Int)) (cut3 fen3 z0 z1 z2 : Int) (w : World) (hE : VecAt EntS w ea en ec es) (hM : VecAt MarkS w ma mn mc ms) (hO : VecAt OwnS w oa on oc os) (hA : VecAt EntS w aa an ac ad) (hD : VecAt KeyS w da dn dc dr) (hK : VecAt MarkS w ka kn kc km) (hB : VecAt EntS w ba bn bc bd) (hF : VecAt KeyS w fa fn fc fr) (hH : VecAt MarkS w ha hn hc hm) (hmx : ∃ m, w.cell? ⟨0, 0, none⟩ = some (.int .i64 m)) :
    Calls Tryz.prog 6 #[.agg #[.int .i64 gen, .int .i64 cut, .int .i64 fen, .slice ea en ec, .slice ma mn mc, .slice oa on oc], .agg #[.slice aa an ac, .slice da dn dc, .slice ka kn kc, .int .i64 cut', .int .i64 fen', .int .i64 y0, .int .i64 y1, .int .i64 y2], .agg #[.slice ba bn bc, .slice fa fn fc, .slice ha hn hc, .int .i64 cut3, .int .i64 fen3, .int .i64 z0, .int .i64 z1, .int .i64 z2]] w fun e w' => e = .returned (.bool true) ∧ Below w.heap.size w w' := by
  obtain ⟨mx, hmx⟩ := hmx
  exact swaps_any hE hM hO hA hD hK hB hF hH hmx
end Go.Proofs.YtadfmenlpnibnaaGreat
end PkMS14_0
