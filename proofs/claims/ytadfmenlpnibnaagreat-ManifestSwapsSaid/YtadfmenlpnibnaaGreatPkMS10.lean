/- Texts put together by packtpl2.py: ApLv, LabNm, LabAt, LabRight, Apnd, LabQuote, LabText, LabRText, LabSame, LabTwin. -/
import Derived.Test.YtadfmenlpnibnaaGreatPkMS1
import Derived.Test.YtadfmenlpnibnaaGreatPkMS9
import Derived.Deep.Slices
import Derived.Deep.Fields
import Derived.ChangeSame
import Derived.Laws.Cover1
import Derived.Maps.AppendAt
import Derived.Deep.RegionLaw
import Derived.BigRegion
import Derived.Laws.BitsAllLaws
import Derived.Deep.RegionHeld3
import Derived.BigQuiet
import Derived.Laws.StructEq
section PkMS10_0
/- Layer 13's fixed edit, by Apply of any edit; it lives; a few edits. -/
namespace Go.Proofs.YtadfmenlpnibnaaGreat
open Go.RowKit Go.Shelf LabPlain
set_option linter.unusedVariables false

def edFix : EdV := ⟨[], [], [(1, 5)], 0, 0, (1, 1, 1)⟩
theorem fix_man (pf : ByteArray → Int) : ma0.right pf := right_parts.2 ⟨by decide, by decide, by decide, by decide, (fun x h => by cases h), List.Pairwise.nil, (fun x h => by cases h), List.Pairwise.nil, (fun x h => by cases h), List.Pairwise.nil⟩
theorem fix_ed (pf : ByteArray → Int) : edFix.right pf :=
  ⟨(fun x h => by cases h), List.Pairwise.nil, (fun x h => by cases h), List.Pairwise.nil, (fun x h => by rw [show x = (1, 5) from (by simpa [edFix] using h)]; decide), List.pairwise_singleton _ _, by decide, by decide, by decide⟩
theorem fix_ents {l : List EntV} (h : EntsOk ma0 edFix l) : l = [] := by
  refine List.eq_nil_iff_forall_not_mem.2 fun x hx => ?_
  rcases ((h.mem x).1 hx).1 with h1 | ⟨h1, _⟩ <;> cases h1
theorem fix_yes {pf : ByteArray → Int} {er : Int} {r : MaV} (h : ApIs pf ma0 edFix er r) : er = 0 ∧ r = ⟨1, 0, 0, [], [(1, 5)], [(1, 1, 1)]⟩ := by
  rcases h with ⟨hne, hno, _⟩ | ⟨h0, hy⟩
  · exfalso
    cases hno with
    | form h => exact h ⟨fix_man pf, fix_ed pf⟩
    | ver _ _ h =>
      obtain ⟨x, hx, _⟩ := h
      cases hx
    | dup _ _ _ h =>
      obtain ⟨x, hx, h⟩ := h
      obtain rfl : x = (1, 5) := by simpa [edFix] using hx
      exact absurd h (by decide)
    | lost _ _ _ _ h =>
      obtain ⟨x, hx, _⟩ := h
      cases hx
    | fence _ _ _ _ _ h =>
      obtain ⟨x, hx, _⟩ := h
      cases hx
    | exist _ _ _ _ _ _ h =>
      obtain ⟨x, hx, _⟩ := h
      cases hx
    | range _ _ _ _ _ _ _ h => exact absurd h (by decide)
    | long _ _ _ _ _ _ _ _ h =>
      obtain ⟨l, hl, h2⟩ := h
      rw [fix_ents hl] at h2
      exact absurd h2 (by decide)
  · refine ⟨h0, ?_⟩
    obtain ⟨g, c, f, es, ms, os⟩ := r
    obtain rfl : es = [] := fix_ents hy.ok.ents
    obtain rfl : ms = [(1, 5)] := ris_ext ltM_irr ltM_trans hy.ok.marks.rise (List.pairwise_singleton _ _) fun x => by
      obtain ⟨k, s⟩ := x
      have h1 := hy.ok.marks.mem k s
      rw [h1]
      show (s = mark2 [] [(1, 5)] k ∧ ∃ s', (k, s') ∈ ([] : List (Int × Int)) ∨ (k, s') ∈ [((1 : Int), (5 : Int))]) ↔ _
      constructor
      · rintro ⟨h2, s', h3 | h3⟩
        · cases h3
        · obtain ⟨rfl, rfl⟩ : k = 1 ∧ s' = 5 := by simpa using h3
          rw [h2]
          decide
      · intro h2
        obtain ⟨rfl, rfl⟩ : k = 1 ∧ s = 5 := by simpa using h2
        exact ⟨by decide, 5, .inr (by simp)⟩
    obtain rfl : os = [(1, 1, 1)] := ris_ext ltO_irr ltO_trans hy.ok.owns.rise (List.pairwise_singleton _ _) fun x => by
      have h1 := hy.ok.owns.mem x
      rw [h1]
      constructor
      · rintro (⟨h2, _⟩ | h2)
        · cases h2
        · rw [h2]; exact List.mem_singleton.2 rfl
      · exact fun h2 => .inr (List.mem_singleton.1 h2)
    obtain rfl : g = 1 := hy.ok.gen
    obtain rfl : c = 0 := hy.ok.cut
    obtain rfl : f = 0 := hy.ok.fence
    rfl
theorem own_some9 {w : World} {base k n c : Nat} {a : Option Addr} {e : TypeId} {xs : List Value} (h : w.ownsRow base e k (.slice a n c) n xs) (hn : 0 < n) : ∃ g, a = some ⟨g, 0, none⟩ := by
  rcases h.2 with ⟨_, h0⟩ | ⟨g, cap, cur, he, _⟩
  · omega
  · cases he; exact ⟨g, rfl⟩
theorem apply_fix {w : World} {g c : Nat} (h : VecAt MarkS w (some ⟨g, 0, none⟩) 1 c [(1, 5)]) :
    Calls Tryz.prog 11 #[.agg #[.int .i64 0, .int .i64 0, .int .i64 0, .slice none 0 0, .slice none 0 0, .slice none 0 0], .agg #[.slice none 0 0, .slice none 0 0, .slice (some ⟨g, 0, none⟩) 1 c, .int .i64 0, .int .i64 0, .int .i64 1, .int .i64 1, .int .i64 1]] w fun e w' => ∃ ea ec g1 c1 g2 c2, e = .returned (.tuple #[.agg #[.int .i64 1, .int .i64 0, .int .i64 0, .slice ea 0 ec, .slice (some ⟨g1, 0, none⟩) 1 c1, .slice (some ⟨g2, 0, none⟩) 1 c2], .int .i64 0]) ∧ VecAt MarkS w' (some ⟨g1, 0, none⟩) 1 c1 [(1, 5)] ∧ VecAt OwnS w' (some ⟨g2, 0, none⟩) 1 c2 [(1, 1, 1)] ∧ Below w.heap.size w w' := by
  have hz : ∀ {α : Type} (S : Sty α), VecAt S w none 0 0 [] := fun S => VecAt.empty w none 0 (by decide) (fun _ => rfl)
  refine (apply_any (w := w) (fun _ => 0) (m := ma0) (d := edFix) rfl (hz EntS) (hz MarkS) (hz OwnS) (hz EntS) (hz KeyS) h (by decide) (by decide) (fun W x hx => by rcases hx with hx | hx <;> cases hx)).mono ?_
  rintro e w' ⟨er, r, ea, ma, oa, ec, mc, oc, hi, rfl, h1, h2, h3, h4⟩
  obtain ⟨rfl, rfl⟩ := fix_yes hi
  obtain ⟨g1, rfl⟩ := own_some9 h2 (by decide)
  obtain ⟨g2, rfl⟩ := own_some9 h3 (by decide)
  exact ⟨ea, ec, g1, mc, g2, oc, rfl, VecAt.ofOwn (S := MarkS) h2 rfl (fun _ _ => trivial), VecAt.ofOwn (S := OwnS) h3 rfl (fun _ _ => trivial), h4⟩

set_option maxRecDepth 100000 in
set_option maxHeartbeats 4000000 in
theorem lives_true (w : World) : Calls Tryz.prog 7 #[] w fun e w' => e = .returned (.bool true) ∧ Below w.heap.size w w' := by
  obtain ⟨wa, hwa⟩ : ∃ wa, wa = w.alloc (.cells #[.int .i64 1, .int .i64 5] 44) := ⟨_, rfl⟩
  have ba : Below w.heap.size w wa := by rw [hwa]; exact (Below.refl _ _).alloc (Nat.le_refl _) _
  have hv : VecAt MarkS wa (some ⟨w.heap.size, 0, none⟩) 1 1 [(1, 5)] := by
    rw [hwa]
    exact VecAt.ofOwn (S := MarkS) (World.ownsRow_lit (base := w.heap.size) (e := 44) (size := 2) w #[.int .i64 1, .int .i64 5] 1 (Nat.le_refl _) (by unfold maxLen; omega) rfl) rfl (fun _ _ => trivial)
  have HAP := Lib.hid (apply_fix hv)
  have HBA := Lib.hid ba
  have HWA := Lib.hid hwa
  clear hwa ba hv
  go_enter Tryz.func7, Tryz.ntmps7
  go_wp2_with fail
  rw [← HWA.out]
  refine HAP.out.mono ?_
  rintro e w1 ⟨ea, ec, g1, c1, g2, c2, rfl, hm, ho, hb1⟩
  obtain ⟨w2, hw2⟩ : ∃ w2, w2 = w1.alloc (.cells #[.int .i64 1, .int .i64 0, .int .i64 0, .slice ea 0 ec, .slice (some ⟨g1, 0, none⟩) 1 c1, .slice (some ⟨g2, 0, none⟩) 1 c2] 26) := ⟨_, rfl⟩
  have hb2 : Below w1.heap.size w1 w2 := by rw [hw2]; exact (Below.refl _ _).alloc (Nat.le_refl _) _
  have hg2 : w2.heap[w1.heap.size]? = some (.cells #[.int .i64 1, .int .i64 0, .int .i64 0, .slice ea 0 ec, .slice (some ⟨g1, 0, none⟩) 1 c1, .slice (some ⟨g2, 0, none⟩) 1 c2] 26 (0, 0)) := by rw [hw2]; exact heap_alloc_new _ _
  have HB2 := Lib.hid ((HBA.out.trans (hb1.mono HBA.out.size)).trans (hb2.mono (HBA.out.trans (hb1.mono HBA.out.size)).size))
  have HG2 := Lib.hid hg2
  have HM2 := Lib.hid (hm.kept hb2)
  have HO2 := Lib.hid (ho.kept hb2)
  have HW2 := Lib.hid hw2
  have HMK := Lib.hid (mark_any (w := w2) (s := 1) (d := 0) (hz := 0) (ea := ea) (en := 0) (ec := ec) (oa := some ⟨g2, 0, none⟩) (on := 1) (oc := c2) HM2.out 1)
  clear hm ho hb1 hb2 hg2 hw2
  go_wp2_with fail
  rw [← HW2.out]
  refine HMK.out.mono ?_
  rintro e w3 ⟨he3, hb3⟩
  obtain rfl : e = .returned (.int .i64 5) := he3
  have hg3 := (hb3.block w1.heap.size (Array.getElem?_eq_some_iff.1 HG2.out).1).trans HG2.out
  have m0 : w3.cell? ⟨w1.heap.size, 0, none⟩ = some (.int .i64 1) := cell_blk hg3 rfl
  have m1 : w3.cell? ⟨w1.heap.size, 1, none⟩ = some (.int .i64 0) := cell_blk hg3 rfl
  have m2 : w3.cell? ⟨w1.heap.size, 2, none⟩ = some (.int .i64 0) := cell_blk hg3 rfl
  have m3 : w3.cell? ⟨w1.heap.size, 3, none⟩ = some (.slice ea 0 ec) := cell_blk hg3 rfl
  have m4 : w3.cell? ⟨w1.heap.size, 4, none⟩ = some (.slice (some ⟨g1, 0, none⟩) 1 c1) := cell_blk hg3 rfl
  have m5 : w3.cell? ⟨w1.heap.size, 5, none⟩ = some (.slice (some ⟨g2, 0, none⟩) 1 c2) := cell_blk hg3 rfl
  have HB3 := Lib.hid (HB2.out.trans (hb3.mono HB2.out.size))
  have HDI := Lib.hid (did_any (w := w3) (s := 1) (d := 0) (hz := 0) (ea := ea) (en := 0) (ec := ec) (ma := some ⟨g1, 0, none⟩) (mn := 1) (mc := c1) (HO2.out.kept hb3) 1 1 1)
  clear hb3 hg3
  go_wp2_with fail
  refine HDI.out.mono ?_
  rintro e w4 ⟨he4, hb4⟩
  obtain rfl : e = .returned (.bool true) := he4
  have HB4 := Lib.hid (HB3.out.trans (hb4.mono HB3.out.size))
  clear hb4
  go_wp2_with fail
  go_ret
  exact ⟨rfl, HB4.out⟩


/-- what fewEdit says -/
def FewEd (an dn kn : Nat) (l : List EntV) (e : Ending) : Prop := ∃ b : Bool, e = .returned (.bool b) ∧ (b = true → dn ≤ 60 ∧ an ≤ 60 ∧ kn ≤ 100 ∧ ∀ j, j < an → (l.getD j EntS.z).key.size ≤ 100 ∧ (l.getD j EntS.z).part.size ≤ 1200)
theorem FewEd.no {an dn kn : Nat} {l : List EntV} : FewEd an dn kn l (.returned (.bool false)) := ⟨false, rfl, fun e => (by cases e)⟩
set_option maxRecDepth 100000 in
set_option maxHeartbeats 2000000 in
theorem fewed_says {w : World} {aa da ka : Option Addr} {an ac dn dc kn kc : Nat} {c f y0 y1 y2 : Int} {l : List EntV} (h : VecAt EntS w aa an ac l) :
    Calls Tryz.prog 9 #[.agg #[.slice aa an ac, .slice da dn dc, .slice ka kn kc, .int .i64 c, .int .i64 f, .int .i64 y0, .int .i64 y1, .int .i64 y2]] w fun e w' => FewEd an dn kn l e ∧ Below w.heap.size w w' := by
  have hac1 := h.cap
  have hac2 := h.capm
  obtain ⟨wb, hwb⟩ : ∃ wb, wb = w.alloc (.cells #[.slice aa an ac, .slice da dn dc, .slice ka kn kc, .int .i64 c, .int .i64 f, .int .i64 y0, .int .i64 y1, .int .i64 y2] 31) := ⟨_, rfl⟩
  have bb : Below w.heap.size w wb := by rw [hwb]; exact (Below.refl _ _).alloc (Nat.le_refl _) _
  have ga : wb.heap[w.heap.size]? = some (.cells #[.slice aa an ac, .slice da dn dc, .slice ka kn kc, .int .i64 c, .int .i64 f, .int .i64 y0, .int .i64 y1, .int .i64 y2] 31 (0, 0)) := by rw [hwb]; exact heap_alloc_new _ _
  have HF := Lib.hid (few_says (w := wb) (s := 0) (d := 0) (hz := 0) (ma := none) (mn := 0) (mc := 0) (oa := none) (on := 0) (oc := 0) (h.kept bb))
  have HBB := Lib.hid bb
  have HWB := Lib.hid hwb
  have a0 : wb.cell? ⟨w.heap.size, 0, none⟩ = some (.slice aa an ac) := cell_blk ga rfl
  have a1 : wb.cell? ⟨w.heap.size, 1, none⟩ = some (.slice da dn dc) := cell_blk ga rfl
  have a2 : wb.cell? ⟨w.heap.size, 2, none⟩ = some (.slice ka kn kc) := cell_blk ga rfl
  clear hwb bb ga h
  go_enter Tryz.func9, Tryz.ntmps9
  by_cases b1 : (dn : Int) > 60
  · go_wp2_with fail
    rw [← HWB.out]
    go_wp2_with fail
    go_ret
    exact ⟨FewEd.no, HBB.out⟩
  by_cases b2 : (an : Int) > 60
  · go_wp2_with fail
    rw [← HWB.out]
    go_wp2_with fail
    go_ret
    exact ⟨FewEd.no, HBB.out⟩
  by_cases b3 : (kn : Int) > 100
  · go_wp2_with fail
    rw [← HWB.out]
    go_wp2_with fail
    go_ret
    exact ⟨FewEd.no, HBB.out⟩
  have HS := Lib.hid (show dn ≤ 60 ∧ an ≤ 60 ∧ kn ≤ 100 from ⟨by omega, by omega, by omega⟩)
  go_wp2_with fail
  rw [← HWB.out]
  go_wp2_with fail
  refine HF.out.mono ?_
  rintro e w1 ⟨⟨b, rfl, hb⟩, hb1⟩
  have HB := Lib.hid (HBB.out.trans (hb1.mono HBB.out.size))
  have HFB := Lib.hid hb
  clear hb hb1
  go_wp2_with fail
  go_ret
  exact ⟨⟨b, rfl, fun e => ⟨HS.out.1, HS.out.2.1, HS.out.2.2, (HFB.out e).2.2.2⟩⟩, HB.out⟩
end Go.Proofs.YtadfmenlpnibnaaGreat
end PkMS10_0
section PkMS10_1
/- Package label's isLetter and isName, walked. -/
namespace Go.Proofs.YtadfmenlpnibnaaGreat
open Go.RowKit LabPlain
set_option linter.unusedVariables false

set_option maxHeartbeats 400000 in
theorem isletter_any (c : Nat) (hc : c < 256) (w : World) :
    Calls Tryz.prog 143 #[.int .u8 (c : Int)] w fun e w' => e = .returned (.bool (isL c)) ∧ w = w' := by
  by_cases h1 : 97 ≤ c
  · have h1i : (97 : Int) ≤ (c : Int) := by omega
    cases h2 : decide (c ≤ 122) with
    | true =>
      have hR := Lib.hid (show isL c = true by unfold isL; rw [h2, decide_eq_true h1]; rfl)
      have h2i : decide ((c : Int) ≤ 122) = true := by rw [decide_eq_true_eq] at h2 ⊢; omega
      clear h1 h2
      go_enter Tryz.func143, Tryz.ntmps143
      go_wp2_with fail
      go_ret
      rw [hR.out]; exact ⟨rfl, rfl⟩
    | false =>
      have hR := Lib.hid (show isL c = false by unfold isL; rw [h2, Bool.and_false])
      have h2i : decide ((c : Int) ≤ 122) = false := by rw [decide_eq_false_iff_not] at h2 ⊢; omega
      clear h1 h2
      go_enter Tryz.func143, Tryz.ntmps143
      go_wp2_with fail
      go_ret
      rw [hR.out]; exact ⟨rfl, rfl⟩
  · have hR := Lib.hid (show isL c = false by simp [isL, h1])
    have h1i : (c : Int) < 97 := by omega
    clear h1
    go_enter Tryz.func143, Tryz.ntmps143
    go_wp2_with fail
    go_ret
    rw [hR.out]; exact ⟨rfl, rfl⟩

set_option maxRecDepth 100000 in
set_option maxHeartbeats 1000000 in
theorem isname_any (s : ByteArray) (hs : s.size ≤ 9223372036854775807) (w : World) :
    Calls Tryz.prog 133 #[.string s] w fun e w' => e = .returned (.bool (isNm s)) ∧ w = w' := by
  by_cases h1 : s.size < 1
  · have hR := Lib.hid (show isNm s = false by unfold isNm; simp [show ¬ 1 ≤ s.size by omega])
    have h1i : (s.size : Int) < 1 := by omega
    clear h1
    go_enter Tryz.func133, Tryz.ntmps133
    go_wp2_with fail
    go_ret
    rw [hR.out]; exact ⟨rfl, rfl⟩
  · by_cases h8 : 8 < s.size
    · have hR := Lib.hid (show isNm s = false by unfold isNm; simp [show ¬ s.size ≤ 8 by omega])
      have h1i : (1 : Int) ≤ (s.size : Int) := by omega
      have h8i : (8 : Int) < (s.size : Int) := by omega
      clear h1 h8
      go_enter Tryz.func133, Tryz.ntmps133
      go_wp2_with fail
      go_ret
      rw [hR.out]; exact ⟨rfl, rfl⟩
    · have h1i : (1 : Int) ≤ (s.size : Int) := by omega
      have h8i : (s.size : Int) ≤ 8 := by omega
      have h0 : 0 < s.size := by omega
      obtain ⟨c0, hc0⟩ : ∃ c0, c0 = at_ s 0 := ⟨_, rfl⟩
      have hs0 : (s[0]'h0).toNat = c0 := by rw [hc0, at_get s 0 h0]
      have hc256 : c0 < 256 := by rw [hc0]; exact at_lt s 0
      have HC0 := Lib.hid hc0
      have h18 : decide (1 ≤ s.size) = true ∧ decide (s.size ≤ 8) = true := ⟨decide_eq_true (by omega), decide_eq_true (by omega)⟩
      have H18 := Lib.hid h18
      clear h1 h8 hc0 h18
      cases hl : isL c0 with
      | false =>
        have hR := Lib.hid (show isNm s = false by unfold isNm; rw [← HC0.out, hl]; simp)
        have hlt := isletter_any c0 hc256 w
        rw [hl] at hlt
        have HL := Lib.hid hlt
        clear hlt hl
        go_enter Tryz.func133, Tryz.ntmps133
        go_wp2_with fail
        refine HL.out.mono ?_
        rintro e w1 ⟨rfl, rfl⟩
        go_wp2_with fail
        go_ret
        rw [hR.out]; exact ⟨rfl, rfl⟩
      | true =>
        have hR := Lib.hid (show isNm s = allC s s.size by unfold isNm; rw [← HC0.out, hl, H18.out.1, H18.out.2]; simp)
        have hlt := isletter_any c0 hc256 w
        rw [hl] at hlt
        have HL := Lib.hid hlt
        clear hlt hl
        go_enter Tryz.func133, Tryz.ntmps133
        go_wp2_with fail
        refine HL.out.mono ?_
        rintro e w1 ⟨rfl, rfl⟩
        go_wp2_with fail
        clear hs0
        go_loop [21] (fun s21 => ∃ k : Nat, k ≤ s.size ∧ s21 = .int .i64 (k : Int) ∧ Hid (allC s k = true)) (fun s21 => s.size - (intOf s21).toNat)
        case atStart => exact ⟨0, by omega, rfl, Lib.hid rfl⟩
        case round =>
          obtain ⟨k, hk, rfl, HA⟩ := hrel
          by_cases hks : k < s.size
          · obtain ⟨c, hc⟩ : ∃ c, c = at_ s k := ⟨_, rfl⟩
            have hsk : (s[k]'hks).toNat = c := by rw [hc, at_get s k hks]
            have hcl : c < 256 := by rw [hc]; exact at_lt s k
            have HCK := Lib.hid hc
            clear hc
            have hlt := isletter_any c hcl w
            cases hok : okC c with
            | true =>
              have HA2 := Lib.hid (show allC s (k + 1) = true by rw [allC, HA.out, ← HCK.out, hok]; rfl)
              cases hl : isL c with
              | true =>
                rw [hl] at hlt
                have HL := Lib.hid hlt
                clear hlt hl hok
                go_wp2_with fail
                refine HL.out.mono ?_
                rintro e w1 ⟨rfl, rfl⟩
                go_wp2_with fail
                go_round
                case rel => exact ⟨k + 1, by omega, by go_num, HA2⟩
                case measure => simp [intOf]; omega
              | false =>
                rw [hl] at hlt
                have HL := Lib.hid hlt
                have hcc : c = 95 ∨ (48 ≤ c ∧ c ≤ 57) := by
                  unfold okC at hok
                  rw [hl] at hok
                  simpa using hok
                clear hlt hl hok
                by_cases h95 : c = 95
                · have h95i : ((c : Int) != 95) = false := by rw [bne_eq_false_iff_eq]; omega
                  clear hcc h95
                  go_wp2_with fail
                  refine HL.out.mono ?_
                  rintro e w1 ⟨rfl, rfl⟩
                  go_wp2_with fail
                  go_round
                  case rel => exact ⟨k + 1, by omega, by go_num, HA2⟩
                  case measure => simp [intOf]; omega
                · have h95i : ((c : Int) != 95) = true := by rw [bne_iff_ne]; omega
                  have h48 : (48 : Int) ≤ (c : Int) := by omega
                  have h57 : (c : Int) ≤ 57 := by omega
                  clear hcc h95
                  go_wp2_with fail
                  refine HL.out.mono ?_
                  rintro e w1 ⟨rfl, rfl⟩
                  go_wp2_with fail
                  go_round
                  case rel => exact ⟨k + 1, by omega, by go_num, HA2⟩
                  case measure => simp [intOf]; omega
            | false =>
              have hl : isL c = false := by
                unfold okC at hok
                cases hl : isL c with
                | false => rfl
                | true => rw [hl] at hok; simp at hok
              rw [hl] at hlt
              have HL := Lib.hid hlt
              have hcc : c ≠ 95 ∧ (c < 48 ∨ 57 < c) := by
                unfold okC at hok
                rw [hl] at hok
                simp at hok
                omega
              have HF := Lib.hid (show isNm s = false by
                rw [hR.out]
                have := allC_no (s := s) (k := k) (by rw [← HCK.out]; exact hok) (s.size - (k + 1))
                rw [show k + 1 + (s.size - (k + 1)) = s.size from by omega] at this
                exact this)
              have h95i : ((c : Int) != 95) = true := by rw [bne_iff_ne]; omega
              clear hlt hl hok
              rcases hcc with ⟨h95, h48 | h57⟩
              · have h48i : (c : Int) < 48 := by omega
                clear h95 h48
                go_wp2_with fail
                refine HL.out.mono ?_
                rintro e w1 ⟨rfl, rfl⟩
                go_wp2_with fail
                go_ret
                rw [HF.out]; exact ⟨rfl, rfl⟩
              · have h57i : (57 : Int) < (c : Int) := by omega
                have h48i : (48 : Int) ≤ (c : Int) := by omega
                clear h95 h57
                go_wp2_with fail
                refine HL.out.mono ?_
                rintro e w1 ⟨rfl, rfl⟩
                go_wp2_with fail
                go_ret
                rw [HF.out]; exact ⟨rfl, rfl⟩
          · obtain rfl : k = s.size := by omega
            have HT := Lib.hid (show isNm s = true by rw [hR.out]; exact HA.out)
            clear hks
            go_wp2_with fail
            go_ret
            rw [HT.out]; exact ⟨rfl, rfl⟩
end Go.Proofs.YtadfmenlpnibnaaGreat
end PkMS10_1
section PkMS10_2
/- A slice of labels, as a walk is told of it. -/
namespace Go.Proofs.YtadfmenlpnibnaaGreat
open Go.RowKit LabPlain
set_option linter.unusedVariables false

structure LabsAt (w : World) (a : Option Addr) (n c : Nat) (l : List Lab) : Prop where
  len : l.length = n
  cap : n ≤ c
  capm : c ≤ 9223372036854775807
  nl : a = none → c = 0
  size : ∀ x ∈ l, x.1.size ≤ 140737488355328 ∧ x.2.size ≤ 140737488355328
  cells : 0 < n → ∃ b off, a = some ⟨b, off, none⟩ ∧ b < w.heap.size ∧ ∀ i, i < n → w.cell? ⟨b, off + i * 2, none⟩ = some (.string (l.getD i lab0).1) ∧ w.cell? ⟨b, off + i * 2 + 1, none⟩ = some (.string (l.getD i lab0).2)
theorem LabsAt.keep {w w' : World} {a : Option Addr} {n c : Nat} {l : List Lab} (h : LabsAt w a n c l) {B : Nat} (hb : Below B w w') (hB : w.heap.size ≤ B) : LabsAt w' a n c l :=
  ⟨h.len, h.cap, h.capm, h.nl, h.size, fun hn => by
    obtain ⟨b, off, ha, hlt, hc⟩ := h.cells hn
    exact ⟨b, off, ha, Nat.lt_of_lt_of_le hlt hb.size, fun i hi => ⟨(hb.cell (p := ⟨b, off + i * 2, none⟩) (Nat.lt_of_lt_of_le hlt hB)).trans (hc i hi).1, (hb.cell (p := ⟨b, off + i * 2 + 1, none⟩) (Nat.lt_of_lt_of_le hlt hB)).trans (hc i hi).2⟩⟩⟩
theorem LabsAt.kept {w w' : World} {a : Option Addr} {n c : Nat} {l : List Lab} (h : LabsAt w a n c l) (hb : Below w.heap.size w w') : LabsAt w' a n c l := h.keep hb (Nat.le_refl _)
theorem LabsAt.empty (w : World) (a : Option Addr) (c : Nat) (hc : c ≤ 9223372036854775807) (ha : a = none → c = 0) : LabsAt w a 0 c [] :=
  ⟨rfl, Nat.zero_le _, hc, ha, (fun x hx => by cases hx), fun h => absurd h (Nat.lt_irrefl 0)⟩
theorem lab_mem {l : List Lab} {i : Nat} (h : i < l.length) : l.getD i lab0 ∈ l := by
  have : l.getD i lab0 = l[i] := by simp [h]
  rw [this]; exact List.getElem_mem h
end Go.Proofs.YtadfmenlpnibnaaGreat
end PkMS10_2
section PkMS10_3
/- Package label's Right, walked. -/
namespace Go.Proofs.YtadfmenlpnibnaaGreat
open Go.RowKit LabPlain
set_option linter.unusedVariables false

theorem below_drewN {B : Nat} {a w : World} (h : Below B a w) (q : Nat) : Below B a (w.drewN q) := ⟨h.os, h.tape, h.output, h.size, h.block⟩

set_option maxRecDepth 100000 in
set_option maxHeartbeats 1000000 in
theorem right_any {w : World} {a : Option Addr} {n c : Nat} {l : List Lab} (h : LabsAt w a n c l) :
    Calls Tryz.prog 109 #[.slice a n c] w fun e w' => e = .returned (.bool (isSet l)) ∧ Below w.heap.size w w' := by
  have hlen := h.len
  have hcap := h.cap
  have hcm := h.capm
  have HH := Lib.hid h
  have HL := Lib.hid hlen
  clear h hlen
  by_cases h4 : 4 < n
  · have HR := Lib.hid (show isSet l = false by unfold isSet; rw [decide_eq_false (by rw [HL.out]; omega)]; rfl)
    have h4i : (4 : Int) < (n : Int) := by omega
    clear h4
    go_enter Tryz.func109, Tryz.ntmps109
    go_wp2_with fail
    go_ret
    rw [HR.out]; exact ⟨rfl, Below.refl _ _⟩
  · have h4i : (n : Int) ≤ 4 := by omega
    have HR := Lib.hid (show isSet l = upTo l n by unfold isSet; rw [decide_eq_true (by rw [HL.out]; omega), HL.out]; rfl)
    clear h4
    go_enter Tryz.func109, Tryz.ntmps109
    go_wp2_with fail
    go_loopw [10] (fun s10 wr => ∃ k : Nat, k ≤ n ∧ s10 = .int .i64 (k : Int) ∧ Hid (upTo l k = true) ∧ Hid (Below w.heap.size w wr)) (fun s10 _ => n - (intOf s10).toNat)
    case atStart => exact ⟨0, by omega, rfl, Lib.hid rfl, Lib.hid (Below.refl _ _)⟩
    case round =>
      obtain ⟨k, hk, rfl, HU, HB⟩ := hrel
      rename World => wr
      by_cases hkn : k < n
      · obtain ⟨b, off, rfl, hlt, hcell⟩ := (HH.out.kept HB.out).cells (by omega)
        obtain ⟨h1, h2⟩ := hcell k hkn
        have hsz := HH.out.size _ (lab_mem (l := l) (i := k) (by have := HL.out; omega))
        obtain ⟨x1, hx1⟩ : ∃ x, x = (l.getD k lab0).1 := ⟨_, rfl⟩
        obtain ⟨x2, hx2⟩ : ∃ x, x = (l.getD k lab0).2 := ⟨_, rfl⟩
        rw [← hx1] at h1 hsz
        rw [← hx2] at h2 hsz
        have HX1 := Lib.hid hx1
        have HX2 := Lib.hid hx2
        have HC := Lib.hid hcell
        have hno := fun (h : (isNm x1 && decide (x2.size ≤ 16) && (decide (k = 0) || ltB (l.getD (k - 1) lab0).1 x1)) = false) => (show isSet l = false by
          rw [HR.out]
          rw [HX1.out, HX2.out] at h
          have := upTo_no (l := l) (k := k) h (n - (k + 1))
          rw [show k + 1 + (n - (k + 1)) = n from by omega] at this
          exact this)
        have HNO := Lib.hid hno
        have hnm := isname_any x1 (by omega) (wr.alloc (.cells #[.string x1, .string x2] 140))
        have hb2 : Below w.heap.size w (wr.alloc (.cells #[.string x1, .string x2] 140)) := HB.out.alloc HB.out.size _
        have HB2 := Lib.hid hb2
        clear hx1 hx2 hcell hno hb2
        cases hn : isNm x1 with
        | false =>
          rw [hn] at hnm
          have HN := Lib.hid hnm
          have HF := Lib.hid (HNO.out (by rw [hn]; rfl))
          clear hnm hn
          go_wp2_with fail
          refine HN.out.mono ?_
          rintro e w2 ⟨rfl, rfl⟩
          go_wp2_with fail
          go_ret
          rw [HF.out]; exact ⟨rfl, HB2.out⟩
        | true =>
          rw [hn] at hnm
          have HN := Lib.hid hnm
          have HNM := Lib.hid hn
          clear hnm hn
          by_cases h16 : 16 < x2.size
          · have HF := Lib.hid (HNO.out (by rw [decide_eq_false (show ¬ x2.size ≤ 16 by omega), Bool.and_false]; rfl))
            have h16i : (16 : Int) < (x2.size : Int) := by omega
            clear h16
            go_wp2_with fail
            refine HN.out.mono ?_
            rintro e w2 ⟨rfl, rfl⟩
            go_wp2_with fail
            go_ret
            rw [HF.out]; exact ⟨rfl, HB2.out⟩
          · have h16i : (x2.size : Int) ≤ 16 := by omega
            have HD := Lib.hid (show decide (x2.size ≤ 16) = true from decide_eq_true (by omega))
            clear h16
            rcases Nat.eq_zero_or_pos k with rfl | hk0
            · rw [Nat.zero_mul, Nat.add_zero] at h1 h2
              have HU2 := Lib.hid (show upTo l (0 + 1) = true by rw [upTo, HU.out, ← HX1.out, ← HX2.out, HNM.out, HD.out]; rfl)
              go_wp2_with fail
              refine HN.out.mono ?_
              rintro e w2 ⟨rfl, rfl⟩
              go_wp2_with fail
              go_quiet (fail)
              rename Nat => nq
              go_wp2_with fail
              go_roundw
              case rel => exact ⟨1, by omega, by go_num, HU2, Lib.hid (below_drewN HB2.out nq)⟩
              case measure => simp [intOf]; omega
            · obtain ⟨j, rfl⟩ : ∃ j, k = j + 1 := ⟨k - 1, by omega⟩
              obtain ⟨y, hy⟩ : ∃ y, y = (l.getD j lab0).1 := ⟨_, rfl⟩
              have hcy := (HC.out j (by omega)).1
              rw [← hy] at hcy
              have hcy2 : (wr.alloc (.cells #[.string x1, .string x2] 140)).cell? ⟨b, off + j * 2, none⟩ = some (.string y) := by
                rw [← hcy]; exact ((Below.refl wr.heap.size wr).alloc (Nat.le_refl _) _).cell (p := ⟨b, off + j * 2, none⟩) hlt
              have HY := Lib.hid hy
              have hjn : (j : Int) < (n : Int) := by omega
              have hw1 : IntKind.i64.wrap (j : Int) = (j : Int) := IntWalk.i64_in _ (by omega)
              have hw2 : IntKind.i64.wrap ((j : Int) + 1 - 1) = (j : Int) := by rw [Int.add_sub_cancel]; exact hw1
              clear hy hcy hk0
              cases hlt2 : ltB y x1 with
              | true =>
                have hle : (Op.bytesLess x1.toList y.toList || x1.toList == y.toList) = false := by rw [leq_not, hlt2]; rfl
                have HU2 := Lib.hid (show upTo l (j + 1 + 1) = true by rw [upTo, HU.out, ← HX1.out, ← HX2.out, HNM.out, HD.out, Nat.add_sub_cancel, ← HY.out, hlt2]; simp)
                clear hlt2
                go_wp2_with fail
                refine HN.out.mono ?_
                rintro e w2 ⟨rfl, rfl⟩
                go_wp2_with fail
                go_quiet (fail)
                rename Nat => nq
                go_wp2_with fail
                go_roundw
                case rel => exact ⟨j + 1 + 1, by omega, by go_num, HU2, Lib.hid (below_drewN HB2.out nq)⟩
                case measure => simp [intOf]; omega
              | false =>
                have hle : (Op.bytesLess x1.toList y.toList || x1.toList == y.toList) = true := by rw [leq_not, hlt2]; rfl
                have HF := Lib.hid (HNO.out (by rw [Nat.add_sub_cancel, ← HY.out, hlt2]; simp))
                clear hlt2
                go_wp2_with fail
                refine HN.out.mono ?_
                rintro e w2 ⟨rfl, rfl⟩
                go_wp2_with fail
                go_quiet (fail)
                rename Nat => nq
                go_wp2_with fail
                go_ret
                rw [HF.out]; exact ⟨rfl, below_drewN HB2.out nq⟩
      · obtain rfl : k = n := by omega
        have HT := Lib.hid (show isSet l = true by rw [HR.out]; exact HU.out)
        clear hkn
        go_wp2_with fail
        go_ret
        rw [HT.out]; exact ⟨rfl, HB.out⟩
end Go.Proofs.YtadfmenlpnibnaaGreat
end PkMS10_3
section PkMS10_4
/- append of bytes to bytes that the call owns, and where the new row lies; two rows kept apart. -/
namespace Go.Proofs.YtadfmenlpnibnaaGreat
open Go.RowKit
set_option linter.unusedVariables false

theorem own_some2 {w : World} {base n : Nat} {e : TypeId} {size : Nat} {v : Value} {xs : List Value} (h : w.ownsRow base e size v n xs) (hn : 0 < n) : ∃ g c, v = .slice (some ⟨g, 0, none⟩) n c := by
  rcases h.2 with ⟨_, h0⟩ | ⟨g, cap, cur, he, _⟩
  · omega
  · exact ⟨g, cap, he⟩
theorem wpList_append_bytes_at {w : World} {ops : Array Oper} {rest : List Oper} {o : Oper} {a : Act} {Q : Exit → Act → World → Prop} (hgd : o.guard = none) (s x : Operand)
    (ho : o.op = .call { callee := .builtin .append, args := #[s, x], argTypes := #[159, 159] })
    (base : Nat) (v : Value) (n : Nat) (xs : List Nat) (hs : a.eval s = v) (hown : w.ownsRow base 5 1 v n (bv xs))
    (src : Option Addr) (m c : Nat) (ys : List Nat) (hx : a.eval x = .slice src m c) (hb : BytesAt w src m c ys)
    (h63 : n + m ≤ 140737488355328) (hbase : base ≤ w.heap.size)
    (h : ∀ v' w', w'.ownsRow base 5 1 v' (n + m) (bv (xs ++ ys)) → w.grownBy w' v.ownBlock → (v'.ownBlock = v.ownBlock ∨ v'.ownBlock = some w.heap.size) → wpList Tryz.prog ops Q rest (a.put o.dst v') w') : wpList Tryz.prog ops Q (o :: rest) a w := by
  obtain ⟨i0, hi, hz0, hz1, hz2⟩ := info_parts info_u8
  rcases src with _ | ad
  · have hc := hb.nl rfl
    have hm : m = 0 := by have := hb.cap; omega
    subst hm
    subst hc
    have hy : ys = [] := List.eq_nil_of_length_eq_zero hb.len
    subst hy
    refine wpList_append_own_none hgd s x 159 ho base 5 i0 1 Tryz.underlying159 hi v n (bv xs) hs hown hx ?_
    exact h v w (by simpa using hown) (World.grownBy.refl _ _) (.inl rfl)
  · refine wpList_append_own_at w hgd s x 159 ho base 5 i0 (.int .u8 0) 1 1 Tryz.underlying159 hi hz0 hz1 hz2 rfl (by decide) v n (bv xs) hs hown ad m c (bv ys) hx (by rw [bv_length, hb.len]; omega) hb.src (bv_oneCell _) (by unfold maxLen; omega) (by omega) hbase ?_
    intro v' w' h1 h2 _ h4
    exact h v' w' (by rw [bv_append]; exact h1) h2 h4

theorem step_append_own_at2 {P : Program} {ops : Array Oper} {o : Oper} {a : Act} {w : World} {K : Act → World → Prop} {Q : Exit → Act → World → Prop} {E : Prop}
    (hgd : o.guard = none) (s x : Operand) (t : TypeId) (ho : o.op = .call { callee := .builtin .append, args := #[s, x], argTypes := #[t, t] })
    (base : Nat) (e : TypeId) (i : TypeInfo) (z : Value) (size bytes : Nat) (ht : P.underlying t = some (.slice e)) (hi : P.info? e = some i) (hz : i.zero = some z)
    (hsize : i.size = size) (hby : i.bytes = bytes) (hzs : z.cells.size = size) (hsz : 0 < size)
    (v : Value) (n : Nat) (xs : List Value) (hs : a.eval s = v) (hown : w.ownsRow base e size v n xs)
    (ad : Addr) (m c : Nat) (news : List Value) (hx : a.eval x = .slice (some ad) m c) (hl : news.length = m * size) (hnews : ∀ j u, news[j]? = some u → w.cell? (ad.add j) = some u) (h1 : ∀ u ∈ news, u.oneCell' = true)
    (h63 : n + m ≤ maxLen) (hbytes : (n + m) * bytes ≤ 140737488355328) (hbase : base ≤ w.heap.size)
    (h : ∀ v' w', w'.ownsRow base e size v' (n + m) (xs ++ news) → w.grownBy w' v.ownBlock → (v'.ownBlock = v.ownBlock ∨ v'.ownBlock = some w.heap.size) → K (a.put o.dst v') w') :
    if Region.wanted o (yielded ops a.tmps) = true then Oper.wp P o a w K Q else E := by
  have hw : Region.wanted o (yielded ops a.tmps) = true := by simp [Region.wanted, hgd]
  rw [if_pos hw]
  obtain ⟨v', w', hr, h2, h3, h4, h5⟩ := run_append_own_at (P := P) w base t o.type e i z size bytes ht hi hz hsize hby hzs hsz v n xs hown ad m c news hl hnews h1 h63 hbytes hbase
  unfold Oper.wp execOp
  simp only [ho, resolve, invoke, builtin, Sem.run_bind, Sem.run_pure, Result.andThen_ok, List.map_toArray, List.map_cons, List.map_nil, hs, hx, hr]
  exact h v' w' h2 h3 h5

/-- what one row's block is, another one's isn't -/
def Apart (v u : Value) : Prop := v.ownBlock = none ∨ v.ownBlock ≠ u.ownBlock
theorem Apart.none (u : Value) : Apart (.slice none 0 0) u := .inl rfl
theorem Apart.symm {v u : Value} (h : Apart v u) : Apart u v := by
  unfold Apart at h ⊢
  cases hu : u.ownBlock with
  | none => exact .inl rfl
  | some k =>
    rcases h with h | h
    · rw [h]; exact .inr (by simp)
    · rw [hu] at h; exact .inr (fun e => h e.symm)
/-- v moved or not, u stays: still apart -/
theorem Apart.moved {s : Nat} {v v' u : Value} (h : Apart v u) (hat : v'.ownBlock = v.ownBlock ∨ v'.ownBlock = some s) (hu : ∀ k, u.ownBlock = some k → k < s) : Apart v' u := by
  rcases hat with e | e
  · unfold Apart; rw [e]; exact h
  · refine .inr (fun e2 => ?_)
    rw [e] at e2
    have := hu _ e2.symm
    omega
theorem Apart.keeps {w w' : World} {base n : Nat} {e : TypeId} {size : Nat} {v u : Value} {xs : List Value} (h : Apart u v) (hown : w.ownsRow base e size u n xs) (hg : w.grownBy w' v.ownBlock) : w'.ownsRow base e size u n xs := hown.kept hg h
end Go.Proofs.YtadfmenlpnibnaaGreat
end PkMS10_4
section PkMS10_5
/- Package label's quoted, walked: a value as it stands in a text. -/
namespace Go.Proofs.YtadfmenlpnibnaaGreat
open Go.RowKit LabPlain
set_option linter.unusedVariables false

/-- a digit of a byte; a byte, as it is written -/
def dg (n : Nat) : Nat := if n < 10 then 48 + n else 87 + n
def plainC (c : Nat) : Bool := decide (32 ≤ c) && decide (c ≤ 126) && decide (c ≠ 34) && decide (c ≠ 92)
def qb (c : Nat) : List Nat := if plainC c then [c] else [92, dg (c / 16), dg (c % 16)]
/-- the first k bytes of a value, as they are written -/
def qs (s : ByteArray) : Nat → List Nat
  | 0 => []
  | k + 1 => qs s k ++ qb (at_ s k)
theorem dg_lt (n : Nat) (h : n < 16) : dg n < 256 := by unfold dg; split <;> omega
theorem qb_byte {c : Nat} (h : c < 256) : ∀ x ∈ qb c, x < 256 := by
  intro x hx
  unfold qb at hx
  split at hx
  · simp at hx; omega
  · have h1 := dg_lt (c / 16) (by omega)
    have h2 := dg_lt (c % 16) (by omega)
    simp at hx
    omega
theorem qs_byte (s : ByteArray) : ∀ k, ∀ x ∈ qs s k, x < 256
  | 0, x, hx => by cases hx
  | k + 1, x, hx => by
    rcases List.mem_append.1 hx with h | h
    · exact qs_byte s k x h
    · exact qb_byte (at_lt s k) x h
theorem qs_len (s : ByteArray) : ∀ k, (qs s k).length ≤ 3 * k
  | 0 => by simp [qs]
  | k + 1 => by
    have := qs_len s k
    have h2 : (qb (at_ s k)).length ≤ 3 := by unfold qb; split <;> simp
    rw [qs, List.length_append]; omega
theorem dig_at : ∀ n, n < 16 → ((({ data := #[48, 49, 50, 51, 52, 53, 54, 55, 56, 57, 97, 98, 99, 100, 101, 102] } : ByteArray)[n]?).map UInt8.toNat) = some (dg n) := by decide

set_option maxRecDepth 100000 in
set_option maxHeartbeats 1000000 in
theorem quoted_any (s : ByteArray) (hs : s.size ≤ 1000) (w : World) :
    Calls Tryz.prog 110 #[.string s] w fun e w' => e = .returned (.string (bs (qs s s.size))) ∧ Below w.heap.size w w' := by
  obtain ⟨i0, hi, hz0, hz1, hz2⟩ := info_parts info_u8
  have HO0 := Lib.hid (own_nil_bytes w w.heap.size)
  go_enter Tryz.func110, Tryz.ntmps110
  go_wp2_with fail
  go_loopw [3, 8] (fun s3 s8 wr => ∃ (k m c : Nat) (a : Option Addr), k ≤ s.size ∧ s8 = .int .i64 (k : Int) ∧ s3 = .slice a m c ∧ Hid (m = (qs s k).length) ∧ Hid (wr.ownsRow w.heap.size 5 1 (.slice a m c) m (bv (qs s k))) ∧ Hid (Below w.heap.size w wr)) (fun _ s8 _ => s.size - (intOf s8).toNat)
  case atStart => exact ⟨0, 0, 0, none, by omega, rfl, rfl, Lib.hid rfl, HO0, Lib.hid (Below.refl _ _)⟩
  case round =>
    clear HO0
    obtain ⟨k, m, cp, a, hk, rfl, rfl, HM, HO, HB⟩ := hrel
    rename World => wr
    by_cases hks : k < s.size
    · obtain ⟨c, hc⟩ : ∃ c, c = at_ s k := ⟨_, rfl⟩
      have hsk : (s[k]'hks).toNat = c := by rw [hc, at_get s k hks]
      have hcl : c < 256 := by rw [hc]; exact at_lt s k
      have HCK := Lib.hid hc
      have hm3 : m ≤ 3000 := by have := qs_len s k; have := HM.out; omega
      have hbs := HB.out.size
      clear hc
      by_cases hp : plainC c = true
      · have hpp : 32 ≤ c ∧ c ≤ 126 ∧ c ≠ 34 ∧ c ≠ 92 := by simpa [plainC, and_assoc] using hp
        obtain ⟨p1, p2, p3, p4⟩ := hpp
        have HQ := Lib.hid (show qs s (k + 1) = qs s k ++ [c] by rw [qs, ← HCK.out]; unfold qb; rw [if_pos hp])
        have i1 : (32 : Int) ≤ (c : Int) := by omega
        have i2 : (c : Int) ≤ 126 := by omega
        have i3 : ((c : Int) == 34) = false := by rw [beq_eq_false_iff_ne]; omega
        have i4 : ((c : Int) == 92) = false := by rw [beq_eq_false_iff_ne]; omega
        clear p1 p2 p3 p4 hp
        have HOA := Lib.hid (HO.out.alloc (.cells #[.int .u8 (c : Int)] 5))
        go_wp2_with (at_builtin; refine wpList_append_own_at _ rfl (.tmp 37) (.tmp 39) 159 rfl w.heap.size 5 i0 (.int .u8 0) 1 1 Tryz.underlying159 hi hz0 hz1 hz2 rfl (by decide) _ _ _ rfl HOA.out ⟨wr.heap.size, 0, none⟩ 1 1 [.int .u8 (c : Int)] rfl rfl (one_src _ _ _) (one_oneCell rfl) (by unfold maxLen; omega) (by omega) (by simp; omega) ?_)
        intro v2 w2 ho2 hg2 _ _
        obtain ⟨g2, c2, rfl⟩ := own_some2 ho2 (by omega)
        have HB2 := Lib.hid (below_own (HB.out.alloc hbs (.cells #[.int .u8 (c : Int)] 5)) HOA.out hg2 (Nat.le_refl _) (by simp; omega))
        have HO2 := Lib.hid ho2
        clear ho2 hg2
        go_wp2_with fail
        go_roundw
        case rel => exact ⟨k + 1, m + 1, c2, _, by omega, by go_num, rfl, Lib.hid (by rw [HQ.out, List.length_append, ← HM.out]; rfl), Lib.hid (by rw [HQ.out, bv_append]; exact HO2.out), HB2⟩
        case measure => simp [intOf]; omega
      · have hp2 : plainC c = false := by simpa using hp
        have HQ := Lib.hid (show qs s (k + 1) = qs s k ++ [92, dg (c / 16), dg (c % 16)] by rw [qs, ← HCK.out]; unfold qb; rw [if_neg hp])
        have hpp : ((c : Int) < 32) ∨ ((32 : Int) ≤ (c : Int) ∧ (126 : Int) < (c : Int)) ∨ ((32 : Int) ≤ (c : Int) ∧ (c : Int) ≤ 126 ∧ ((c : Int) == 34) = true) ∨ ((32 : Int) ≤ (c : Int) ∧ (c : Int) ≤ 126 ∧ ((c : Int) == 34) = false ∧ ((c : Int) == 92) = true) := by
          simp [plainC] at hp2
          simp only [beq_iff_eq, beq_eq_false_iff_ne]
          omega
        have hand : bits .and .u8 (c : Int) 15 = ((c % 16 : Nat) : Int) := by
          have := u8_and_nat c 15 hcl (by omega)
          rw [nat_mask4] at this
          exact this
        obtain ⟨h, hh⟩ : ∃ h, h = c / 16 := ⟨_, rfl⟩
        obtain ⟨l, hl⟩ : ∃ l, l = c % 16 := ⟨_, rfl⟩
        have hdiv : (c : Int) / 16 = (h : Int) := by omega
        have hh16 : h < 16 := by omega
        have hl16 : l < 16 := by omega
        have hhi : (h : Int) < 16 := by omega
        have hli : (l : Int) < 16 := by omega
        rw [← hl] at hand HQ
        rw [← hh] at HQ
        obtain ⟨d1, hd1⟩ : ∃ d, d = dg h := ⟨_, rfl⟩
        obtain ⟨d2, hd2⟩ : ∃ d, d = dg l := ⟨_, rfl⟩
        have hx1 : ((({ data := #[48, 49, 50, 51, 52, 53, 54, 55, 56, 57, 97, 98, 99, 100, 101, 102] } : ByteArray)[h]'hh16).toNat : Nat) = d1 := by
          have := dig_at h hh16
          rw [ByteArray.getElem?_lt' _ _ hh16] at this
          rw [hd1]
          exact Option.some.inj this
        have hx2 : ((({ data := #[48, 49, 50, 51, 52, 53, 54, 55, 56, 57, 97, 98, 99, 100, 101, 102] } : ByteArray)[l]'hl16).toNat : Nat) = d2 := by
          have := dig_at l hl16
          rw [ByteArray.getElem?_lt' _ _ hl16] at this
          rw [hd2]
          exact Option.some.inj this
        have hd1l : d1 < 256 := by rw [hd1]; exact dg_lt _ hh16
        have hd2l : d2 < 256 := by rw [hd2]; exact dg_lt _ hl16
        rw [← hd1, ← hd2] at HQ
        have HLIT := Lib.hid (BytesAt.lit wr #[.int .u8 92, .int .u8 (d1 : Int), .int .u8 (d2 : Int)] [92, d1, d2] rfl (by intro x hx; simp at hx; omega) (by simp) (by simp)).drew
        have HOA := Lib.hid ((HO.out.alloc (.cells #[.int .u8 92, .int .u8 (d1 : Int), .int .u8 (d2 : Int)] 5)).drew)
        have HBA := Lib.hid ((HB.out.alloc hbs (.cells #[.int .u8 92, .int .u8 (d1 : Int), .int .u8 (d2 : Int)] 5)).drew)
        clear hp hp2 hh hl hd1 hd2
        rcases hpp with i1 | ⟨i1, i2⟩ | ⟨i1, i2, i3⟩ | ⟨i1, i2, i3, i4⟩
        all_goals
          go_wp2_with fail
          go_region_law (first | (refine step_append_own_at2 rfl (.tmp 28) (.tmp 35) 159 rfl w.heap.size 5 i0 (.int .u8 0) 1 1 Tryz.underlying159 hi hz0 hz1 hz2 rfl (by decide) _ _ _ rfl HOA.out ⟨wr.heap.size, 0, none⟩ 3 3 (bv [92, d1, d2]) rfl rfl HLIT.out.src (bv_oneCell _) (by unfold maxLen; omega) (by omega) (by simp; omega) ?_; intro v2 w2 ho2 hg2 hat2))
          all_goals
            obtain ⟨g2, c2, rfl⟩ := own_some2 ho2 (by omega)
            have HB2 := Lib.hid (below_own HBA.out HOA.out hg2 (Nat.le_refl _) (by simp; omega))
            have HO2 := Lib.hid ho2
            clear ho2 hg2 hat2
            go_wp2_with fail
            go_roundw
            case rel => exact ⟨k + 1, m + 3, c2, _, by omega, by go_num, rfl, Lib.hid (by rw [HQ.out, List.length_append, ← HM.out]; rfl), Lib.hid (by rw [HQ.out, bv_append]; exact HO2.out), HB2⟩
            case measure => simp [intOf]; omega
    · obtain rfl : k = s.size := by omega
      obtain ⟨a9, c9, he9, hba, _⟩ := BytesAt.ofOwn HO.out (qs_byte s _) (by have := qs_len s s.size; have := HM.out; omega)
      simp only [Value.slice.injEq, true_and] at he9
      obtain ⟨rfl, rfl⟩ := he9
      have hcv := hba.conv
      have HB9 := HB
      clear hks hba
      go_wp2_with fail
      go_ret
      exact ⟨rfl, HB9.out⟩
end Go.Proofs.YtadfmenlpnibnaaGreat
end PkMS10_5
section PkMS10_6
/- Package label's Text, walked. -/
namespace Go.Proofs.YtadfmenlpnibnaaGreat
open Go.RowKit LabPlain
set_option linter.unusedVariables false

/-- a label, as it is written -/
def labText (x : Lab) : ByteArray := x.1 ++ { data := #[61, 34] } ++ bs (qs x.2 x.2.size) ++ { data := #[34] }
/-- the first k labels, as they are written -/
def textTo (l : List Lab) : Nat → ByteArray
  | 0 => { data := #[123] }
  | k + 1 => (if k = 0 then textTo l k else textTo l k ++ { data := #[44] }) ++ labText (l.getD k lab0)
def textOf (l : List Lab) : ByteArray := textTo l l.length ++ { data := #[125] }
theorem bs_size (xs : List Nat) : (bs xs).size = xs.length := by
  have h : (bs xs).size = (bs xs).data.toList.length := by rw [Array.length_toList]; rfl
  rw [h]
  simp only [bs, strOfNums_data, List.length_map]
theorem labText_size {x : Lab} (h1 : x.1.size ≤ 8) (h2 : x.2.size ≤ 16) : (labText x).size ≤ 59 := by
  have := qs_len x.2 x.2.size
  unfold labText
  rw [ByteArray.size_append, ByteArray.size_append, ByteArray.size_append, bs_size, show ({ data := #[61, 34] } : ByteArray).size = 2 from rfl, show ({ data := #[34] } : ByteArray).size = 1 from rfl]
  omega
theorem isNm_size {s : ByteArray} (h : isNm s = true) : s.size ≤ 8 := by
  unfold isNm at h
  simp only [Bool.and_eq_true, decide_eq_true_eq] at h
  exact h.1.1.2
theorem set_at {l : List Lab} (h : isSet l = true) {k : Nat} (hk : k < l.length) : (l.getD k lab0).1.size ≤ 8 ∧ (l.getD k lab0).2.size ≤ 16 := by
  unfold isSet at h
  simp only [Bool.and_eq_true, decide_eq_true_eq] at h
  have := upTo_le h.2 hk
  exact ⟨isNm_size this.1, this.2.1⟩
theorem textTo_size {l : List Lab} (h : isSet l = true) : ∀ k, k ≤ l.length → (textTo l k).size ≤ 1 + 60 * k
  | 0, _ => by show (1 : Nat) ≤ _; omega
  | k + 1, hk => by
    have ih := textTo_size h k (by omega)
    have h2 := set_at h (k := k) (by omega)
    have h3 := labText_size h2.1 h2.2
    rw [textTo, ByteArray.size_append]
    split
    · omega
    · rw [ByteArray.size_append, show ({ data := #[44] } : ByteArray).size = 1 from rfl]; omega

set_option maxRecDepth 100000 in
set_option maxHeartbeats 1000000 in
theorem text_no {w : World} {a : Option Addr} {n c : Nat} {l : List Lab} (h : LabsAt w a n c l) (hs : isSet l = false) :
    Calls Tryz.prog 90 #[.slice a n c] w fun e w' => e = .returned (.tuple #[.string { data := #[] }, .int .i64 4]) ∧ Below w.heap.size w w' := by
  have hr := right_any h
  rw [hs] at hr
  have HR := Lib.hid hr
  clear h hr hs
  go_enter Tryz.func90, Tryz.ntmps90
  go_wp2_with fail
  refine HR.out.mono ?_
  rintro e w1 ⟨rfl, hb⟩
  have HB := Lib.hid hb
  clear hb
  go_wp2_with fail
  go_ret2
  exact ⟨rfl, HB.out⟩

set_option maxRecDepth 100000 in
set_option maxHeartbeats 2000000 in
theorem text_yes {w : World} {a : Option Addr} {n c : Nat} {l : List Lab} (h : LabsAt w a n c l) (hs : isSet l = true) :
    Calls Tryz.prog 90 #[.slice a n c] w fun e w' => e = .returned (.tuple #[.string (textOf l), .int .i64 0]) ∧ Below w.heap.size w w' := by
  have hr := right_any h
  rw [hs] at hr
  have HR := Lib.hid hr
  have HH := Lib.hid h
  have HS := Lib.hid hs
  have hlen := h.len
  have hcap := h.cap
  have hcapm := h.capm
  have h4 : n ≤ 4 := by unfold isSet at hs; simp only [Bool.and_eq_true, decide_eq_true_eq] at hs; omega
  have HL := Lib.hid hlen
  clear h hr hs hlen
  go_enter Tryz.func90, Tryz.ntmps90
  go_wp2_with fail
  refine HR.out.mono ?_
  rintro e w1 ⟨rfl, hb1⟩
  have HB1 := Lib.hid hb1
  clear hb1
  go_wp2_with fail
  go_loopw [4, 12] (fun s4 s12 wr => ∃ (k : Nat) (t : ByteArray), k ≤ n ∧ s12 = .int .i64 (k : Int) ∧ s4 = .string t ∧ Hid (t = textTo l k) ∧ Hid (Below w.heap.size w wr)) (fun _ s12 _ => n - (intOf s12).toNat)
  case atStart => exact ⟨0, _, by omega, rfl, rfl, Lib.hid rfl, HB1⟩
  case round =>
    clear HB1
    obtain ⟨k, t, hk, rfl, rfl, HT, HB⟩ := hrel
    rename World => wr
    have hts : t.size ≤ 300 := by have := textTo_size HS.out k (by have := HL.out; omega); rw [HT.out]; omega
    by_cases hkn : k < n
    · obtain ⟨b, off, rfl, hlt, hcell⟩ := (HH.out.kept HB.out).cells (by omega)
      obtain ⟨h1, h2⟩ := hcell k hkn
      have hsz := set_at HS.out (k := k) (by have := HL.out; omega)
      obtain ⟨x1, hx1⟩ : ∃ x, x = (l.getD k lab0).1 := ⟨_, rfl⟩
      obtain ⟨x2, hx2⟩ : ∃ x, x = (l.getD k lab0).2 := ⟨_, rfl⟩
      rw [← hx1] at h1 hsz
      rw [← hx2] at h2 hsz
      have HX := Lib.hid (And.intro hx1 hx2)
      have hs1 := hsz.1
      have hs2 := hsz.2
      clear hcell hx1 hx2 hsz
      obtain ⟨bx, hbx⟩ : ∃ bx, bx = wr.heap.size := ⟨_, rfl⟩
      obtain ⟨w2, hw2⟩ : ∃ w2, w2 = wr.alloc (.cells #[.string x1, .string x2] 140) := ⟨_, rfl⟩
      have hb2 : Below w.heap.size w w2 := by rw [hw2]; exact HB.out.alloc HB.out.size _
      have hblk : w2.heap[bx]? = some (.cells #[.string x1, .string x2] 140 (0, 0)) := by rw [hw2, hbx]; exact heap_alloc_new wr _
      have e1 : w2.cell? ⟨bx, 0, none⟩ = some (.string x1) := by rw [cell_of_row w2 bx 0 _ _ (0, 0) hblk]; rfl
      have e2 : w2.cell? ⟨bx, 1, none⟩ = some (.string x2) := by rw [cell_of_row w2 bx 1 _ _ (0, 0) hblk]; rfl
      have hbl : bx < w2.heap.size := (Array.getElem?_eq_some_iff.1 hblk).1
      have hq := quoted_any x2 (by omega) w2.drew
      obtain ⟨q, hqe⟩ : ∃ q, q = bs (qs x2 x2.size) := ⟨_, rfl⟩
      have hqs : q.size ≤ 48 := by rw [hqe, bs_size]; have := qs_len x2 x2.size; omega
      rw [← hqe] at hq
      have HQ := Lib.hid hq
      have HQE := Lib.hid hqe
      have HB2 := Lib.hid hb2
      have HW2 := Lib.hid hw2
      have HBX := Lib.hid hbx
      clear hw2 hbx hblk hq hqe hb2
      have f1 : ¬ 9223372036854775807 < x1.size + 2 := by omega
      have f2 : ¬ 9223372036854775807 < x1.size + 2 + q.size := by omega
      have f3 : ¬ 9223372036854775807 < x1.size + 2 + q.size + 1 := by omega
      have HLT := Lib.hid (show labText (l.getD k lab0) = x1 ++ { data := #[61, 34] } ++ q ++ { data := #[34] } by unfold labText; rw [← HX.out.1, ← HX.out.2, ← HQE.out])
      rcases Nat.eq_zero_or_pos k with rfl | hk0
      · rw [Nat.zero_mul, Nat.add_zero] at h1 h2
        have f4 : ¬ 9223372036854775807 < t.size + (x1.size + 2 + q.size + 1) := by omega
        have HTN := Lib.hid (show textTo l (0 + 1) = t ++ (x1 ++ { data := #[61, 34] } ++ q ++ { data := #[34] }) by rw [textTo, if_pos rfl, HLT.out, ← HT.out])
        go_wp2_with fail
        rw [← HW2.out, ← HBX.out]
        go_region_held3 (fun w' => w'.cell? ⟨bx, 0, none⟩ = some (.string x1) ∧ w'.cell? ⟨bx, 1, none⟩ = some (.string x2)) (first | go_keep | exact ⟨(hbq.cell (p := ⟨bx, 0, none⟩) hbl).trans e1, (hbq.cell (p := ⟨bx, 1, none⟩) hbl).trans e2⟩) (first | (go_at_call 110; refine HQ.out.mono ?_; rintro r w3 ⟨rfl, hbq⟩))
        have HB3 := Lib.hid (HB2.out.drew.trans (hbq.mono HB2.out.size))
        clear hbq
        go_wp2_with fail
        go_roundw
        case rel => exact ⟨1, _, by omega, by go_num, rfl, Lib.hid HTN.out.symm, HB3⟩
        case measure => simp [intOf]; omega
      · have hk0i : (1 : Int) ≤ (k : Int) := by omega
        have hk0j : (0 : Int) < (k : Int) := by omega
        have f0 : ¬ 9223372036854775807 < t.size + 1 := by omega
        have f4 : ¬ 9223372036854775807 < t.size + 1 + (x1.size + 2 + q.size + 1) := by omega
        have HTN := Lib.hid (show textTo l (k + 1) = t ++ { data := #[44] } ++ (x1 ++ { data := #[61, 34] } ++ q ++ { data := #[34] }) by rw [textTo, if_neg (by omega), HLT.out, ← HT.out])
        go_wp2_with fail
        rw [← HW2.out, ← HBX.out]
        go_region_held3 (fun w' => w'.cell? ⟨bx, 0, none⟩ = some (.string x1) ∧ w'.cell? ⟨bx, 1, none⟩ = some (.string x2)) (first | go_keep | exact ⟨(hbq.cell (p := ⟨bx, 0, none⟩) hbl).trans e1, (hbq.cell (p := ⟨bx, 1, none⟩) hbl).trans e2⟩) (first | (go_at_call 110; refine HQ.out.mono ?_; rintro r w3 ⟨rfl, hbq⟩))
        have HB3 := Lib.hid (HB2.out.drew.trans (hbq.mono HB2.out.size))
        clear hbq
        go_wp2_with fail
        go_roundw
        case rel => exact ⟨k + 1, _, by omega, by go_num, rfl, Lib.hid HTN.out.symm, HB3⟩
        case measure => simp [intOf]; omega
    · obtain rfl : k = n := by omega
      have f0 : ¬ 9223372036854775807 < t.size + 1 := by omega
      have HTX := Lib.hid (show textOf l = t ++ { data := #[125] } by unfold textOf; rw [HL.out, ← HT.out])
      clear hkn
      go_wp2_with fail
      go_ret2
      rw [HTX.out]
      exact ⟨rfl, HB.out⟩
end Go.Proofs.YtadfmenlpnibnaaGreat
end PkMS10_6
section PkMS10_7
/- Labels: the reference's Byte, Value, Text, walked. -/
namespace Go.Proofs.YtadfmenlpnibnaaGreat
open Go.RowKit LabPlain
set_option linter.unusedVariables false

theorem bs_append (xs ys : List Nat) : bs (xs ++ ys) = bs xs ++ bs ys := by
  apply toList_inj
  rw [ByteArray.toList_eq, ByteArray.toList_eq, ByteArray.data_append, Array.toList_append]
  simp only [bs, strOfNums_data, List.map_append]
theorem qb_len (c : Nat) : (qb c).length ≤ 3 := by unfold qb; split <;> simp

set_option maxRecDepth 100000 in
set_option maxHeartbeats 1000000 in
theorem byte_any (c : Nat) (hcl : c < 256) (w : World) :
    Calls Tryz.prog 138 #[.int .u8 (c : Int)] w fun e w' => e = .returned (.string (bs (qb c))) ∧ Below w.heap.size w w' := by
  by_cases hp : plainC c = true
  · have hpp : 32 ≤ c ∧ c ≤ 126 ∧ c ≠ 34 ∧ c ≠ 92 := by simpa [plainC, and_assoc] using hp
    obtain ⟨p1, p2, p3, p4⟩ := hpp
    have HQ := Lib.hid (show qb c = [c] by unfold qb; rw [if_pos hp])
    have i1 : (32 : Int) ≤ (c : Int) := by omega
    have i2 : (c : Int) ≤ 126 := by omega
    have i3 : ((c : Int) != 34) = true := by rw [bne_iff_ne]; omega
    have i4 : ((c : Int) != 92) = true := by rw [bne_iff_ne]; omega
    have hcv : (convert 159 9 (.slice (some ⟨w.heap.size, 0, none⟩) 1 1)).run Tryz.prog (w.alloc (.cells #[.int .u8 (c : Int)] 5)) = .ok (.string (bs [c])) (w.alloc (.cells #[.int .u8 (c : Int)] 5)) := (BytesAt.lit w #[.int .u8 (c : Int)] [c] rfl (by intro x hx; simp at hx; omega) (by simp) (by simp)).conv
    have HB := Lib.hid (show Below w.heap.size w (w.alloc (.cells #[.int .u8 (c : Int)] 5)) from (Below.refl _ _).alloc (Nat.le_refl _) _)
    clear p1 p2 p3 p4 hp
    go_enter Tryz.func138, Tryz.ntmps138
    go_wp2_with fail
    go_ret
    rw [HQ.out]; exact ⟨rfl, HB.out⟩
  · have hp2 : plainC c = false := by simpa using hp
    have HQ := Lib.hid (show qb c = [92, dg (c / 16), dg (c % 16)] by unfold qb; rw [if_neg hp])
    have hpp : ((c : Int) < 32) ∨ ((32 : Int) ≤ (c : Int) ∧ (126 : Int) < (c : Int)) ∨ ((32 : Int) ≤ (c : Int) ∧ (c : Int) ≤ 126 ∧ ((c : Int) != 34) = false) ∨ ((32 : Int) ≤ (c : Int) ∧ (c : Int) ≤ 126 ∧ ((c : Int) != 34) = true ∧ ((c : Int) != 92) = false) := by
      simp [plainC] at hp2
      simp only [bne_iff_ne, bne_eq_false_iff_eq]
      omega
    obtain ⟨h, hh⟩ : ∃ h, h = c / 16 := ⟨_, rfl⟩
    obtain ⟨l, hl⟩ : ∃ l, l = c % 16 := ⟨_, rfl⟩
    have hdiv : (c : Int) / 16 = (h : Int) := by omega
    have hmod : (c : Int) % 16 = (l : Int) := by omega
    have hdiv2 : (c : Int).tdiv 16 = (h : Int) := by rw [Int.tdiv_eq_ediv_of_nonneg (by omega)]; exact hdiv
    have hmod2 : (c : Int).tmod 16 = (l : Int) := by rw [Int.tmod_eq_emod_of_nonneg (by omega)]; exact hmod
    have hh16 : h < 16 := by omega
    have hl16 : l < 16 := by omega
    have hhi : (h : Int) < 16 := by omega
    have hli : (l : Int) < 16 := by omega
    rw [← hl, ← hh] at HQ
    obtain ⟨d1, hd1⟩ : ∃ d, d = dg h := ⟨_, rfl⟩
    obtain ⟨d2, hd2⟩ : ∃ d, d = dg l := ⟨_, rfl⟩
    have hx1 : ((({ data := #[48, 49, 50, 51, 52, 53, 54, 55, 56, 57, 97, 98, 99, 100, 101, 102] } : ByteArray)[h]'hh16).toNat : Nat) = d1 := by
      have := dig_at h hh16
      rw [ByteArray.getElem?_lt' _ _ hh16] at this
      rw [hd1]
      exact Option.some.inj this
    have hx2 : ((({ data := #[48, 49, 50, 51, 52, 53, 54, 55, 56, 57, 97, 98, 99, 100, 101, 102] } : ByteArray)[l]'hl16).toNat : Nat) = d2 := by
      have := dig_at l hl16
      rw [ByteArray.getElem?_lt' _ _ hl16] at this
      rw [hd2]
      exact Option.some.inj this
    have hd1l : d1 < 256 := by rw [hd1]; exact dg_lt _ hh16
    have hd2l : d2 < 256 := by rw [hd2]; exact dg_lt _ hl16
    rw [← hd1, ← hd2] at HQ
    have hcv : (convert 159 9 (.slice (some ⟨w.heap.size, 0, none⟩) 3 3)).run Tryz.prog (w.alloc (.cells #[.int .u8 92, .int .u8 (d1 : Int), .int .u8 (d2 : Int)] 5)).drew = .ok (.string (bs [92, d1, d2])) (w.alloc (.cells #[.int .u8 92, .int .u8 (d1 : Int), .int .u8 (d2 : Int)] 5)).drew := ((BytesAt.lit w #[.int .u8 92, .int .u8 (d1 : Int), .int .u8 (d2 : Int)] [92, d1, d2] rfl (by intro x hx; simp at hx; omega) (by simp) (by simp)).drew).conv
    have HB := Lib.hid (show Below w.heap.size w ((w.alloc (.cells #[.int .u8 92, .int .u8 (d1 : Int), .int .u8 (d2 : Int)] 5)).drew) from ((Below.refl _ _).alloc (Nat.le_refl _) _).drew)
    clear hp hp2 hh hl hd1 hd2
    rcases hpp with i1 | ⟨i1, i2⟩ | ⟨i1, i2, i3⟩ | ⟨i1, i2, i3, i4⟩
    all_goals
      go_enter Tryz.func138, Tryz.ntmps138
      go_wp2_with fail
      go_region
      go_wp2_with fail
      go_ret
      rw [HQ.out]; exact ⟨rfl, HB.out⟩


end Go.Proofs.YtadfmenlpnibnaaGreat
end PkMS10_7
section PkMS10_8
/- Labels: the reference's Same and Twin, walked. -/
namespace Go.Proofs.YtadfmenlpnibnaaGreat
open Go.RowKit LabPlain
set_option linter.unusedVariables false

theorem labs_ext {l m : List Lab} (hl : l.length = m.length) (h : ∀ i, i < l.length → l.getD i lab0 = m.getD i lab0) : l = m := by
  refine List.ext_getElem hl fun i h1 h2 => ?_
  have := h i h1
  simpa [h1, h2] using this
@[go_sem] theorem eq_lab (x1 x2 y1 y2 : ByteArray) (w : World) : (Op.equalIn 10000 140 (.agg #[.string x1, .string x2]) (.agg #[.string y1, .string y2])).run Tryz.prog w = .ok (x1.toList == y1.toList && x2.toList == y2.toList) w := by
  have us := Tryz.underlying9
  have ag := Tryz.isAgg9
  have zs := Tryz.sizeOf9
  have hS : Tryz.prog.underlying 140 = some (.struct (Tryz.prog.fieldsOf 140)) := by kernel_rfl
  have hp : Tryz.prog.stoodInHeld 140 = false := by kernel_rfl
  rw [show (10000 : Nat) = 9999 + 1 from rfl, run_equalIn_agg w 9999 140 _ _ hS hp]
  simp only [Program.fieldsOf, Tryz.underlying140]
  go_simp
  cases h1 : (x1.toList == y1.toList) <;> cases h2 : (x2.toList == y2.toList) <;> simp_all
@[go_sem] theorem guard_lab (x y : Operand) (xs ys : Array Value) (w : World) : (eqGuard .neq 140 x y (.agg xs) (.agg ys)).run Tryz.prog w = .ok () w := run_eqGuard_agg w .neq 140 x y xs ys (by kernel_rfl)
@[go_sem] theorem neq_lab (x1 x2 y1 y2 : ByteArray) (w : World) : (binOp .neq 140 (.agg #[.string x1, .string x2]) (.agg #[.string y1, .string y2])).run Tryz.prog w = .ok (.bool (!(x1.toList == y1.toList && x2.toList == y2.toList))) w := by
  rw [run_neq_struct, eq_lab]; rfl

/-- the cells of labels, in a row -/
def lcells (l : List Lab) : List Value := l.flatMap fun x => [.string x.1, .string x.2]
theorem lcells_len (l : List Lab) : (lcells l).length = l.length * 2 := by
  induction l with
  | nil => rfl
  | cons x r ih =>
    have : lcells (x :: r) = .string x.1 :: .string x.2 :: lcells r := rfl
    rw [this, List.length_cons, List.length_cons, ih, List.length_cons]; omega
theorem lcells_at : ∀ (l : List Lab) (i : Nat), i < l.length → (lcells l)[i * 2]? = some (.string (l.getD i lab0).1) ∧ (lcells l)[i * 2 + 1]? = some (.string (l.getD i lab0).2)
  | x :: r, 0, _ => ⟨rfl, rfl⟩
  | x :: r, i + 1, h => by
    have hc : lcells (x :: r) = .string x.1 :: .string x.2 :: lcells r := rfl
    have := lcells_at r i (by simpa using h)
    rw [hc, show (i + 1) * 2 = i * 2 + 1 + 1 from by omega]
    simpa using this
theorem lcells_one (l : List Lab) : ∀ u ∈ lcells l, u.oneCell' = true := by
  intro u hu
  obtain ⟨x, _, hx⟩ := List.mem_flatMap.1 hu
  simp at hx
  rcases hx with rfl | rfl <;> rfl
theorem lab_info : (Tryz.prog.info? 140).map (fun i => (i.zero, i.size, i.bytes)) = some (some (.agg #[.string ByteArray.empty, .string ByteArray.empty]), 2, 32) := by kernel_rfl
theorem LabsAt.src {w : World} {ad : Addr} {n c : Nat} {l : List Lab} (h : LabsAt w (some ad) n c l) : ∀ j u, (lcells l)[j]? = some u → w.cell? (ad.add j) = some u := by
  intro j u hj
  have hlt : j < n * 2 := by
    have := (List.getElem?_eq_some_iff.1 hj).1
    rw [lcells_len, h.len] at this; exact this
  obtain ⟨b, off, ha, _, hc⟩ := h.cells (by omega)
  cases ha
  have hadd : (⟨b, off, none⟩ : Addr).add j = ⟨b, off + j, none⟩ := by unfold Addr.add; split <;> simp_all
  rw [hadd]
  have hlt2 : j / 2 < l.length := by rw [h.len]; omega
  have h1 := hc (j / 2) (by omega)
  have h2 := lcells_at l (j / 2) hlt2
  rcases Nat.mod_two_eq_zero_or_one j with g | g
  · have e : j / 2 * 2 = j := by omega
    rw [e] at h1 h2
    rw [h1.1, ← h2.1, hj]
  · have e : j / 2 * 2 + 1 = j := by omega
    rw [show off + j / 2 * 2 + 1 = off + (j / 2 * 2 + 1) from by omega, e] at h1
    rw [e] at h2
    rw [h1.2, ← h2.2, hj]
/-- labels that a call owns -/
theorem LabsAt.ofOwn {w : World} {base n : Nat} {v : Value} {l : List Lab} (h : w.ownsRow base 140 2 v n (lcells l)) (hn : l.length = n) (hs : ∀ x ∈ l, x.1.size ≤ 140737488355328 ∧ x.2.size ≤ 140737488355328) : ∃ a c, v = .slice a n c ∧ LabsAt w a n c l := by
  rcases h.2 with ⟨rfl, h0⟩ | ⟨g, cap, cur, rfl, hg, hh, hnc, hcap, hsz, htake⟩
  · subst h0
    obtain rfl : l = [] := List.eq_nil_of_length_eq_zero hn
    exact ⟨none, 0, rfl, LabsAt.empty w none 0 (by omega) (fun _ => rfl)⟩
  · refine ⟨_, cap, rfl, hn, hnc, by unfold maxLen at hcap; exact hcap, (fun e => by cases e), hs, fun hp => ⟨g, 0, rfl, (Array.getElem?_eq_some_iff.1 hh).1, fun i hi => ?_⟩⟩
    have h2 := lcells_at l i (by omega)
    have hcu : ∀ j, j < n * 2 → w.cell? ⟨g, 0 + j, none⟩ = (lcells l)[j]? := by
      intro j hj
      rw [Nat.zero_add, cell_of_row w _ _ _ _ (0, 0) hh, ← htake, List.getElem?_take_of_lt hj, Array.getElem?_toList]
    rw [show 0 + i * 2 + 1 = 0 + (i * 2 + 1) from by omega, hcu _ (by omega), hcu _ (by omega)]
    exact h2
end Go.Proofs.YtadfmenlpnibnaaGreat
end PkMS10_8
section PkMS10_9
/- Labels: the reference's Twin, walked. -/
namespace Go.Proofs.YtadfmenlpnibnaaGreat
open Go.RowKit LabPlain
set_option linter.unusedVariables false

end Go.Proofs.YtadfmenlpnibnaaGreat
end PkMS10_9
