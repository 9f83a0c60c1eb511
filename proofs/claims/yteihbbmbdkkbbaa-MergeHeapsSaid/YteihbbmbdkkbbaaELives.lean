/- lives, of the laws on merging: walked. Under way. -/
import Derived.Test.YteihbbmbdkkbbaaEChoose
import Derived.Test.YteihbbmbdkkbbaaELivesPlain
namespace Go.Proofs.Yteihbbmbdkkbbaa
open Go.ChangeShapes Go.WideShapes Go.Deep Go.RowKit LabPlain Stab
set_option linter.unusedVariables false

theorem own_cellE {w : World} {base g k cap size : Nat} {e : TypeId} {xs : List Value} (h : w.ownsRow base e size (.slice (some ⟨g, 0, none⟩) k cap) k xs) : ∀ j u, xs[j]? = some u → w.cell? ⟨g, j, none⟩ = some u := by
  intro j u hu
  rcases h.2 with ⟨h0, _⟩ | ⟨g', cap', cur, he, hg, hh, hnc, hcap, hsz, htake⟩
  · cases h0
  · cases he
    have hlt := (List.getElem?_eq_some_iff.1 hu).1
    rw [cell_of_row w _ _ _ _ (0, 0) hh, ← hu, ← htake, List.getElem?_take_of_lt (by rw [h.1] at hlt; exact hlt), Array.getElem?_toList]
set_option maxRecDepth 100000 in
set_option maxHeartbeats 2000000 in
theorem lives16_any (w : World) : Calls Try.prog 11 #[] w fun e w' => e = .returned (.bool true) ∧ Below w.heap.size w w' := by
  obtain ⟨i0, hi, hz0, hz1, hz2⟩ := info_parts ent_info
  obtain ⟨w1, hw1⟩ : ∃ w1, w1 = w.alloc (.cells #[.int .i64 3, .int .i64 9, .int .i64 4, .int .i64 2] 3) := ⟨_, rfl⟩
  have hb1 : Below w.heap.size w w1 := by rw [hw1]; exact (Below.refl _ _).alloc (Nat.le_refl _) _
  have hlit : ∀ wr, Below w1.heap.size w1 wr → ∀ j u, (#[.int .i64 3, .int .i64 9, .int .i64 4, .int .i64 2] : Array Value)[j]? = some u → wr.cell? ⟨w.heap.size, j, none⟩ = some u := by
    intro wr hb j u hu
    rw [hw1] at hb
    exact box_cellE hb hu
  have HW1 := Lib.hid hw1
  have HB1 := Lib.hid hb1
  have HLIT := Lib.hid hlit
  clear hw1 hb1 hlit
  go_enter Try.func11, Try.ntmps11
  go_wp2_with fail
  rw [← HW1.out]
  go_loopw [1, 2, 3, 7] (fun s1 s2 s3 s7 wr => ∃ k : Nat, k ≤ 4 ∧ s7 = .int .i64 (k : Int) ∧ Hid (wr.ownsRow w1.heap.size 57 9 s1 k (ecells (lives4.take k))) ∧ Hid (Below w1.heap.size w1 wr)) (fun _ _ _ s7 _ => 4 - (intOf s7).toNat)
  case atStart => exact ⟨0, by omega, rfl, Lib.hid (World.ownsRow_nil _ _ _ _), Lib.hid (Below.refl _ _)⟩
  case round =>
    obtain ⟨k, hk, rfl, HO, HB⟩ := hrel
    rename World => wr
    by_cases hlt : k < 4
    · rcases (by omega : k = 0 ∨ k = 1 ∨ k = 2 ∨ k = 3) with rfl | rfl | rfl | rfl
      · have c := HLIT.out _ HB.out 0 _ rfl
        have e : ({ data := #[97, 98, 99, 100] } : ByteArray).extract 0 1 = ⟨#[97]⟩ := by decide
        have hb2 : Below wr.heap.size wr (wr.alloc (.cells #[.string ⟨#[97]⟩, .int .i64 0, .string { data := #[] }, .int .i64 0, .int .i64 0, .int .i64 3, .int .i64 0, .int .u32 0, .int .i64 0] 57)) := (Below.refl _ _).alloc (Nat.le_refl _) _
        have HO2 := Lib.hid (own_below HO.out hb2)
        have HB2 := Lib.hid (HB.out.trans (hb2.mono HB.out.size))
        have hs2 := HB2.out.size
        have HSRC := Lib.hid (show ∀ j u, (EntV.cells (lv ⟨#[97]⟩ 3 0))[j]? = some u → (wr.alloc (.cells #[.string ⟨#[97]⟩, .int .i64 0, .string { data := #[] }, .int .i64 0, .int .i64 0, .int .i64 3, .int .i64 0, .int .u32 0, .int .i64 0] 57)).cell? ((⟨wr.heap.size, 0, none⟩ : Addr).add j) = some u from ent_src wr (lv ⟨#[97]⟩ 3 0) 57)
        clear hb2
        go_wp2_with (first | rw [e] | (at_builtin; refine wpList_append_own_at _ rfl (.tmp 12) (.tmp 20) 51 rfl w1.heap.size 57 i0 _ 9 88 Try.underlying51 hi hz0 hz1 hz2 rfl (by decide) _ _ _ rfl HO2.out ⟨wr.heap.size, 0, none⟩ 1 1 (EntV.cells (lv ⟨#[97]⟩ 3 0)) rfl rfl HSRC.out (ecells_one _) (by unfold maxLen; omega) (by omega) hs2 ?_))
        intro v5 w5 hown5 hgrow5 _ _
        have HB5 := Lib.hid (HB2.out.grown hgrow5 HB2.out.size (fun q hq => (HO2.out.lt q hq).1))
        have HO5 := Lib.hid (show w5.ownsRow w1.heap.size 57 9 v5 1 (ecells (lives4.take 1)) from hown5)
        clear hown5 hgrow5
        go_wp2_with fail
        go_roundw
        case rel => exact ⟨1, by omega, rfl, HO5, HB5⟩
        case measure => simp [intOf]
      · have c := HLIT.out _ HB.out 1 _ rfl
        have e : ({ data := #[97, 98, 99, 100] } : ByteArray).extract 1 2 = ⟨#[98]⟩ := by decide
        have hb2 : Below wr.heap.size wr (wr.alloc (.cells #[.string ⟨#[98]⟩, .int .i64 0, .string { data := #[] }, .int .i64 0, .int .i64 0, .int .i64 9, .int .i64 0, .int .u32 0, .int .i64 1] 57)) := (Below.refl _ _).alloc (Nat.le_refl _) _
        have HO2 := Lib.hid (own_below HO.out hb2)
        have HB2 := Lib.hid (HB.out.trans (hb2.mono HB.out.size))
        have hs2 := HB2.out.size
        have HSRC := Lib.hid (show ∀ j u, (EntV.cells (lv ⟨#[98]⟩ 9 1))[j]? = some u → (wr.alloc (.cells #[.string ⟨#[98]⟩, .int .i64 0, .string { data := #[] }, .int .i64 0, .int .i64 0, .int .i64 9, .int .i64 0, .int .u32 0, .int .i64 1] 57)).cell? ((⟨wr.heap.size, 0, none⟩ : Addr).add j) = some u from ent_src wr (lv ⟨#[98]⟩ 9 1) 57)
        clear hb2
        go_wp2_with (first | rw [e] | (at_builtin; refine wpList_append_own_at _ rfl (.tmp 12) (.tmp 20) 51 rfl w1.heap.size 57 i0 _ 9 88 Try.underlying51 hi hz0 hz1 hz2 rfl (by decide) _ _ _ rfl HO2.out ⟨wr.heap.size, 0, none⟩ 1 1 (EntV.cells (lv ⟨#[98]⟩ 9 1)) rfl rfl HSRC.out (ecells_one _) (by unfold maxLen; omega) (by omega) hs2 ?_))
        intro v5 w5 hown5 hgrow5 _ _
        have HB5 := Lib.hid (HB2.out.grown hgrow5 HB2.out.size (fun q hq => (HO2.out.lt q hq).1))
        have HO5 := Lib.hid (show w5.ownsRow w1.heap.size 57 9 v5 2 (ecells (lives4.take 2)) from hown5)
        clear hown5 hgrow5
        go_wp2_with fail
        go_roundw
        case rel => exact ⟨2, by omega, rfl, HO5, HB5⟩
        case measure => simp [intOf]
      · have c := HLIT.out _ HB.out 2 _ rfl
        have e : ({ data := #[97, 98, 99, 100] } : ByteArray).extract 2 3 = ⟨#[99]⟩ := by decide
        have hb2 : Below wr.heap.size wr (wr.alloc (.cells #[.string ⟨#[99]⟩, .int .i64 0, .string { data := #[] }, .int .i64 0, .int .i64 0, .int .i64 4, .int .i64 0, .int .u32 0, .int .i64 2] 57)) := (Below.refl _ _).alloc (Nat.le_refl _) _
        have HO2 := Lib.hid (own_below HO.out hb2)
        have HB2 := Lib.hid (HB.out.trans (hb2.mono HB.out.size))
        have hs2 := HB2.out.size
        have HSRC := Lib.hid (show ∀ j u, (EntV.cells (lv ⟨#[99]⟩ 4 2))[j]? = some u → (wr.alloc (.cells #[.string ⟨#[99]⟩, .int .i64 0, .string { data := #[] }, .int .i64 0, .int .i64 0, .int .i64 4, .int .i64 0, .int .u32 0, .int .i64 2] 57)).cell? ((⟨wr.heap.size, 0, none⟩ : Addr).add j) = some u from ent_src wr (lv ⟨#[99]⟩ 4 2) 57)
        clear hb2
        go_wp2_with (first | rw [e] | (at_builtin; refine wpList_append_own_at _ rfl (.tmp 12) (.tmp 20) 51 rfl w1.heap.size 57 i0 _ 9 88 Try.underlying51 hi hz0 hz1 hz2 rfl (by decide) _ _ _ rfl HO2.out ⟨wr.heap.size, 0, none⟩ 1 1 (EntV.cells (lv ⟨#[99]⟩ 4 2)) rfl rfl HSRC.out (ecells_one _) (by unfold maxLen; omega) (by omega) hs2 ?_))
        intro v5 w5 hown5 hgrow5 _ _
        have HB5 := Lib.hid (HB2.out.grown hgrow5 HB2.out.size (fun q hq => (HO2.out.lt q hq).1))
        have HO5 := Lib.hid (show w5.ownsRow w1.heap.size 57 9 v5 3 (ecells (lives4.take 3)) from hown5)
        clear hown5 hgrow5
        go_wp2_with fail
        go_roundw
        case rel => exact ⟨3, by omega, rfl, HO5, HB5⟩
        case measure => simp [intOf]
      · have c := HLIT.out _ HB.out 3 _ rfl
        have e : ({ data := #[97, 98, 99, 100] } : ByteArray).extract 3 4 = ⟨#[100]⟩ := by decide
        have hb2 : Below wr.heap.size wr (wr.alloc (.cells #[.string ⟨#[100]⟩, .int .i64 0, .string { data := #[] }, .int .i64 0, .int .i64 0, .int .i64 2, .int .i64 0, .int .u32 0, .int .i64 3] 57)) := (Below.refl _ _).alloc (Nat.le_refl _) _
        have HO2 := Lib.hid (own_below HO.out hb2)
        have HB2 := Lib.hid (HB.out.trans (hb2.mono HB.out.size))
        have hs2 := HB2.out.size
        have HSRC := Lib.hid (show ∀ j u, (EntV.cells (lv ⟨#[100]⟩ 2 3))[j]? = some u → (wr.alloc (.cells #[.string ⟨#[100]⟩, .int .i64 0, .string { data := #[] }, .int .i64 0, .int .i64 0, .int .i64 2, .int .i64 0, .int .u32 0, .int .i64 3] 57)).cell? ((⟨wr.heap.size, 0, none⟩ : Addr).add j) = some u from ent_src wr (lv ⟨#[100]⟩ 2 3) 57)
        clear hb2
        go_wp2_with (first | rw [e] | (at_builtin; refine wpList_append_own_at _ rfl (.tmp 12) (.tmp 20) 51 rfl w1.heap.size 57 i0 _ 9 88 Try.underlying51 hi hz0 hz1 hz2 rfl (by decide) _ _ _ rfl HO2.out ⟨wr.heap.size, 0, none⟩ 1 1 (EntV.cells (lv ⟨#[100]⟩ 2 3)) rfl rfl HSRC.out (ecells_one _) (by unfold maxLen; omega) (by omega) hs2 ?_))
        intro v5 w5 hown5 hgrow5 _ _
        have HB5 := Lib.hid (HB2.out.grown hgrow5 HB2.out.size (fun q hq => (HO2.out.lt q hq).1))
        have HO5 := Lib.hid (show w5.ownsRow w1.heap.size 57 9 v5 4 (ecells (lives4.take 4)) from hown5)
        clear hown5 hgrow5
        go_wp2_with fail
        go_roundw
        case rel => exact ⟨4, by omega, rfl, HO5, HB5⟩
        case measure => simp [intOf]
    · obtain rfl : k = 4 := by omega
      have ho : wr.ownsRow w1.heap.size 57 9 u1 4 (ecells lives4) := HO.out
      obtain ⟨g, cap, rfl, hcap⟩ : ∃ g cap, u1 = .slice (some ⟨g, 0, none⟩) 4 cap ∧ 4 ≤ cap ∧ cap ≤ 9223372036854775807 := by
        rcases ho.2 with ⟨_, h0⟩ | ⟨g, cap, cur, h1, _, _, h4, h5, _⟩
        · omega
        · exact ⟨g, cap, h1, h4, by unfold maxLen at h5; exact h5⟩
      have hat : EntsAt wr (some ⟨g, 0, none⟩) 4 cap lives4 := by
        refine ⟨rfl, hcap.1, hcap.2, (fun e => by cases e), ?_, fun _ => ⟨g, 0, rfl, (ho.lt g rfl).2, fun i hi j u hu => ?_⟩⟩
        · intro x hx
          simp only [lives4, List.mem_cons, List.not_mem_nil, or_false] at hx
          rcases hx with rfl | rfl | rfl | rfl <;> exact ⟨by decide, by decide⟩
        · have hj : j < 9 := (List.getElem?_eq_some_iff.1 hu).1
          rw [Nat.zero_add]
          refine esrc_own ho _ u ?_
          unfold ecells
          rw [flat_at EntV.cells 9 (fun _ => rfl) ent0 lives4 i j hi hj]; exact hu
      have HC := Lib.hid (choose_any (small := 5) (most := 8) hat (by omega) (by omega) (fun x hx => by
        simp only [lives4, List.mem_cons, List.not_mem_nil, or_false] at hx
        rcases hx with rfl | rfl | rfl | rfl <;> exact ⟨by decide, by decide⟩) (by simp [lives4, lv]))
      have HBW := Lib.hid (HB1.out.trans (HB.out.mono HB1.out.size))
      clear ho hat
      go_wp2_with fail
      refine HC.out.mono ?_
      rintro e w3 ⟨v, fs, rfl, hp, hm, hown, hb3⟩
      rw [lives_fs hp hm, lives_cho] at hown
      obtain ⟨g2, cap2, rfl, hcap2⟩ : ∃ g2 cap2, v = .slice (some ⟨g2, 0, none⟩) 2 cap2 ∧ 2 ≤ cap2 := by
        rcases hown.2 with ⟨_, h0⟩ | ⟨g2, cap2, cur, h1, _, _, h4, _⟩
        · exact absurd h0 (by decide)
        · exact ⟨g2, cap2, h1, h4⟩
      have c0 := own_cellE hown 0 (.string ⟨#[97]⟩) rfl
      have c1 := own_cellE hown 1 (.string ⟨#[99]⟩) rfl
      have HB3 := Lib.hid (HBW.out.trans (hb3.mono HBW.out.size))
      clear hown hb3 hp hm
      go_wp2_with fail
      go_ret
      exact ⟨rfl, HB3.out⟩
end Go.Proofs.Yteihbbmbdkkbbaa
