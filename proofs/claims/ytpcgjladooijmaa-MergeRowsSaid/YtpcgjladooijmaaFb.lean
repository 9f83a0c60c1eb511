/- What lives of the laws on merging needs, in a namespace of its own. Put together by catf.py. -/
import Derived.Test.YtpcgjladooijmaaFa
import Derived.Maps.AppendAt
import Derived.Deep.MidRow
/- symMerge (slices.symMergeCmpFunc) over rows: one on the left. Written by gensym.py and toent.py. -/
namespace Go.Proofs.Ytpcgjladooijmaa.E
open Go.ChangeShapes Go.WideShapes Go.Deep Go.RowKit Stab
set_option linter.unusedVariables false

theorem ltE_true {x y : EntV} (h : ltE x y = true) : cmpEnt x y < 0 := by unfold ltE at h; exact of_decide_eq_true h
theorem ltE_false {x y : EntV} (h : ltE x y = false) : ¬ cmpEnt x y < 0 := by unfold ltE at h; exact of_decide_eq_false h
/-- what stands in a greater stretch is the same, where it is in a lesser one and all else is alone -/
theorem mem_more {α : Type} {u t : Nat → α} {a b a' b' : Nat} (h : ∀ x, Mem u a b x ↔ Mem t a b x) (hk : ∀ k, k < a ∨ b ≤ k → u k = t k) (h1 : a' ≤ a) (h2 : a ≤ b) (h3 : b ≤ b') : ∀ x, Mem u a' b' x ↔ Mem t a' b' x := fun x => by
  rw [mem_cut u a' a b' h1 (by omega), mem_cut t a' a b' h1 (by omega), mem_cut u a b b' h2 h3, mem_cut t a b b' h2 h3, h x, mem_congr (f := t) (g := u) (a := a') (b := a) (fun k _ hk2 => hk k (.inl hk2)), mem_congr (f := t) (g := u) (a := b) (b := b') (fun k hk2 _ => hk k (.inr hk2))]

set_option maxRecDepth 100000 in
set_option maxHeartbeats 4000000 in
theorem sym_one {w : World} {g n c : Nat} {t : Nat → EntV × Nat} {a m b : Nat} (h : Nines w g n (vals t)) (hg : g < w.heap.size) (hm : m = a + 1) (hmb : m < b) (hb : b ≤ n) (hc : n ≤ c) (hcx : c ≤ 9223372036854775807) (hcm : n ≤ 4611686018427387900) (hs : Srt (Tag ltE) t m b) (ht : ∀ j, m ≤ j → j < b → (t a).2 < (t j).2) :
    Calls Try.prog 93 #[.slice (some ⟨g, 0, none⟩) n c, .int .i64 (a : Int), .int .i64 (m : Int), .int .i64 (b : Int), .func (.func 73) #[] #[]] w fun e w' => e = .returned undef ∧ (∃ u, Nines w' g n (vals u) ∧ Srt (Tag ltE) u a b ∧ (∀ x, Mem u a b x ↔ Mem t a b x) ∧ ∀ k, k < a ∨ b ≤ k → u k = t k) ∧ Turns1 g w w' := by
  have H := Lib.hid h
  have HS := Lib.hid hs
  have HTG := Lib.hid ht
  have wm : IntKind.i64.wrap ((m : Int) - (a : Int)) = 1 := by rw [IntWalk.i64_in _ (by omega)]; omega
  have HMA := Lib.hid hm
  have ham : a < m := by omega
  clear h ht hs hm
  go_enter Try.func93, Try.ntmps93
  go_wp2_with fail
  go_loopw [10, 11, 12] (fun s10 s11 s12 wq => ∃ (i j : Nat), m ≤ i ∧ i ≤ j ∧ j ≤ b ∧ s10 = .int .i64 (i : Int) ∧ s11 = .int .i64 (j : Int) ∧ Hid (Nines wq g n (vals t)) ∧ Hid (m < i → Tag ltE (t (i - 1)) (t a)) ∧ Hid (j < b → Tag ltE (t a) (t j)) ∧ Hid (Turns1 g w wq)) (fun s10 s11 _ _ => (intOf s11).toNat - (intOf s10).toNat)
  case atStart => exact ⟨m, b, by omega, by omega, by omega, rfl, rfl, H, Lib.hid (fun h => by omega), Lib.hid (fun h => by omega), Lib.hid (Turns1.refl g w)⟩
  case round =>
    obtain ⟨i, j, hmi, hij, hjb, rfl, rfl, HQ, HI, HJ, HU⟩ := hrel
    rename World => wq
    by_cases hlt : i < j
    · have hlti : (i : Int) < (j : Int) := by omega
      obtain ⟨h, hh⟩ : ∃ h, h = (i + j) / 2 := ⟨_, rfl⟩
      have wh : ((i : Int) + (j : Int)) / 2 = (h : Int) := by omega
      have hhr : i ≤ h ∧ h < j := by omega
      have hih : (i : Int) ≤ (h : Int) ∧ (h : Int) < (j : Int) := by omega
      clear hh
      have hhn : (h : Int) < (n : Int) := by omega
      have han : (a : Int) < (n : Int) := by omega
      obtain ⟨x, hx⟩ : ∃ x, x = vals t h := ⟨_, rfl⟩
      obtain ⟨y, hy⟩ : ∃ y, y = vals t a := ⟨_, rfl⟩
      have Hx := Lib.hid hx
      have Hy := Lib.hid hy
      clear hx hy
      have hltg : g < wq.heap.size := Nat.lt_of_lt_of_le hg HU.out.size
      have cx0 : wq.cell? ⟨g, (h) * 9, none⟩ = some (.string x.key) := HQ.out.at' _ (by omega) 0 _ (by rw [← Hx.out]; rfl)
      have cx1 : wq.cell? ⟨g, (h) * 9 + 1, none⟩ = some (.int .i64 x.win) := HQ.out.at' _ (by omega) 1 _ (by rw [← Hx.out]; rfl)
      have cx2 : wq.cell? ⟨g, (h) * 9 + 2, none⟩ = some (.string x.part) := HQ.out.at' _ (by omega) 2 _ (by rw [← Hx.out]; rfl)
      have cx3 : wq.cell? ⟨g, (h) * 9 + 3, none⟩ = some (.int .i64 x.fst) := HQ.out.at' _ (by omega) 3 _ (by rw [← Hx.out]; rfl)
      have cx4 : wq.cell? ⟨g, (h) * 9 + 4, none⟩ = some (.int .i64 x.lst) := HQ.out.at' _ (by omega) 4 _ (by rw [← Hx.out]; rfl)
      have cx5 : wq.cell? ⟨g, (h) * 9 + 5, none⟩ = some (.int .i64 x.rows) := HQ.out.at' _ (by omega) 5 _ (by rw [← Hx.out]; rfl)
      have cx6 : wq.cell? ⟨g, (h) * 9 + 6, none⟩ = some (.int .i64 x.size) := HQ.out.at' _ (by omega) 6 _ (by rw [← Hx.out]; rfl)
      have cx7 : wq.cell? ⟨g, (h) * 9 + 7, none⟩ = some (.int .u32 x.sum) := HQ.out.at' _ (by omega) 7 _ (by rw [← Hx.out]; rfl)
      have cx8 : wq.cell? ⟨g, (h) * 9 + 8, none⟩ = some (.int .i64 x.born) := HQ.out.at' _ (by omega) 8 _ (by rw [← Hx.out]; rfl)
      have cy0 : wq.cell? ⟨g, (a) * 9, none⟩ = some (.string y.key) := HQ.out.at' _ (by omega) 0 _ (by rw [← Hy.out]; rfl)
      have cy1 : wq.cell? ⟨g, (a) * 9 + 1, none⟩ = some (.int .i64 y.win) := HQ.out.at' _ (by omega) 1 _ (by rw [← Hy.out]; rfl)
      have cy2 : wq.cell? ⟨g, (a) * 9 + 2, none⟩ = some (.string y.part) := HQ.out.at' _ (by omega) 2 _ (by rw [← Hy.out]; rfl)
      have cy3 : wq.cell? ⟨g, (a) * 9 + 3, none⟩ = some (.int .i64 y.fst) := HQ.out.at' _ (by omega) 3 _ (by rw [← Hy.out]; rfl)
      have cy4 : wq.cell? ⟨g, (a) * 9 + 4, none⟩ = some (.int .i64 y.lst) := HQ.out.at' _ (by omega) 4 _ (by rw [← Hy.out]; rfl)
      have cy5 : wq.cell? ⟨g, (a) * 9 + 5, none⟩ = some (.int .i64 y.rows) := HQ.out.at' _ (by omega) 5 _ (by rw [← Hy.out]; rfl)
      have cy6 : wq.cell? ⟨g, (a) * 9 + 6, none⟩ = some (.int .i64 y.size) := HQ.out.at' _ (by omega) 6 _ (by rw [← Hy.out]; rfl)
      have cy7 : wq.cell? ⟨g, (a) * 9 + 7, none⟩ = some (.int .u32 y.sum) := HQ.out.at' _ (by omega) 7 _ (by rw [← Hy.out]; rfl)
      have cy8 : wq.cell? ⟨g, (a) * 9 + 8, none⟩ = some (.int .i64 y.born) := HQ.out.at' _ (by omega) 8 _ (by rw [← Hy.out]; rfl)
      cases hlt2 : ltE x y with
      | true =>
        have hneg : cmpEnt x y < 0 := ltE_true hlt2
        have HTAG := Lib.hid (show Tag ltE (t h) (t a) from .inl (by have h1 := Hx.out; have h2 := Hy.out; unfold vals at h1 h2; rw [← h1, ← h2]; exact hlt2))
        clear hlt2
        go_wp2_with fail
        go_region_held3 (fun w' => w'.cell? ⟨g, (h) * 9, none⟩ = some (.string x.key) ∧ w'.cell? ⟨g, (h) * 9 + 1, none⟩ = some (.int .i64 x.win) ∧ w'.cell? ⟨g, (h) * 9 + 2, none⟩ = some (.string x.part) ∧ w'.cell? ⟨g, (h) * 9 + 3, none⟩ = some (.int .i64 x.fst) ∧ w'.cell? ⟨g, (h) * 9 + 4, none⟩ = some (.int .i64 x.lst) ∧ w'.cell? ⟨g, (h) * 9 + 5, none⟩ = some (.int .i64 x.rows) ∧ w'.cell? ⟨g, (h) * 9 + 6, none⟩ = some (.int .i64 x.size) ∧ w'.cell? ⟨g, (h) * 9 + 7, none⟩ = some (.int .u32 x.sum) ∧ w'.cell? ⟨g, (h) * 9 + 8, none⟩ = some (.int .i64 x.born) ∧ w'.cell? ⟨g, (a) * 9, none⟩ = some (.string y.key) ∧ w'.cell? ⟨g, (a) * 9 + 1, none⟩ = some (.int .i64 y.win) ∧ w'.cell? ⟨g, (a) * 9 + 2, none⟩ = some (.string y.part) ∧ w'.cell? ⟨g, (a) * 9 + 3, none⟩ = some (.int .i64 y.fst) ∧ w'.cell? ⟨g, (a) * 9 + 4, none⟩ = some (.int .i64 y.lst) ∧ w'.cell? ⟨g, (a) * 9 + 5, none⟩ = some (.int .i64 y.rows) ∧ w'.cell? ⟨g, (a) * 9 + 6, none⟩ = some (.int .i64 y.size) ∧ w'.cell? ⟨g, (a) * 9 + 7, none⟩ = some (.int .u32 y.sum) ∧ w'.cell? ⟨g, (a) * 9 + 8, none⟩ = some (.int .i64 y.born)) (first | go_keep | exact ⟨(hbq.cell (p := ⟨g, (h) * 9, none⟩) hltg).trans cx0, (hbq.cell (p := ⟨g, (h) * 9 + 1, none⟩) hltg).trans cx1, (hbq.cell (p := ⟨g, (h) * 9 + 2, none⟩) hltg).trans cx2, (hbq.cell (p := ⟨g, (h) * 9 + 3, none⟩) hltg).trans cx3, (hbq.cell (p := ⟨g, (h) * 9 + 4, none⟩) hltg).trans cx4, (hbq.cell (p := ⟨g, (h) * 9 + 5, none⟩) hltg).trans cx5, (hbq.cell (p := ⟨g, (h) * 9 + 6, none⟩) hltg).trans cx6, (hbq.cell (p := ⟨g, (h) * 9 + 7, none⟩) hltg).trans cx7, (hbq.cell (p := ⟨g, (h) * 9 + 8, none⟩) hltg).trans cx8, (hbq.cell (p := ⟨g, (a) * 9, none⟩) hltg).trans cy0, (hbq.cell (p := ⟨g, (a) * 9 + 1, none⟩) hltg).trans cy1, (hbq.cell (p := ⟨g, (a) * 9 + 2, none⟩) hltg).trans cy2, (hbq.cell (p := ⟨g, (a) * 9 + 3, none⟩) hltg).trans cy3, (hbq.cell (p := ⟨g, (a) * 9 + 4, none⟩) hltg).trans cy4, (hbq.cell (p := ⟨g, (a) * 9 + 5, none⟩) hltg).trans cy5, (hbq.cell (p := ⟨g, (a) * 9 + 6, none⟩) hltg).trans cy6, (hbq.cell (p := ⟨g, (a) * 9 + 7, none⟩) hltg).trans cy7, (hbq.cell (p := ⟨g, (a) * 9 + 8, none⟩) hltg).trans cy8⟩) (first | (go_at_call 73; refine (ecompare_any x y _).mono ?_; rintro r w3 ⟨rfl, hbq⟩))
        have HN3 := Lib.hid (HQ.out.drew.below hltg hbq)
        have HU3 := Lib.hid (HU.out.drew.below hbq)
        clear hbq cx0 cx1 cx2 cx3 cx4 cx5 cx6 cx7 cx8 cy0 cy1 cy2 cy3 cy4 cy5 cy6 cy7 cy8
        go_wp2_with fail
        go_roundw
        case rel => exact ⟨h + 1, j, by omega, by omega, by omega, by go_num, rfl, HN3, Lib.hid (fun _ => HTAG.out), HJ, HU3⟩
        case measure => simp [intOf]; omega
      | false =>
        have hneg : ¬ cmpEnt x y < 0 := ltE_false hlt2
        have HTAG := Lib.hid (show Tag ltE (t a) (t h) from .inr ⟨by have h1 := Hx.out; have h2 := Hy.out; unfold vals at h1 h2; rw [← h1, ← h2]; exact hlt2, HTG.out h (by omega) (by omega)⟩)
        clear hlt2
        go_wp2_with fail
        go_region_held3 (fun w' => w'.cell? ⟨g, (h) * 9, none⟩ = some (.string x.key) ∧ w'.cell? ⟨g, (h) * 9 + 1, none⟩ = some (.int .i64 x.win) ∧ w'.cell? ⟨g, (h) * 9 + 2, none⟩ = some (.string x.part) ∧ w'.cell? ⟨g, (h) * 9 + 3, none⟩ = some (.int .i64 x.fst) ∧ w'.cell? ⟨g, (h) * 9 + 4, none⟩ = some (.int .i64 x.lst) ∧ w'.cell? ⟨g, (h) * 9 + 5, none⟩ = some (.int .i64 x.rows) ∧ w'.cell? ⟨g, (h) * 9 + 6, none⟩ = some (.int .i64 x.size) ∧ w'.cell? ⟨g, (h) * 9 + 7, none⟩ = some (.int .u32 x.sum) ∧ w'.cell? ⟨g, (h) * 9 + 8, none⟩ = some (.int .i64 x.born) ∧ w'.cell? ⟨g, (a) * 9, none⟩ = some (.string y.key) ∧ w'.cell? ⟨g, (a) * 9 + 1, none⟩ = some (.int .i64 y.win) ∧ w'.cell? ⟨g, (a) * 9 + 2, none⟩ = some (.string y.part) ∧ w'.cell? ⟨g, (a) * 9 + 3, none⟩ = some (.int .i64 y.fst) ∧ w'.cell? ⟨g, (a) * 9 + 4, none⟩ = some (.int .i64 y.lst) ∧ w'.cell? ⟨g, (a) * 9 + 5, none⟩ = some (.int .i64 y.rows) ∧ w'.cell? ⟨g, (a) * 9 + 6, none⟩ = some (.int .i64 y.size) ∧ w'.cell? ⟨g, (a) * 9 + 7, none⟩ = some (.int .u32 y.sum) ∧ w'.cell? ⟨g, (a) * 9 + 8, none⟩ = some (.int .i64 y.born)) (first | go_keep | exact ⟨(hbq.cell (p := ⟨g, (h) * 9, none⟩) hltg).trans cx0, (hbq.cell (p := ⟨g, (h) * 9 + 1, none⟩) hltg).trans cx1, (hbq.cell (p := ⟨g, (h) * 9 + 2, none⟩) hltg).trans cx2, (hbq.cell (p := ⟨g, (h) * 9 + 3, none⟩) hltg).trans cx3, (hbq.cell (p := ⟨g, (h) * 9 + 4, none⟩) hltg).trans cx4, (hbq.cell (p := ⟨g, (h) * 9 + 5, none⟩) hltg).trans cx5, (hbq.cell (p := ⟨g, (h) * 9 + 6, none⟩) hltg).trans cx6, (hbq.cell (p := ⟨g, (h) * 9 + 7, none⟩) hltg).trans cx7, (hbq.cell (p := ⟨g, (h) * 9 + 8, none⟩) hltg).trans cx8, (hbq.cell (p := ⟨g, (a) * 9, none⟩) hltg).trans cy0, (hbq.cell (p := ⟨g, (a) * 9 + 1, none⟩) hltg).trans cy1, (hbq.cell (p := ⟨g, (a) * 9 + 2, none⟩) hltg).trans cy2, (hbq.cell (p := ⟨g, (a) * 9 + 3, none⟩) hltg).trans cy3, (hbq.cell (p := ⟨g, (a) * 9 + 4, none⟩) hltg).trans cy4, (hbq.cell (p := ⟨g, (a) * 9 + 5, none⟩) hltg).trans cy5, (hbq.cell (p := ⟨g, (a) * 9 + 6, none⟩) hltg).trans cy6, (hbq.cell (p := ⟨g, (a) * 9 + 7, none⟩) hltg).trans cy7, (hbq.cell (p := ⟨g, (a) * 9 + 8, none⟩) hltg).trans cy8⟩) (first | (go_at_call 73; refine (ecompare_any x y _).mono ?_; rintro r w3 ⟨rfl, hbq⟩))
        have HN3 := Lib.hid (HQ.out.drew.below hltg hbq)
        have HU3 := Lib.hid (HU.out.drew.below hbq)
        clear hbq cx0 cx1 cx2 cx3 cx4 cx5 cx6 cx7 cx8 cy0 cy1 cy2 cy3 cy4 cy5 cy6 cy7 cy8
        go_wp2_with fail
        go_roundw
        case rel => exact ⟨i, h, by omega, by omega, by omega, rfl, by go_num, HN3, HI, Lib.hid (fun _ => HTAG.out), HU3⟩
        case measure => simp [intOf]; omega
    · obtain rfl : i = j := by omega
      have HSRT := Lib.hid (Srt.insertR (f := t) (k := i) (b := b) (HMA.out ▸ HS.out) (by have hm := HMA.out; omega) hjb (fun k h1 h2 => by
        have hm := HMA.out
        have h3 := HI.out (by omega)
        by_cases e : k = i - 1
        · rw [e]; exact h3
        · exact weak_ltE.tag_tr _ _ _ (HS.out k (i - 1) (by omega) (by omega) (by omega)) h3) (fun k h1 h2 => by
        have hm := HMA.out
        have h3 := HJ.out (by omega)
        by_cases e : k = i
        · rw [e]; exact h3
        · exact weak_ltE.tag_tr _ _ _ h3 (HS.out i k (by omega) (by omega) (by omega))))
      obtain ⟨q, hq⟩ : ∃ q, q = i - 1 := ⟨_, rfl⟩
      have wi : IntKind.i64.wrap ((i : Int) - 1) = (q : Int) := by rw [IntWalk.i64_in _ (by omega)]; omega
      have HQI := Lib.hid (show q + 1 = i by omega)
      have hqr : a ≤ q ∧ q < b := by omega
      clear hq HI HJ
      go_wp2_with fail
      go_loopw [13] (fun s13 wr => ∃ k : Nat, a ≤ k ∧ k ≤ q ∧ s13 = .int .i64 (k : Int) ∧ Hid (Nines wr g n (vals (rot t a (a + 1) (k + 1)))) ∧ Hid (Turns1 g w wr)) (fun s13 _ => q - (intOf s13).toNat)
      case atStart => exact ⟨a, by omega, by omega, rfl, by rw [rot_none t a (a + 1)]; exact HQ, HU⟩
      case round =>
        clear HQ HU
        obtain ⟨k, hak, hkq, rfl, HQ, HU⟩ := hrel
        rename World => wr
        by_cases hkq2 : k < q
        · have hkqi : (k : Int) < (q : Int) := by omega
          obtain ⟨k1, hk1⟩ : ∃ k1, k1 = k + 1 := ⟨_, rfl⟩
          have wk1 : IntKind.i64.wrap ((k : Int) + 1) = (k1 : Int) := by rw [IntWalk.i64_in _ (by omega)]; omega
          have hkn : (k : Int) < (n : Int) := by omega
          have hk1n : (k1 : Int) < (n : Int) := by omega
          have hne1 : ¬ k = k1 := by omega
          have hne2 : ¬ k1 = k := by omega
          obtain ⟨x, hx⟩ : ∃ x, x = vals (rot t a (a + 1) (k + 1)) k := ⟨_, rfl⟩
          obtain ⟨y, hy⟩ : ∃ y, y = vals (rot t a (a + 1) (k + 1)) k1 := ⟨_, rfl⟩
          have Hx := Lib.hid hx
          have Hy := Lib.hid hy
          have HK1 := Lib.hid hk1
          clear hx hy
          have hk1n2 : k1 < n := by omega
          have hkn2 : k < n := by omega
          clear hk1
          have cx0 : wr.cell? ⟨g, (k) * 9, none⟩ = some (.string x.key) := HQ.out.at' _ (by omega) 0 _ (by rw [← Hx.out]; rfl)
          have cx1 : wr.cell? ⟨g, (k) * 9 + 1, none⟩ = some (.int .i64 x.win) := HQ.out.at' _ (by omega) 1 _ (by rw [← Hx.out]; rfl)
          have cx2 : wr.cell? ⟨g, (k) * 9 + 2, none⟩ = some (.string x.part) := HQ.out.at' _ (by omega) 2 _ (by rw [← Hx.out]; rfl)
          have cx3 : wr.cell? ⟨g, (k) * 9 + 3, none⟩ = some (.int .i64 x.fst) := HQ.out.at' _ (by omega) 3 _ (by rw [← Hx.out]; rfl)
          have cx4 : wr.cell? ⟨g, (k) * 9 + 4, none⟩ = some (.int .i64 x.lst) := HQ.out.at' _ (by omega) 4 _ (by rw [← Hx.out]; rfl)
          have cx5 : wr.cell? ⟨g, (k) * 9 + 5, none⟩ = some (.int .i64 x.rows) := HQ.out.at' _ (by omega) 5 _ (by rw [← Hx.out]; rfl)
          have cx6 : wr.cell? ⟨g, (k) * 9 + 6, none⟩ = some (.int .i64 x.size) := HQ.out.at' _ (by omega) 6 _ (by rw [← Hx.out]; rfl)
          have cx7 : wr.cell? ⟨g, (k) * 9 + 7, none⟩ = some (.int .u32 x.sum) := HQ.out.at' _ (by omega) 7 _ (by rw [← Hx.out]; rfl)
          have cx8 : wr.cell? ⟨g, (k) * 9 + 8, none⟩ = some (.int .i64 x.born) := HQ.out.at' _ (by omega) 8 _ (by rw [← Hx.out]; rfl)
          have zx0 : wr.frozen? ⟨g, (k) * 9, none⟩ = false := (HQ.out.free _ (by omega) 0 (by omega)).2
          have zx1 : wr.frozen? ⟨g, (k) * 9 + 1, none⟩ = false := (HQ.out.free _ (by omega) 1 (by omega)).2
          have zx2 : wr.frozen? ⟨g, (k) * 9 + 2, none⟩ = false := (HQ.out.free _ (by omega) 2 (by omega)).2
          have zx3 : wr.frozen? ⟨g, (k) * 9 + 3, none⟩ = false := (HQ.out.free _ (by omega) 3 (by omega)).2
          have zx4 : wr.frozen? ⟨g, (k) * 9 + 4, none⟩ = false := (HQ.out.free _ (by omega) 4 (by omega)).2
          have zx5 : wr.frozen? ⟨g, (k) * 9 + 5, none⟩ = false := (HQ.out.free _ (by omega) 5 (by omega)).2
          have zx6 : wr.frozen? ⟨g, (k) * 9 + 6, none⟩ = false := (HQ.out.free _ (by omega) 6 (by omega)).2
          have zx7 : wr.frozen? ⟨g, (k) * 9 + 7, none⟩ = false := (HQ.out.free _ (by omega) 7 (by omega)).2
          have zx8 : wr.frozen? ⟨g, (k) * 9 + 8, none⟩ = false := (HQ.out.free _ (by omega) 8 (by omega)).2
          have cy0 : wr.cell? ⟨g, (k1) * 9, none⟩ = some (.string y.key) := HQ.out.at' _ (by omega) 0 _ (by rw [← Hy.out]; rfl)
          have cy1 : wr.cell? ⟨g, (k1) * 9 + 1, none⟩ = some (.int .i64 y.win) := HQ.out.at' _ (by omega) 1 _ (by rw [← Hy.out]; rfl)
          have cy2 : wr.cell? ⟨g, (k1) * 9 + 2, none⟩ = some (.string y.part) := HQ.out.at' _ (by omega) 2 _ (by rw [← Hy.out]; rfl)
          have cy3 : wr.cell? ⟨g, (k1) * 9 + 3, none⟩ = some (.int .i64 y.fst) := HQ.out.at' _ (by omega) 3 _ (by rw [← Hy.out]; rfl)
          have cy4 : wr.cell? ⟨g, (k1) * 9 + 4, none⟩ = some (.int .i64 y.lst) := HQ.out.at' _ (by omega) 4 _ (by rw [← Hy.out]; rfl)
          have cy5 : wr.cell? ⟨g, (k1) * 9 + 5, none⟩ = some (.int .i64 y.rows) := HQ.out.at' _ (by omega) 5 _ (by rw [← Hy.out]; rfl)
          have cy6 : wr.cell? ⟨g, (k1) * 9 + 6, none⟩ = some (.int .i64 y.size) := HQ.out.at' _ (by omega) 6 _ (by rw [← Hy.out]; rfl)
          have cy7 : wr.cell? ⟨g, (k1) * 9 + 7, none⟩ = some (.int .u32 y.sum) := HQ.out.at' _ (by omega) 7 _ (by rw [← Hy.out]; rfl)
          have cy8 : wr.cell? ⟨g, (k1) * 9 + 8, none⟩ = some (.int .i64 y.born) := HQ.out.at' _ (by omega) 8 _ (by rw [← Hy.out]; rfl)
          have zy0 : wr.frozen? ⟨g, (k1) * 9, none⟩ = false := (HQ.out.free _ (by omega) 0 (by omega)).2
          have zy1 : wr.frozen? ⟨g, (k1) * 9 + 1, none⟩ = false := (HQ.out.free _ (by omega) 1 (by omega)).2
          have zy2 : wr.frozen? ⟨g, (k1) * 9 + 2, none⟩ = false := (HQ.out.free _ (by omega) 2 (by omega)).2
          have zy3 : wr.frozen? ⟨g, (k1) * 9 + 3, none⟩ = false := (HQ.out.free _ (by omega) 3 (by omega)).2
          have zy4 : wr.frozen? ⟨g, (k1) * 9 + 4, none⟩ = false := (HQ.out.free _ (by omega) 4 (by omega)).2
          have zy5 : wr.frozen? ⟨g, (k1) * 9 + 5, none⟩ = false := (HQ.out.free _ (by omega) 5 (by omega)).2
          have zy6 : wr.frozen? ⟨g, (k1) * 9 + 6, none⟩ = false := (HQ.out.free _ (by omega) 6 (by omega)).2
          have zy7 : wr.frozen? ⟨g, (k1) * 9 + 7, none⟩ = false := (HQ.out.free _ (by omega) 7 (by omega)).2
          have zy8 : wr.frozen? ⟨g, (k1) * 9 + 8, none⟩ = false := (HQ.out.free _ (by omega) 8 (by omega)).2
          go_wp2_with fail
          go_region
          have HN4 := Lib.hid (HQ.out.swap k k1 (by omega) (by omega) x y Hx.out Hy.out).drew
          have HU4 := Lib.hid (((HU.out.sets y.cells (k * 9)).sets x.cells (k1 * 9)).drew)
          rw [show swp (vals (rot t a (a + 1) (k + 1))) k k1 = vals (rot t a (a + 1) (k1 + 1)) by rw [HK1.out, ← vals_swp, rot_right t a k hak]] at HN4
          have hk3 : a ≤ k1 ∧ k1 ≤ q ∧ k < k1 := by have := HK1.out; omega
          go_wp2_with fail
          go_roundw
          case rel => exact ⟨k1, hk3.1, hk3.2.1, rfl, HN4, HU4⟩
          case measure => simp [intOf]; omega
        · obtain rfl : k = q := by omega
          rw [HQI.out] at HQ
          have HQI2 := HQI.out
          have HMA2 := HMA
          go_wp2_with fail
          first | go_ret | go_end0 | refine bodyPost_ret (results_none rfl _ _ _) rfl ?_
          exact ⟨rfl, ⟨rot t a (a + 1) i, HQ.out, HSRT.out, mem_more (mem_rot t a (a + 1) i (by omega) (by omega)) (fun k h => by unfold rot; rw [if_neg (by omega)]) (Nat.le_refl _) (by omega) (by omega), fun k h => by unfold rot; rw [if_neg (by omega)]⟩, HU.out⟩
end Go.Proofs.Ytpcgjladooijmaa.E
/- symMerge (slices.symMergeCmpFunc) over rows: one on the right. Written by gensym.py and toent.py. -/
namespace Go.Proofs.Ytpcgjladooijmaa.E
open Go.ChangeShapes Go.WideShapes Go.Deep Go.RowKit Stab
set_option linter.unusedVariables false


set_option maxRecDepth 100000 in
set_option maxHeartbeats 4000000 in
theorem sym_last {w : World} {g n c : Nat} {t : Nat → EntV × Nat} {a m b : Nat} (h : Nines w g n (vals t)) (hg : g < w.heap.size) (hm : a + 1 < m) (hmb : b = m + 1) (hb : b ≤ n) (hc : n ≤ c) (hcx : c ≤ 9223372036854775807) (hcm : n ≤ 4611686018427387900) (hs : Srt (Tag ltE) t a m) (ht : ∀ j, a ≤ j → j < m → (t j).2 < (t m).2) :
    Calls Try.prog 93 #[.slice (some ⟨g, 0, none⟩) n c, .int .i64 (a : Int), .int .i64 (m : Int), .int .i64 (b : Int), .func (.func 73) #[] #[]] w fun e w' => e = .returned undef ∧ (∃ u, Nines w' g n (vals u) ∧ Srt (Tag ltE) u a b ∧ (∀ x, Mem u a b x ↔ Mem t a b x) ∧ ∀ k, k < a ∨ b ≤ k → u k = t k) ∧ Turns1 g w w' := by
  have H := Lib.hid h
  have HS := Lib.hid hs
  have HTG := Lib.hid ht
  have wm : IntKind.i64.wrap ((m : Int) - (a : Int)) = ((m - a : Nat) : Int) := by rw [IntWalk.i64_in _ (by omega)]; omega
  have wm1 : (((m - a : Nat) : Int) == 1) = false := by rw [beq_eq_false_iff_ne]; omega
  have wb : IntKind.i64.wrap ((b : Int) - (m : Int)) = 1 := by rw [IntWalk.i64_in _ (by omega)]; omega
  have HMB := Lib.hid hmb
  have hmb2 : b ≤ m + 1 ∧ m + 1 ≤ b := by omega
  clear h ht hs hmb
  go_enter Try.func93, Try.ntmps93
  go_wp2_with fail
  go_loopw [14, 15, 16] (fun s14 s15 s16 wq => ∃ (i j : Nat), a ≤ i ∧ i ≤ j ∧ j ≤ m ∧ s14 = .int .i64 (i : Int) ∧ s15 = .int .i64 (j : Int) ∧ Hid (Nines wq g n (vals t)) ∧ Hid (a < i → Tag ltE (t (i - 1)) (t m)) ∧ Hid (j < m → Tag ltE (t m) (t j)) ∧ Hid (Turns1 g w wq)) (fun s14 s15 _ _ => (intOf s15).toNat - (intOf s14).toNat)
  case atStart => exact ⟨a, m, by omega, by omega, by omega, rfl, rfl, H, Lib.hid (fun h => by omega), Lib.hid (fun h => by omega), Lib.hid (Turns1.refl g w)⟩
  case round =>
    obtain ⟨i, j, hmi, hij, hjb, rfl, rfl, HQ, HI, HJ, HU⟩ := hrel
    rename World => wq
    by_cases hlt : i < j
    · have hlti : (i : Int) < (j : Int) := by omega
      obtain ⟨h, hh⟩ : ∃ h, h = (i + j) / 2 := ⟨_, rfl⟩
      have wh : ((i : Int) + (j : Int)) / 2 = (h : Int) := by omega
      have hhr : i ≤ h ∧ h < j := by omega
      have hih : (i : Int) ≤ (h : Int) ∧ (h : Int) < (j : Int) := by omega
      clear hh
      have hhn : (h : Int) < (n : Int) := by omega
      have hmn : (m : Int) < (n : Int) := by omega
      obtain ⟨x, hx⟩ : ∃ x, x = vals t m := ⟨_, rfl⟩
      obtain ⟨y, hy⟩ : ∃ y, y = vals t h := ⟨_, rfl⟩
      have Hx := Lib.hid hx
      have Hy := Lib.hid hy
      clear hx hy
      have hltg : g < wq.heap.size := Nat.lt_of_lt_of_le hg HU.out.size
      have cx0 : wq.cell? ⟨g, (m) * 9, none⟩ = some (.string x.key) := HQ.out.at' _ (by omega) 0 _ (by rw [← Hx.out]; rfl)
      have cx1 : wq.cell? ⟨g, (m) * 9 + 1, none⟩ = some (.int .i64 x.win) := HQ.out.at' _ (by omega) 1 _ (by rw [← Hx.out]; rfl)
      have cx2 : wq.cell? ⟨g, (m) * 9 + 2, none⟩ = some (.string x.part) := HQ.out.at' _ (by omega) 2 _ (by rw [← Hx.out]; rfl)
      have cx3 : wq.cell? ⟨g, (m) * 9 + 3, none⟩ = some (.int .i64 x.fst) := HQ.out.at' _ (by omega) 3 _ (by rw [← Hx.out]; rfl)
      have cx4 : wq.cell? ⟨g, (m) * 9 + 4, none⟩ = some (.int .i64 x.lst) := HQ.out.at' _ (by omega) 4 _ (by rw [← Hx.out]; rfl)
      have cx5 : wq.cell? ⟨g, (m) * 9 + 5, none⟩ = some (.int .i64 x.rows) := HQ.out.at' _ (by omega) 5 _ (by rw [← Hx.out]; rfl)
      have cx6 : wq.cell? ⟨g, (m) * 9 + 6, none⟩ = some (.int .i64 x.size) := HQ.out.at' _ (by omega) 6 _ (by rw [← Hx.out]; rfl)
      have cx7 : wq.cell? ⟨g, (m) * 9 + 7, none⟩ = some (.int .u32 x.sum) := HQ.out.at' _ (by omega) 7 _ (by rw [← Hx.out]; rfl)
      have cx8 : wq.cell? ⟨g, (m) * 9 + 8, none⟩ = some (.int .i64 x.born) := HQ.out.at' _ (by omega) 8 _ (by rw [← Hx.out]; rfl)
      have cy0 : wq.cell? ⟨g, (h) * 9, none⟩ = some (.string y.key) := HQ.out.at' _ (by omega) 0 _ (by rw [← Hy.out]; rfl)
      have cy1 : wq.cell? ⟨g, (h) * 9 + 1, none⟩ = some (.int .i64 y.win) := HQ.out.at' _ (by omega) 1 _ (by rw [← Hy.out]; rfl)
      have cy2 : wq.cell? ⟨g, (h) * 9 + 2, none⟩ = some (.string y.part) := HQ.out.at' _ (by omega) 2 _ (by rw [← Hy.out]; rfl)
      have cy3 : wq.cell? ⟨g, (h) * 9 + 3, none⟩ = some (.int .i64 y.fst) := HQ.out.at' _ (by omega) 3 _ (by rw [← Hy.out]; rfl)
      have cy4 : wq.cell? ⟨g, (h) * 9 + 4, none⟩ = some (.int .i64 y.lst) := HQ.out.at' _ (by omega) 4 _ (by rw [← Hy.out]; rfl)
      have cy5 : wq.cell? ⟨g, (h) * 9 + 5, none⟩ = some (.int .i64 y.rows) := HQ.out.at' _ (by omega) 5 _ (by rw [← Hy.out]; rfl)
      have cy6 : wq.cell? ⟨g, (h) * 9 + 6, none⟩ = some (.int .i64 y.size) := HQ.out.at' _ (by omega) 6 _ (by rw [← Hy.out]; rfl)
      have cy7 : wq.cell? ⟨g, (h) * 9 + 7, none⟩ = some (.int .u32 y.sum) := HQ.out.at' _ (by omega) 7 _ (by rw [← Hy.out]; rfl)
      have cy8 : wq.cell? ⟨g, (h) * 9 + 8, none⟩ = some (.int .i64 y.born) := HQ.out.at' _ (by omega) 8 _ (by rw [← Hy.out]; rfl)
      cases hlt2 : ltE x y with
      | true =>
        have hneg : cmpEnt x y < 0 := ltE_true hlt2
        have hnb : (!decide (cmpEnt x y < 0)) = false := by rw [decide_eq_true hneg]; rfl
        have HTAG := Lib.hid (show Tag ltE (t m) (t h) from .inl (by have h1 := Hx.out; have h2 := Hy.out; unfold vals at h1 h2; rw [← h1, ← h2]; exact hlt2))
        clear hlt2
        go_wp2_with fail
        go_region_held3 (fun w' => w'.cell? ⟨g, (m) * 9, none⟩ = some (.string x.key) ∧ w'.cell? ⟨g, (m) * 9 + 1, none⟩ = some (.int .i64 x.win) ∧ w'.cell? ⟨g, (m) * 9 + 2, none⟩ = some (.string x.part) ∧ w'.cell? ⟨g, (m) * 9 + 3, none⟩ = some (.int .i64 x.fst) ∧ w'.cell? ⟨g, (m) * 9 + 4, none⟩ = some (.int .i64 x.lst) ∧ w'.cell? ⟨g, (m) * 9 + 5, none⟩ = some (.int .i64 x.rows) ∧ w'.cell? ⟨g, (m) * 9 + 6, none⟩ = some (.int .i64 x.size) ∧ w'.cell? ⟨g, (m) * 9 + 7, none⟩ = some (.int .u32 x.sum) ∧ w'.cell? ⟨g, (m) * 9 + 8, none⟩ = some (.int .i64 x.born) ∧ w'.cell? ⟨g, (h) * 9, none⟩ = some (.string y.key) ∧ w'.cell? ⟨g, (h) * 9 + 1, none⟩ = some (.int .i64 y.win) ∧ w'.cell? ⟨g, (h) * 9 + 2, none⟩ = some (.string y.part) ∧ w'.cell? ⟨g, (h) * 9 + 3, none⟩ = some (.int .i64 y.fst) ∧ w'.cell? ⟨g, (h) * 9 + 4, none⟩ = some (.int .i64 y.lst) ∧ w'.cell? ⟨g, (h) * 9 + 5, none⟩ = some (.int .i64 y.rows) ∧ w'.cell? ⟨g, (h) * 9 + 6, none⟩ = some (.int .i64 y.size) ∧ w'.cell? ⟨g, (h) * 9 + 7, none⟩ = some (.int .u32 y.sum) ∧ w'.cell? ⟨g, (h) * 9 + 8, none⟩ = some (.int .i64 y.born)) (first | go_keep | exact ⟨(hbq.cell (p := ⟨g, (m) * 9, none⟩) hltg).trans cx0, (hbq.cell (p := ⟨g, (m) * 9 + 1, none⟩) hltg).trans cx1, (hbq.cell (p := ⟨g, (m) * 9 + 2, none⟩) hltg).trans cx2, (hbq.cell (p := ⟨g, (m) * 9 + 3, none⟩) hltg).trans cx3, (hbq.cell (p := ⟨g, (m) * 9 + 4, none⟩) hltg).trans cx4, (hbq.cell (p := ⟨g, (m) * 9 + 5, none⟩) hltg).trans cx5, (hbq.cell (p := ⟨g, (m) * 9 + 6, none⟩) hltg).trans cx6, (hbq.cell (p := ⟨g, (m) * 9 + 7, none⟩) hltg).trans cx7, (hbq.cell (p := ⟨g, (m) * 9 + 8, none⟩) hltg).trans cx8, (hbq.cell (p := ⟨g, (h) * 9, none⟩) hltg).trans cy0, (hbq.cell (p := ⟨g, (h) * 9 + 1, none⟩) hltg).trans cy1, (hbq.cell (p := ⟨g, (h) * 9 + 2, none⟩) hltg).trans cy2, (hbq.cell (p := ⟨g, (h) * 9 + 3, none⟩) hltg).trans cy3, (hbq.cell (p := ⟨g, (h) * 9 + 4, none⟩) hltg).trans cy4, (hbq.cell (p := ⟨g, (h) * 9 + 5, none⟩) hltg).trans cy5, (hbq.cell (p := ⟨g, (h) * 9 + 6, none⟩) hltg).trans cy6, (hbq.cell (p := ⟨g, (h) * 9 + 7, none⟩) hltg).trans cy7, (hbq.cell (p := ⟨g, (h) * 9 + 8, none⟩) hltg).trans cy8⟩) (first | (go_at_call 73; refine (ecompare_any x y _).mono ?_; rintro r w3 ⟨rfl, hbq⟩))
        have HN3 := Lib.hid (HQ.out.drew.below hltg hbq)
        have HU3 := Lib.hid (HU.out.drew.below hbq)
        clear hbq cx0 cx1 cx2 cx3 cx4 cx5 cx6 cx7 cx8 cy0 cy1 cy2 cy3 cy4 cy5 cy6 cy7 cy8
        go_wp2_with fail
        go_roundw
        case rel => exact ⟨i, h, by omega, by omega, by omega, rfl, by go_num, HN3, HI, Lib.hid (fun _ => HTAG.out), HU3⟩
        case measure => simp [intOf]; omega
      | false =>
        have hneg : ¬ cmpEnt x y < 0 := ltE_false hlt2
        have hnb : (!decide (cmpEnt x y < 0)) = true := by rw [decide_eq_false hneg]; rfl
        have HTAG := Lib.hid (show Tag ltE (t h) (t m) from .inr ⟨by have h1 := Hx.out; have h2 := Hy.out; unfold vals at h1 h2; rw [← h1, ← h2]; exact hlt2, HTG.out h (by omega) (by omega)⟩)
        clear hlt2
        go_wp2_with fail
        go_region_held3 (fun w' => w'.cell? ⟨g, (m) * 9, none⟩ = some (.string x.key) ∧ w'.cell? ⟨g, (m) * 9 + 1, none⟩ = some (.int .i64 x.win) ∧ w'.cell? ⟨g, (m) * 9 + 2, none⟩ = some (.string x.part) ∧ w'.cell? ⟨g, (m) * 9 + 3, none⟩ = some (.int .i64 x.fst) ∧ w'.cell? ⟨g, (m) * 9 + 4, none⟩ = some (.int .i64 x.lst) ∧ w'.cell? ⟨g, (m) * 9 + 5, none⟩ = some (.int .i64 x.rows) ∧ w'.cell? ⟨g, (m) * 9 + 6, none⟩ = some (.int .i64 x.size) ∧ w'.cell? ⟨g, (m) * 9 + 7, none⟩ = some (.int .u32 x.sum) ∧ w'.cell? ⟨g, (m) * 9 + 8, none⟩ = some (.int .i64 x.born) ∧ w'.cell? ⟨g, (h) * 9, none⟩ = some (.string y.key) ∧ w'.cell? ⟨g, (h) * 9 + 1, none⟩ = some (.int .i64 y.win) ∧ w'.cell? ⟨g, (h) * 9 + 2, none⟩ = some (.string y.part) ∧ w'.cell? ⟨g, (h) * 9 + 3, none⟩ = some (.int .i64 y.fst) ∧ w'.cell? ⟨g, (h) * 9 + 4, none⟩ = some (.int .i64 y.lst) ∧ w'.cell? ⟨g, (h) * 9 + 5, none⟩ = some (.int .i64 y.rows) ∧ w'.cell? ⟨g, (h) * 9 + 6, none⟩ = some (.int .i64 y.size) ∧ w'.cell? ⟨g, (h) * 9 + 7, none⟩ = some (.int .u32 y.sum) ∧ w'.cell? ⟨g, (h) * 9 + 8, none⟩ = some (.int .i64 y.born)) (first | go_keep | exact ⟨(hbq.cell (p := ⟨g, (m) * 9, none⟩) hltg).trans cx0, (hbq.cell (p := ⟨g, (m) * 9 + 1, none⟩) hltg).trans cx1, (hbq.cell (p := ⟨g, (m) * 9 + 2, none⟩) hltg).trans cx2, (hbq.cell (p := ⟨g, (m) * 9 + 3, none⟩) hltg).trans cx3, (hbq.cell (p := ⟨g, (m) * 9 + 4, none⟩) hltg).trans cx4, (hbq.cell (p := ⟨g, (m) * 9 + 5, none⟩) hltg).trans cx5, (hbq.cell (p := ⟨g, (m) * 9 + 6, none⟩) hltg).trans cx6, (hbq.cell (p := ⟨g, (m) * 9 + 7, none⟩) hltg).trans cx7, (hbq.cell (p := ⟨g, (m) * 9 + 8, none⟩) hltg).trans cx8, (hbq.cell (p := ⟨g, (h) * 9, none⟩) hltg).trans cy0, (hbq.cell (p := ⟨g, (h) * 9 + 1, none⟩) hltg).trans cy1, (hbq.cell (p := ⟨g, (h) * 9 + 2, none⟩) hltg).trans cy2, (hbq.cell (p := ⟨g, (h) * 9 + 3, none⟩) hltg).trans cy3, (hbq.cell (p := ⟨g, (h) * 9 + 4, none⟩) hltg).trans cy4, (hbq.cell (p := ⟨g, (h) * 9 + 5, none⟩) hltg).trans cy5, (hbq.cell (p := ⟨g, (h) * 9 + 6, none⟩) hltg).trans cy6, (hbq.cell (p := ⟨g, (h) * 9 + 7, none⟩) hltg).trans cy7, (hbq.cell (p := ⟨g, (h) * 9 + 8, none⟩) hltg).trans cy8⟩) (first | (go_at_call 73; refine (ecompare_any x y _).mono ?_; rintro r w3 ⟨rfl, hbq⟩))
        have HN3 := Lib.hid (HQ.out.drew.below hltg hbq)
        have HU3 := Lib.hid (HU.out.drew.below hbq)
        clear hbq cx0 cx1 cx2 cx3 cx4 cx5 cx6 cx7 cx8 cy0 cy1 cy2 cy3 cy4 cy5 cy6 cy7 cy8
        go_wp2_with fail
        go_roundw
        case rel => exact ⟨h + 1, j, by omega, by omega, by omega, by go_num, rfl, HN3, Lib.hid (fun _ => HTAG.out), HJ, HU3⟩
        case measure => simp [intOf]; omega
    · obtain rfl : i = j := by omega
      have HSRT := Lib.hid (Srt.insert (f := t) (j := i) (m := m) HS.out hmi hjb (fun k h1 h2 => by
        have h3 := HI.out (by omega)
        by_cases e : k = i - 1
        · rw [e]; exact h3
        · exact weak_ltE.tag_tr _ _ _ (HS.out k (i - 1) (by omega) (by omega) (by omega)) h3) (fun k h1 h2 => by
        have h3 := HJ.out (by omega)
        by_cases e : k = i
        · rw [e]; exact h3
        · exact weak_ltE.tag_tr _ _ _ h3 (HS.out i k (by omega) (by omega) (by omega))))
      clear HI HJ
      go_wp2_with fail
      go_loopw [17] (fun s17 wr => ∃ k : Nat, i ≤ k ∧ k ≤ m ∧ s17 = .int .i64 (k : Int) ∧ Hid (Nines wr g n (vals (rot t k m (m + 1)))) ∧ Hid (Turns1 g w wr)) (fun s17 _ => (intOf s17).toNat)
      case atStart => exact ⟨m, by omega, by omega, rfl, by rw [rot_none' t m (m + 1) (by omega)]; exact HQ, HU⟩
      case round =>
        clear HQ HU
        obtain ⟨k, hik, hkm, rfl, HQ, HU⟩ := hrel
        rename World => wr
        by_cases hki : i < k
        · have hkii : (i : Int) < (k : Int) := by omega
          obtain ⟨q, hq⟩ : ∃ q, q = k - 1 := ⟨_, rfl⟩
          have wkq : IntKind.i64.wrap ((k : Int) - 1) = (q : Int) := by rw [IntWalk.i64_in _ (by omega)]; omega
          have hkn : (k : Int) < (n : Int) := by omega
          have hqn : (q : Int) < (n : Int) := by omega
          have hne1 : ¬ k = q := by omega
          have hne2 : ¬ q = k := by omega
          obtain ⟨x, hx⟩ : ∃ x, x = vals (rot t k m (m + 1)) k := ⟨_, rfl⟩
          obtain ⟨y, hy⟩ : ∃ y, y = vals (rot t k m (m + 1)) q := ⟨_, rfl⟩
          have Hx := Lib.hid hx
          have Hy := Lib.hid hy
          have HQQ := Lib.hid (show q + 1 = k by omega)
          clear hx hy hq
          have hkn2 : k < n := by omega
          have hqn2 : q < n := by omega
          have cx0 : wr.cell? ⟨g, (k) * 9, none⟩ = some (.string x.key) := HQ.out.at' _ (by omega) 0 _ (by rw [← Hx.out]; rfl)
          have cx1 : wr.cell? ⟨g, (k) * 9 + 1, none⟩ = some (.int .i64 x.win) := HQ.out.at' _ (by omega) 1 _ (by rw [← Hx.out]; rfl)
          have cx2 : wr.cell? ⟨g, (k) * 9 + 2, none⟩ = some (.string x.part) := HQ.out.at' _ (by omega) 2 _ (by rw [← Hx.out]; rfl)
          have cx3 : wr.cell? ⟨g, (k) * 9 + 3, none⟩ = some (.int .i64 x.fst) := HQ.out.at' _ (by omega) 3 _ (by rw [← Hx.out]; rfl)
          have cx4 : wr.cell? ⟨g, (k) * 9 + 4, none⟩ = some (.int .i64 x.lst) := HQ.out.at' _ (by omega) 4 _ (by rw [← Hx.out]; rfl)
          have cx5 : wr.cell? ⟨g, (k) * 9 + 5, none⟩ = some (.int .i64 x.rows) := HQ.out.at' _ (by omega) 5 _ (by rw [← Hx.out]; rfl)
          have cx6 : wr.cell? ⟨g, (k) * 9 + 6, none⟩ = some (.int .i64 x.size) := HQ.out.at' _ (by omega) 6 _ (by rw [← Hx.out]; rfl)
          have cx7 : wr.cell? ⟨g, (k) * 9 + 7, none⟩ = some (.int .u32 x.sum) := HQ.out.at' _ (by omega) 7 _ (by rw [← Hx.out]; rfl)
          have cx8 : wr.cell? ⟨g, (k) * 9 + 8, none⟩ = some (.int .i64 x.born) := HQ.out.at' _ (by omega) 8 _ (by rw [← Hx.out]; rfl)
          have zx0 : wr.frozen? ⟨g, (k) * 9, none⟩ = false := (HQ.out.free _ (by omega) 0 (by omega)).2
          have zx1 : wr.frozen? ⟨g, (k) * 9 + 1, none⟩ = false := (HQ.out.free _ (by omega) 1 (by omega)).2
          have zx2 : wr.frozen? ⟨g, (k) * 9 + 2, none⟩ = false := (HQ.out.free _ (by omega) 2 (by omega)).2
          have zx3 : wr.frozen? ⟨g, (k) * 9 + 3, none⟩ = false := (HQ.out.free _ (by omega) 3 (by omega)).2
          have zx4 : wr.frozen? ⟨g, (k) * 9 + 4, none⟩ = false := (HQ.out.free _ (by omega) 4 (by omega)).2
          have zx5 : wr.frozen? ⟨g, (k) * 9 + 5, none⟩ = false := (HQ.out.free _ (by omega) 5 (by omega)).2
          have zx6 : wr.frozen? ⟨g, (k) * 9 + 6, none⟩ = false := (HQ.out.free _ (by omega) 6 (by omega)).2
          have zx7 : wr.frozen? ⟨g, (k) * 9 + 7, none⟩ = false := (HQ.out.free _ (by omega) 7 (by omega)).2
          have zx8 : wr.frozen? ⟨g, (k) * 9 + 8, none⟩ = false := (HQ.out.free _ (by omega) 8 (by omega)).2
          have cy0 : wr.cell? ⟨g, (q) * 9, none⟩ = some (.string y.key) := HQ.out.at' _ (by omega) 0 _ (by rw [← Hy.out]; rfl)
          have cy1 : wr.cell? ⟨g, (q) * 9 + 1, none⟩ = some (.int .i64 y.win) := HQ.out.at' _ (by omega) 1 _ (by rw [← Hy.out]; rfl)
          have cy2 : wr.cell? ⟨g, (q) * 9 + 2, none⟩ = some (.string y.part) := HQ.out.at' _ (by omega) 2 _ (by rw [← Hy.out]; rfl)
          have cy3 : wr.cell? ⟨g, (q) * 9 + 3, none⟩ = some (.int .i64 y.fst) := HQ.out.at' _ (by omega) 3 _ (by rw [← Hy.out]; rfl)
          have cy4 : wr.cell? ⟨g, (q) * 9 + 4, none⟩ = some (.int .i64 y.lst) := HQ.out.at' _ (by omega) 4 _ (by rw [← Hy.out]; rfl)
          have cy5 : wr.cell? ⟨g, (q) * 9 + 5, none⟩ = some (.int .i64 y.rows) := HQ.out.at' _ (by omega) 5 _ (by rw [← Hy.out]; rfl)
          have cy6 : wr.cell? ⟨g, (q) * 9 + 6, none⟩ = some (.int .i64 y.size) := HQ.out.at' _ (by omega) 6 _ (by rw [← Hy.out]; rfl)
          have cy7 : wr.cell? ⟨g, (q) * 9 + 7, none⟩ = some (.int .u32 y.sum) := HQ.out.at' _ (by omega) 7 _ (by rw [← Hy.out]; rfl)
          have cy8 : wr.cell? ⟨g, (q) * 9 + 8, none⟩ = some (.int .i64 y.born) := HQ.out.at' _ (by omega) 8 _ (by rw [← Hy.out]; rfl)
          have zy0 : wr.frozen? ⟨g, (q) * 9, none⟩ = false := (HQ.out.free _ (by omega) 0 (by omega)).2
          have zy1 : wr.frozen? ⟨g, (q) * 9 + 1, none⟩ = false := (HQ.out.free _ (by omega) 1 (by omega)).2
          have zy2 : wr.frozen? ⟨g, (q) * 9 + 2, none⟩ = false := (HQ.out.free _ (by omega) 2 (by omega)).2
          have zy3 : wr.frozen? ⟨g, (q) * 9 + 3, none⟩ = false := (HQ.out.free _ (by omega) 3 (by omega)).2
          have zy4 : wr.frozen? ⟨g, (q) * 9 + 4, none⟩ = false := (HQ.out.free _ (by omega) 4 (by omega)).2
          have zy5 : wr.frozen? ⟨g, (q) * 9 + 5, none⟩ = false := (HQ.out.free _ (by omega) 5 (by omega)).2
          have zy6 : wr.frozen? ⟨g, (q) * 9 + 6, none⟩ = false := (HQ.out.free _ (by omega) 6 (by omega)).2
          have zy7 : wr.frozen? ⟨g, (q) * 9 + 7, none⟩ = false := (HQ.out.free _ (by omega) 7 (by omega)).2
          have zy8 : wr.frozen? ⟨g, (q) * 9 + 8, none⟩ = false := (HQ.out.free _ (by omega) 8 (by omega)).2
          go_wp2_with fail
          go_region
          have HN4 := Lib.hid (HQ.out.swap k q (by omega) (by omega) x y Hx.out Hy.out).drew
          have HU4 := Lib.hid (((HU.out.sets y.cells (k * 9)).sets x.cells (q * 9)).drew)
          rw [ins_step t HQQ.out hkm] at HN4
          have hq3 : i ≤ q ∧ q ≤ m ∧ q < k := by have := HQQ.out; omega
          go_wp2_with fail
          go_roundw
          case rel => exact ⟨q, hq3.1, hq3.2.1, by go_num, HN4, HU4⟩
          case measure => simp [intOf]; omega
        · obtain rfl : k = i := by omega
          go_wp2_with fail
          first | go_ret | go_end0 | refine bodyPost_ret (results_none rfl _ _ _) rfl ?_
          obtain rfl := HMB.out
          exact ⟨rfl, ⟨rot t k m (m + 1), HQ.out, HSRT.out, mem_more (mem_rot t k m (m + 1) (by omega) (by omega)) (fun k h => by unfold rot; rw [if_neg (by omega)]) (by omega) (by omega) (by omega), fun k h => by unfold rot; rw [if_neg (by omega)]⟩, HU.out⟩
end Go.Proofs.Ytpcgjladooijmaa.E
/- symMerge (slices.symMergeCmpFunc) over rows, all. Written by gensym.py and toent.py. -/
namespace Go.Proofs.Ytpcgjladooijmaa.E
open Go.ChangeShapes Go.WideShapes Go.Deep Go.RowKit Stab
set_option linter.unusedVariables false

theorem vals_rot (t : Nat → EntV × Nat) (s m e : Nat) : rot (vals t) s m e = vals (rot t s m e) := by
  funext k; unfold vals rot; repeat' split
  all_goals rfl
/-- what is known behind the turn: four stretches in order, the first two below the other two -/
structure Cut4 (t v : Nat → EntV × Nat) (a s mid e b : Nat) : Prop where
  one : Srt (Tag ltE) v a s
  two : Srt (Tag ltE) v s mid
  three : Srt (Tag ltE) v mid e
  four : Srt (Tag ltE) v e b
  low : ∀ x y, Mem v a mid x → Mem v mid b y → Tag ltE x y
  mem : ∀ x, Mem v a b x ↔ Mem t a b x
  out : ∀ k, k < a ∨ b ≤ k → v k = t k
  young1 : ∀ i j, a ≤ i → i < s → s ≤ j → j < mid → (v i).2 < (v j).2
  young2 : ∀ i j, mid ≤ i → i < e → e ≤ j → j < b → (v i).2 < (v j).2
theorem cut4 {t : Nat → EntV × Nat} {a m b s mid e : Nat} (h1 : Srt (Tag ltE) t a m) (h2 : Srt (Tag ltE) t m b) (has : a ≤ s) (hsm : s ≤ m) (hme : m ≤ e) (heb : e ≤ b) (hmid : s + (e - m) = mid)
    (hlo : a < s → e < b → Tag ltE (t (s - 1)) (t e)) (hhi : s < m → m < e → Tag ltE (t (e - 1)) (t s)) (hy : ∀ i j, a ≤ i → i < m → m ≤ j → j < b → (t i).2 < (t j).2) : Cut4 t (rot t s m e) a s mid e b := by
  subst hmid
  obtain ⟨k1, k2, k3, k4, k5⟩ := h1.cut weak_ltE.tag_tr h2 has hsm hme heb hlo hhi
  have below : ∀ i, i < s → rot t s m e i = t i := fun i h => by unfold rot; rw [if_neg (by omega)]
  have above : ∀ i, e ≤ i → rot t s m e i = t i := fun i h => by unfold rot; rw [if_neg (by omega)]
  have one : ∀ i, s ≤ i → i < s + (e - m) → rot t s m e i = t (i + (m - s)) := fun i h h' => by unfold rot; rw [if_pos (by omega), if_pos h']
  have two : ∀ i, s + (e - m) ≤ i → i < e → rot t s m e i = t (i - (e - m)) := fun i h h' => by unfold rot; rw [if_pos (by omega), if_neg (by omega)]
  refine ⟨k1, k2, k3, k4, k5, mem_more (mem_rot t s m e hsm hme) (fun k h => by unfold rot; rw [if_neg (by omega)]) has (by omega) heb, fun k h => by unfold rot; rw [if_neg (by omega)], ?_, ?_⟩
  · intro i j hi his hj hjm
    rw [below i his, one j hj hjm]
    exact hy _ _ hi (by omega) (by omega) (by omega)
  · intro i j hi hie hj hjb
    rw [two i hi hie, above j hj]
    exact hy _ _ (by omega) (by omega) (by omega) hjb
def Half (v u : Nat → EntV × Nat) (a b : Nat) : Prop := Srt (Tag ltE) u a b ∧ (∀ x, Mem u a b x ↔ Mem v a b x) ∧ ∀ k, k < a ∨ b ≤ k → u k = v k
theorem Half.refl {v : Nat → EntV × Nat} {a b : Nat} (h : Srt (Tag ltE) v a b) : Half v v a b := ⟨h, fun _ => Iff.rfl, fun _ _ => rfl⟩
theorem Cut4.done {t v u1 u2 : Nat → EntV × Nat} {a s mid e b : Nat} (h : Cut4 t v a s mid e b) (h1 : Half v u1 a mid) (h2 : Half u1 u2 mid b) (ham : a ≤ mid) (hmb : mid ≤ b) : Srt (Tag ltE) u2 a b ∧ (∀ x, Mem u2 a b x ↔ Mem t a b x) ∧ ∀ k, k < a ∨ b ≤ k → u2 k = t k := by
  obtain ⟨s1, m1, o1⟩ := h1
  obtain ⟨s2, m2, o2⟩ := h2
  have e1 : ∀ x, Mem u2 a mid x ↔ Mem v a mid x := fun x => by rw [mem_congr (f := u1) (g := u2) (fun k _ hk => o2 k (.inl hk)), m1 x]
  have e2 : ∀ x, Mem u2 mid b x ↔ Mem v mid b x := fun x => by rw [m2 x, mem_congr (f := v) (g := u1) (fun k hk _ => o1 k (.inr hk))]
  refine ⟨Srt.join (m := mid) (s1.congr (fun i _ hi => o2 i (.inl hi))) s2 (fun x y hx hy => h.low x y ((e1 x).1 hx) ((e2 y).1 hy)), fun x => ?_, fun k hk => ?_⟩
  · rw [mem_cut u2 a mid b ham hmb, e1 x, e2 x, ← mem_cut v a mid b ham hmb, h.mem x]
  · rw [o2 k (by omega), o1 k (by omega), h.out k hk]

set_option maxRecDepth 100000 in
set_option maxHeartbeats 16000000 in
theorem sym_all : ∀ (d : Nat) (w : World) (g n c : Nat) (t : Nat → EntV × Nat) (a m b : Nat), b - a ≤ d → Nines w g n (vals t) → g < w.heap.size → a < m → m < b → b ≤ n → n ≤ c → c ≤ 9223372036854775807 → n ≤ 4611686018427387900 → Srt (Tag ltE) t a m → Srt (Tag ltE) t m b → (∀ i j, a ≤ i → i < m → m ≤ j → j < b → (t i).2 < (t j).2) →
    Calls Try.prog 93 #[.slice (some ⟨g, 0, none⟩) n c, .int .i64 (a : Int), .int .i64 (m : Int), .int .i64 (b : Int), .func (.func 73) #[] #[]] w fun e w' => e = .returned undef ∧ (∃ u, Nines w' g n (vals u) ∧ Srt (Tag ltE) u a b ∧ (∀ x, Mem u a b x ↔ Mem t a b x) ∧ ∀ k, k < a ∨ b ≤ k → u k = t k) ∧ Turns1 g w w' := by
  intro d
  induction d with
  | zero => intro w g n c t a m b hd h hg ham hmb; omega
  | succ d ih =>
  intro w g n c t a m b hd h hg ham hmb hb hc hcx hcm hs1 hs2 hy
  by_cases hm1 : m = a + 1
  · exact sym_one h hg hm1 hmb hb hc hcx hcm hs2 (fun j h1 h2 => hy a j (Nat.le_refl _) ham h1 h2)
  by_cases hb1 : b = m + 1
  · exact sym_last h hg (by omega) hb1 hb hc hcx hcm hs1 (fun j h1 h2 => hy j m h1 h2 (Nat.le_refl _) hmb)
  have H := Lib.hid h
  have HS1 := Lib.hid hs1
  have HS2 := Lib.hid hs2
  have HTG := Lib.hid hy
  have IH := Lib.hid ih
  clear h hs1 hs2 hy ih
  obtain ⟨mid, hmid⟩ : ∃ mid : Nat, 2 * mid ≤ a + b ∧ a + b ≤ 2 * mid + 1 := ⟨(a + b) / 2, by omega⟩
  obtain ⟨nn, hnn⟩ : ∃ nn : Nat, nn ≤ mid + m ∧ mid + m ≤ nn := ⟨mid + m, by omega⟩
  have wm : IntKind.i64.wrap ((m : Int) - (a : Int)) = ((m - a : Nat) : Int) := by rw [IntWalk.i64_in _ (by omega)]; omega
  have wm1 : (((m - a : Nat) : Int) == 1) = false := by rw [beq_eq_false_iff_ne]; omega
  have wb : IntKind.i64.wrap ((b : Int) - (m : Int)) = ((b - m : Nat) : Int) := by rw [IntWalk.i64_in _ (by omega)]; omega
  have wb1 : (((b - m : Nat) : Int) == 1) = false := by rw [beq_eq_false_iff_ne]; omega
  have wmid : ((a : Int) + (b : Int)) / 2 = (mid : Int) := by omega
  have wnn : IntKind.i64.wrap ((mid : Int) + (m : Int)) = (nn : Int) := by rw [IntWalk.i64_in _ (by omega)]; omega
  obtain ⟨p, hp⟩ : ∃ p : Nat, p + 1 ≤ nn ∧ nn ≤ p + 1 := ⟨nn - 1, by omega⟩
  have wp : IntKind.i64.wrap ((nn : Int) - 1) = (p : Int) := by rw [IntWalk.i64_in _ (by omega)]; omega
  by_cases hmm : mid < m
  · obtain ⟨s0, hs0⟩ : ∃ s0 : Nat, s0 + b ≤ nn ∧ nn ≤ s0 + b := ⟨nn - b, by omega⟩
    obtain ⟨r0, hr0⟩ : ∃ r0 : Nat, r0 ≤ mid ∧ mid ≤ r0 := ⟨mid, by omega⟩
    have w20 : IntKind.i64.wrap ((nn : Int) - (b : Int)) = (s0 : Int) := by rw [IntWalk.i64_in _ (by omega)]; omega
    have hmmi : (mid : Int) < (m : Int) := by omega
    have hbd : a ≤ s0 ∧ nn ≤ s0 + b ∧ s0 ≤ r0 ∧ r0 ≤ mid ∧ r0 ≤ m := by omega
    go_enter Try.func93, Try.ntmps93
    go_wp2_with fail
    go_loopw [20, 21, 23] (fun s20 s21 s23 wq => ∃ (s r : Nat), s0 ≤ s ∧ s ≤ r ∧ r ≤ r0 ∧ s20 = .int .i64 (s : Int) ∧ s21 = .int .i64 (r : Int) ∧ Hid (Nines wq g n (vals t)) ∧ Hid (s0 < s → Tag ltE (t (s - 1)) (t (nn - s))) ∧ Hid (r < r0 → Tag ltE (t (nn - 1 - r)) (t r)) ∧ Hid (Turns1 g w wq)) (fun s20 s21 _ _ => (intOf s21).toNat - (intOf s20).toNat)
    case atStart => exact ⟨s0, r0, by omega, by omega, by omega, by first | rfl | exact congrArg (Value.int .i64) (by omega), by first | rfl | exact congrArg (Value.int .i64) (by omega), H, Lib.hid (fun h => by omega), Lib.hid (fun h => by omega), Lib.hid (Turns1.refl g w)⟩
    case round =>
      obtain ⟨s, r, hs0s, hsr, hrr0, rfl, rfl, HQ, HI, HJ, HU⟩ := hrel
      rename World => wq
      by_cases hlt : s < r
      · have hlti : (s : Int) < (r : Int) := by omega
        obtain ⟨k, hk⟩ : ∃ k : Nat, 2 * k ≤ s + r ∧ s + r ≤ 2 * k + 1 := ⟨(s + r) / 2, by omega⟩
        have wk : ((s : Int) + (r : Int)) / 2 = (k : Int) := by omega
        obtain ⟨e, he⟩ : ∃ e : Nat, e + k ≤ p ∧ p ≤ e + k := ⟨p - k, by omega⟩
        have we : IntKind.i64.wrap ((p : Int) - (k : Int)) = (e : Int) := by rw [IntWalk.i64_in _ (by omega)]; omega
        have hkr : s ≤ k ∧ k < r := by omega
        have her : m ≤ e ∧ e < b := by omega
        have hkn : (k : Int) < (n : Int) := by omega
        have hen : (e : Int) < (n : Int) := by omega
        obtain ⟨x, hx⟩ : ∃ x, x = vals t e := ⟨_, rfl⟩
        obtain ⟨y, hy⟩ : ∃ y, y = vals t k := ⟨_, rfl⟩
        have Hx := Lib.hid hx
        have Hy := Lib.hid hy
        clear hx hy
        have hltg : g < wq.heap.size := Nat.lt_of_lt_of_le hg HU.out.size
        have cx0 : wq.cell? ⟨g, (e) * 9, none⟩ = some (.string x.key) := HQ.out.at' _ (by omega) 0 _ (by rw [← Hx.out]; rfl)
        have cx1 : wq.cell? ⟨g, (e) * 9 + 1, none⟩ = some (.int .i64 x.win) := HQ.out.at' _ (by omega) 1 _ (by rw [← Hx.out]; rfl)
        have cx2 : wq.cell? ⟨g, (e) * 9 + 2, none⟩ = some (.string x.part) := HQ.out.at' _ (by omega) 2 _ (by rw [← Hx.out]; rfl)
        have cx3 : wq.cell? ⟨g, (e) * 9 + 3, none⟩ = some (.int .i64 x.fst) := HQ.out.at' _ (by omega) 3 _ (by rw [← Hx.out]; rfl)
        have cx4 : wq.cell? ⟨g, (e) * 9 + 4, none⟩ = some (.int .i64 x.lst) := HQ.out.at' _ (by omega) 4 _ (by rw [← Hx.out]; rfl)
        have cx5 : wq.cell? ⟨g, (e) * 9 + 5, none⟩ = some (.int .i64 x.rows) := HQ.out.at' _ (by omega) 5 _ (by rw [← Hx.out]; rfl)
        have cx6 : wq.cell? ⟨g, (e) * 9 + 6, none⟩ = some (.int .i64 x.size) := HQ.out.at' _ (by omega) 6 _ (by rw [← Hx.out]; rfl)
        have cx7 : wq.cell? ⟨g, (e) * 9 + 7, none⟩ = some (.int .u32 x.sum) := HQ.out.at' _ (by omega) 7 _ (by rw [← Hx.out]; rfl)
        have cx8 : wq.cell? ⟨g, (e) * 9 + 8, none⟩ = some (.int .i64 x.born) := HQ.out.at' _ (by omega) 8 _ (by rw [← Hx.out]; rfl)
        have cy0 : wq.cell? ⟨g, (k) * 9, none⟩ = some (.string y.key) := HQ.out.at' _ (by omega) 0 _ (by rw [← Hy.out]; rfl)
        have cy1 : wq.cell? ⟨g, (k) * 9 + 1, none⟩ = some (.int .i64 y.win) := HQ.out.at' _ (by omega) 1 _ (by rw [← Hy.out]; rfl)
        have cy2 : wq.cell? ⟨g, (k) * 9 + 2, none⟩ = some (.string y.part) := HQ.out.at' _ (by omega) 2 _ (by rw [← Hy.out]; rfl)
        have cy3 : wq.cell? ⟨g, (k) * 9 + 3, none⟩ = some (.int .i64 y.fst) := HQ.out.at' _ (by omega) 3 _ (by rw [← Hy.out]; rfl)
        have cy4 : wq.cell? ⟨g, (k) * 9 + 4, none⟩ = some (.int .i64 y.lst) := HQ.out.at' _ (by omega) 4 _ (by rw [← Hy.out]; rfl)
        have cy5 : wq.cell? ⟨g, (k) * 9 + 5, none⟩ = some (.int .i64 y.rows) := HQ.out.at' _ (by omega) 5 _ (by rw [← Hy.out]; rfl)
        have cy6 : wq.cell? ⟨g, (k) * 9 + 6, none⟩ = some (.int .i64 y.size) := HQ.out.at' _ (by omega) 6 _ (by rw [← Hy.out]; rfl)
        have cy7 : wq.cell? ⟨g, (k) * 9 + 7, none⟩ = some (.int .u32 y.sum) := HQ.out.at' _ (by omega) 7 _ (by rw [← Hy.out]; rfl)
        have cy8 : wq.cell? ⟨g, (k) * 9 + 8, none⟩ = some (.int .i64 y.born) := HQ.out.at' _ (by omega) 8 _ (by rw [← Hy.out]; rfl)
        cases hlt2 : ltE x y with
        | true =>
          have hneg : cmpEnt x y < 0 := ltE_true hlt2
          have hnb : (!decide (cmpEnt x y < 0)) = false := by rw [decide_eq_true hneg]; rfl
          have HTAG := Lib.hid (show Tag ltE (t (nn - 1 - k)) (t k) from .inl (by have h1 := Hx.out; have h2 := Hy.out; unfold vals at h1 h2; rw [show nn - 1 - k = e by omega, ← h1, ← h2]; exact hlt2))
          clear hlt2
          go_wp2_with fail
          go_region_held3 (fun w' => w'.cell? ⟨g, (e) * 9, none⟩ = some (.string x.key) ∧ w'.cell? ⟨g, (e) * 9 + 1, none⟩ = some (.int .i64 x.win) ∧ w'.cell? ⟨g, (e) * 9 + 2, none⟩ = some (.string x.part) ∧ w'.cell? ⟨g, (e) * 9 + 3, none⟩ = some (.int .i64 x.fst) ∧ w'.cell? ⟨g, (e) * 9 + 4, none⟩ = some (.int .i64 x.lst) ∧ w'.cell? ⟨g, (e) * 9 + 5, none⟩ = some (.int .i64 x.rows) ∧ w'.cell? ⟨g, (e) * 9 + 6, none⟩ = some (.int .i64 x.size) ∧ w'.cell? ⟨g, (e) * 9 + 7, none⟩ = some (.int .u32 x.sum) ∧ w'.cell? ⟨g, (e) * 9 + 8, none⟩ = some (.int .i64 x.born) ∧ w'.cell? ⟨g, (k) * 9, none⟩ = some (.string y.key) ∧ w'.cell? ⟨g, (k) * 9 + 1, none⟩ = some (.int .i64 y.win) ∧ w'.cell? ⟨g, (k) * 9 + 2, none⟩ = some (.string y.part) ∧ w'.cell? ⟨g, (k) * 9 + 3, none⟩ = some (.int .i64 y.fst) ∧ w'.cell? ⟨g, (k) * 9 + 4, none⟩ = some (.int .i64 y.lst) ∧ w'.cell? ⟨g, (k) * 9 + 5, none⟩ = some (.int .i64 y.rows) ∧ w'.cell? ⟨g, (k) * 9 + 6, none⟩ = some (.int .i64 y.size) ∧ w'.cell? ⟨g, (k) * 9 + 7, none⟩ = some (.int .u32 y.sum) ∧ w'.cell? ⟨g, (k) * 9 + 8, none⟩ = some (.int .i64 y.born)) (first | go_keep | exact ⟨(hbq.cell (p := ⟨g, (e) * 9, none⟩) hltg).trans cx0, (hbq.cell (p := ⟨g, (e) * 9 + 1, none⟩) hltg).trans cx1, (hbq.cell (p := ⟨g, (e) * 9 + 2, none⟩) hltg).trans cx2, (hbq.cell (p := ⟨g, (e) * 9 + 3, none⟩) hltg).trans cx3, (hbq.cell (p := ⟨g, (e) * 9 + 4, none⟩) hltg).trans cx4, (hbq.cell (p := ⟨g, (e) * 9 + 5, none⟩) hltg).trans cx5, (hbq.cell (p := ⟨g, (e) * 9 + 6, none⟩) hltg).trans cx6, (hbq.cell (p := ⟨g, (e) * 9 + 7, none⟩) hltg).trans cx7, (hbq.cell (p := ⟨g, (e) * 9 + 8, none⟩) hltg).trans cx8, (hbq.cell (p := ⟨g, (k) * 9, none⟩) hltg).trans cy0, (hbq.cell (p := ⟨g, (k) * 9 + 1, none⟩) hltg).trans cy1, (hbq.cell (p := ⟨g, (k) * 9 + 2, none⟩) hltg).trans cy2, (hbq.cell (p := ⟨g, (k) * 9 + 3, none⟩) hltg).trans cy3, (hbq.cell (p := ⟨g, (k) * 9 + 4, none⟩) hltg).trans cy4, (hbq.cell (p := ⟨g, (k) * 9 + 5, none⟩) hltg).trans cy5, (hbq.cell (p := ⟨g, (k) * 9 + 6, none⟩) hltg).trans cy6, (hbq.cell (p := ⟨g, (k) * 9 + 7, none⟩) hltg).trans cy7, (hbq.cell (p := ⟨g, (k) * 9 + 8, none⟩) hltg).trans cy8⟩) (first | (go_at_call 73; refine (ecompare_any x y _).mono ?_; rintro r w3 ⟨rfl, hbq⟩))
          have HN3 := Lib.hid (HQ.out.drew.below hltg hbq)
          have HU3 := Lib.hid (HU.out.drew.below hbq)
          clear hbq cx0 cx1 cx2 cx3 cx4 cx5 cx6 cx7 cx8 cy0 cy1 cy2 cy3 cy4 cy5 cy6 cy7 cy8
          go_wp2_with fail
          go_roundw
          case rel => exact ⟨s, k, by omega, by omega, by omega, rfl, by go_num, HN3, HI, Lib.hid (fun _ => HTAG.out), HU3⟩
          case measure => simp [intOf]; omega
        | false =>
          have hneg : ¬ cmpEnt x y < 0 := ltE_false hlt2
          have hnb : (!decide (cmpEnt x y < 0)) = true := by rw [decide_eq_false hneg]; rfl
          have HTAG := Lib.hid (show Tag ltE (t (k + 1 - 1)) (t (nn - (k + 1))) from .inr ⟨by have h1 := Hx.out; have h2 := Hy.out; unfold vals at h1 h2; rw [show nn - (k + 1) = e by omega, Nat.add_sub_cancel, ← h1, ← h2]; exact hlt2, by rw [Nat.add_sub_cancel]; exact HTG.out k _ (by omega) (by omega) (by omega) (by omega)⟩)
          clear hlt2
          go_wp2_with fail
          go_region_held3 (fun w' => w'.cell? ⟨g, (e) * 9, none⟩ = some (.string x.key) ∧ w'.cell? ⟨g, (e) * 9 + 1, none⟩ = some (.int .i64 x.win) ∧ w'.cell? ⟨g, (e) * 9 + 2, none⟩ = some (.string x.part) ∧ w'.cell? ⟨g, (e) * 9 + 3, none⟩ = some (.int .i64 x.fst) ∧ w'.cell? ⟨g, (e) * 9 + 4, none⟩ = some (.int .i64 x.lst) ∧ w'.cell? ⟨g, (e) * 9 + 5, none⟩ = some (.int .i64 x.rows) ∧ w'.cell? ⟨g, (e) * 9 + 6, none⟩ = some (.int .i64 x.size) ∧ w'.cell? ⟨g, (e) * 9 + 7, none⟩ = some (.int .u32 x.sum) ∧ w'.cell? ⟨g, (e) * 9 + 8, none⟩ = some (.int .i64 x.born) ∧ w'.cell? ⟨g, (k) * 9, none⟩ = some (.string y.key) ∧ w'.cell? ⟨g, (k) * 9 + 1, none⟩ = some (.int .i64 y.win) ∧ w'.cell? ⟨g, (k) * 9 + 2, none⟩ = some (.string y.part) ∧ w'.cell? ⟨g, (k) * 9 + 3, none⟩ = some (.int .i64 y.fst) ∧ w'.cell? ⟨g, (k) * 9 + 4, none⟩ = some (.int .i64 y.lst) ∧ w'.cell? ⟨g, (k) * 9 + 5, none⟩ = some (.int .i64 y.rows) ∧ w'.cell? ⟨g, (k) * 9 + 6, none⟩ = some (.int .i64 y.size) ∧ w'.cell? ⟨g, (k) * 9 + 7, none⟩ = some (.int .u32 y.sum) ∧ w'.cell? ⟨g, (k) * 9 + 8, none⟩ = some (.int .i64 y.born)) (first | go_keep | exact ⟨(hbq.cell (p := ⟨g, (e) * 9, none⟩) hltg).trans cx0, (hbq.cell (p := ⟨g, (e) * 9 + 1, none⟩) hltg).trans cx1, (hbq.cell (p := ⟨g, (e) * 9 + 2, none⟩) hltg).trans cx2, (hbq.cell (p := ⟨g, (e) * 9 + 3, none⟩) hltg).trans cx3, (hbq.cell (p := ⟨g, (e) * 9 + 4, none⟩) hltg).trans cx4, (hbq.cell (p := ⟨g, (e) * 9 + 5, none⟩) hltg).trans cx5, (hbq.cell (p := ⟨g, (e) * 9 + 6, none⟩) hltg).trans cx6, (hbq.cell (p := ⟨g, (e) * 9 + 7, none⟩) hltg).trans cx7, (hbq.cell (p := ⟨g, (e) * 9 + 8, none⟩) hltg).trans cx8, (hbq.cell (p := ⟨g, (k) * 9, none⟩) hltg).trans cy0, (hbq.cell (p := ⟨g, (k) * 9 + 1, none⟩) hltg).trans cy1, (hbq.cell (p := ⟨g, (k) * 9 + 2, none⟩) hltg).trans cy2, (hbq.cell (p := ⟨g, (k) * 9 + 3, none⟩) hltg).trans cy3, (hbq.cell (p := ⟨g, (k) * 9 + 4, none⟩) hltg).trans cy4, (hbq.cell (p := ⟨g, (k) * 9 + 5, none⟩) hltg).trans cy5, (hbq.cell (p := ⟨g, (k) * 9 + 6, none⟩) hltg).trans cy6, (hbq.cell (p := ⟨g, (k) * 9 + 7, none⟩) hltg).trans cy7, (hbq.cell (p := ⟨g, (k) * 9 + 8, none⟩) hltg).trans cy8⟩) (first | (go_at_call 73; refine (ecompare_any x y _).mono ?_; rintro r w3 ⟨rfl, hbq⟩))
          have HN3 := Lib.hid (HQ.out.drew.below hltg hbq)
          have HU3 := Lib.hid (HU.out.drew.below hbq)
          clear hbq cx0 cx1 cx2 cx3 cx4 cx5 cx6 cx7 cx8 cy0 cy1 cy2 cy3 cy4 cy5 cy6 cy7 cy8
          go_wp2_with fail
          go_roundw
          case rel => exact ⟨k + 1, r, by omega, by omega, by omega, by go_num, rfl, HN3, Lib.hid (fun _ => HTAG.out), HJ, HU3⟩
          case measure => simp [intOf]; omega
      · obtain rfl : s = r := by omega
        obtain ⟨en, hen⟩ : ∃ en : Nat, en + s ≤ nn ∧ nn ≤ en + s := ⟨nn - s, by omega⟩
        have wen : IntKind.i64.wrap ((nn : Int) - (s : Int)) = (en : Int) := by rw [IntWalk.i64_in _ (by omega)]; omega
        have hr : a ≤ s ∧ s ≤ m ∧ s ≤ mid ∧ m ≤ en ∧ mid ≤ en ∧ en ≤ b ∧ s + (en - m) = mid := by omega
        have HC := Lib.hid (cut4 HS1.out HS2.out hr.1 hr.2.1 hr.2.2.2.1 hr.2.2.2.2.2.1 hr.2.2.2.2.2.2 (fun h1 h2 => by have h := HI.out (by omega); rw [show nn - s = en by omega] at h; exact h) (fun h1 h2 => by have h := HJ.out (by omega); rw [show en - 1 = nn - 1 - s by omega]; exact h) HTG.out)
        have hab2 : a < mid ∧ mid < b := by omega
        have hbe : en ≤ n := by omega
        clear HI HJ
        by_cases hsm : s < m
        · have hsmi : (s : Int) < (m : Int) := by omega
          have hmei2 : (mid : Int) < (en : Int) := by omega
          by_cases hme : m < en
          · have hmei : (m : Int) < (en : Int) := by omega
            have hsmid : (s : Int) < (mid : Int) := by omega
            by_cases has : a < s
            · have hasi : (a : Int) < (s : Int) := by omega
              by_cases heb : en < b
              · have hebi : (en : Int) < (b : Int) := by omega
                go_wp2_with fail
                refine (rot_any (f := vals t) HQ.out hsm hme hbe hc (by omega)).mono ?_
                rintro r w4 ⟨rfl, hn4, ht4⟩
                rw [vals_rot] at hn4
                have HN4 := Lib.hid hn4
                have HU4 := Lib.hid (HU.out.trans ht4)
                clear hn4 ht4
                go_wp2_with fail
                refine (IH.out w4 g n c (rot t s m en) a s mid (by omega) HN4.out (Nat.lt_of_lt_of_le hg HU4.out.size) (by omega) (by omega) (by omega) hc hcx hcm HC.out.one HC.out.two HC.out.young1).mono ?_
                rintro r w5 ⟨rfl, ⟨v1, hn5, hv5⟩, ht5⟩
                have HN5 := Lib.hid hn5
                have HV5 : Hid (Half (rot t s m en) v1 a mid) := Lib.hid hv5
                have HU5 := Lib.hid (HU4.out.trans ht5)
                clear hn5 hv5 ht5
                go_wp2_with fail
                refine (IH.out w5 g n c v1 mid en b (by omega) HN5.out (Nat.lt_of_lt_of_le hg HU5.out.size) (by omega) (by omega) (by omega) hc hcx hcm (HC.out.three.congr (fun k h1 h2 => HV5.out.2.2 k (.inr h1))) (HC.out.four.congr (fun k h1 h2 => HV5.out.2.2 k (.inr (by omega)))) (fun i j h1 h2 h3 h4 => by rw [HV5.out.2.2 i (.inr h1), HV5.out.2.2 j (.inr (by omega))]; exact HC.out.young2 i j h1 h2 h3 h4)).mono ?_
                rintro r w6 ⟨rfl, ⟨v2, hn6, hv6⟩, ht6⟩
                have HN6 := Lib.hid hn6
                have HV6 : Hid (Half v1 v2 mid b) := Lib.hid hv6
                have HU6 := Lib.hid (HU5.out.trans ht6)
                clear hn6 hv6 ht6
                go_wp2_with fail
                first | go_ret | go_end0 | refine bodyPost_ret (results_none rfl _ _ _) rfl ?_
                have hd := HC.out.done HV5.out HV6.out (by omega) (by omega)
                exact ⟨rfl, ⟨_, HN6.out, hd.1, by first | exact hd.2.1 | exact fun x y => hd.2.1 (x, y), hd.2.2⟩, HU6.out⟩
              · have hebi : ¬ (en : Int) < (b : Int) := by omega
                go_wp2_with fail
                refine (rot_any (f := vals t) HQ.out hsm hme hbe hc (by omega)).mono ?_
                rintro r w4 ⟨rfl, hn4, ht4⟩
                rw [vals_rot] at hn4
                have HN4 := Lib.hid hn4
                have HU4 := Lib.hid (HU.out.trans ht4)
                clear hn4 ht4
                go_wp2_with fail
                refine (IH.out w4 g n c (rot t s m en) a s mid (by omega) HN4.out (Nat.lt_of_lt_of_le hg HU4.out.size) (by omega) (by omega) (by omega) hc hcx hcm HC.out.one HC.out.two HC.out.young1).mono ?_
                rintro r w5 ⟨rfl, ⟨v1, hn5, hv5⟩, ht5⟩
                have HN5 := Lib.hid hn5
                have HV5 : Hid (Half (rot t s m en) v1 a mid) := Lib.hid hv5
                have HU5 := Lib.hid (HU4.out.trans ht5)
                clear hn5 hv5 ht5
                go_wp2_with fail
                have HV6 : Hid (Half v1 v1 mid b) := Lib.hid (Half.refl (by
                  first
                    | exact (by have h := HC.out.four.congr (g := v1) (fun k h1 h2 => HV5.out.2.2 k (.inr (by omega))); rw [show en = mid by omega] at h; exact h)
                    | exact (by have h := HC.out.three.congr (g := v1) (fun k h1 h2 => HV5.out.2.2 k (.inr h1)); rw [show en = b by omega] at h; exact h)))
                have HN6 := HN5
                have HU6 := HU5
                first | go_ret | go_end0 | refine bodyPost_ret (results_none rfl _ _ _) rfl ?_
                have hd := HC.out.done HV5.out HV6.out (by omega) (by omega)
                exact ⟨rfl, ⟨_, HN6.out, hd.1, by first | exact hd.2.1 | exact fun x y => hd.2.1 (x, y), hd.2.2⟩, HU6.out⟩
            · have hasi : ¬ (a : Int) < (s : Int) := by omega
              by_cases heb : en < b
              · have hebi : (en : Int) < (b : Int) := by omega
                go_wp2_with fail
                refine (rot_any (f := vals t) HQ.out hsm hme hbe hc (by omega)).mono ?_
                rintro r w4 ⟨rfl, hn4, ht4⟩
                rw [vals_rot] at hn4
                have HN4 := Lib.hid hn4
                have HU4 := Lib.hid (HU.out.trans ht4)
                clear hn4 ht4
                go_wp2_with fail
                obtain ⟨v1, hv1⟩ : ∃ v1, v1 = rot t s m en := ⟨_, rfl⟩
                have HV5 : Hid (Half (rot t s m en) v1 a mid) := Lib.hid (by
                  rw [hv1]
                  first
                    | exact Half.refl (by have h := HC.out.two; rw [show s = a by omega] at h ⊢; exact h)
                    | exact Half.refl (by have h := HC.out.one; rw [show s = mid by omega] at h ⊢; exact h))
                have HN5 := HN4
                rw [← hv1] at HN5
                have HU5 := HU4
                refine (IH.out w4 g n c v1 mid en b (by omega) HN5.out (Nat.lt_of_lt_of_le hg HU5.out.size) (by omega) (by omega) (by omega) hc hcx hcm (HC.out.three.congr (fun k h1 h2 => HV5.out.2.2 k (.inr h1))) (HC.out.four.congr (fun k h1 h2 => HV5.out.2.2 k (.inr (by omega)))) (fun i j h1 h2 h3 h4 => by rw [HV5.out.2.2 i (.inr h1), HV5.out.2.2 j (.inr (by omega))]; exact HC.out.young2 i j h1 h2 h3 h4)).mono ?_
                rintro r w6 ⟨rfl, ⟨v2, hn6, hv6⟩, ht6⟩
                have HN6 := Lib.hid hn6
                have HV6 : Hid (Half v1 v2 mid b) := Lib.hid hv6
                have HU6 := Lib.hid (HU5.out.trans ht6)
                clear hn6 hv6 ht6
                go_wp2_with fail
                first | go_ret | go_end0 | refine bodyPost_ret (results_none rfl _ _ _) rfl ?_
                have hd := HC.out.done HV5.out HV6.out (by omega) (by omega)
                exact ⟨rfl, ⟨_, HN6.out, hd.1, by first | exact hd.2.1 | exact fun x y => hd.2.1 (x, y), hd.2.2⟩, HU6.out⟩
              · have hebi : ¬ (en : Int) < (b : Int) := by omega
                go_wp2_with fail
                refine (rot_any (f := vals t) HQ.out hsm hme hbe hc (by omega)).mono ?_
                rintro r w4 ⟨rfl, hn4, ht4⟩
                rw [vals_rot] at hn4
                have HN4 := Lib.hid hn4
                have HU4 := Lib.hid (HU.out.trans ht4)
                clear hn4 ht4
                go_wp2_with fail
                obtain ⟨v1, hv1⟩ : ∃ v1, v1 = rot t s m en := ⟨_, rfl⟩
                have HV5 : Hid (Half (rot t s m en) v1 a mid) := Lib.hid (by
                  rw [hv1]
                  first
                    | exact Half.refl (by have h := HC.out.two; rw [show s = a by omega] at h ⊢; exact h)
                    | exact Half.refl (by have h := HC.out.one; rw [show s = mid by omega] at h ⊢; exact h))
                have HN5 := HN4
                rw [← hv1] at HN5
                have HU5 := HU4
                have HV6 : Hid (Half v1 v1 mid b) := Lib.hid (Half.refl (by
                  first
                    | exact (by have h := HC.out.four.congr (g := v1) (fun k h1 h2 => HV5.out.2.2 k (.inr (by omega))); rw [show en = mid by omega] at h; exact h)
                    | exact (by have h := HC.out.three.congr (g := v1) (fun k h1 h2 => HV5.out.2.2 k (.inr h1)); rw [show en = b by omega] at h; exact h)))
                have HN6 := HN5
                have HU6 := HU5
                first | go_ret | go_end0 | refine bodyPost_ret (results_none rfl _ _ _) rfl ?_
                have hd := HC.out.done HV5.out HV6.out (by omega) (by omega)
                exact ⟨rfl, ⟨_, HN6.out, hd.1, by first | exact hd.2.1 | exact fun x y => hd.2.1 (x, y), hd.2.2⟩, HU6.out⟩
          · have hmei : ¬ (m : Int) < (en : Int) := by omega
            have hsmid : ¬ (s : Int) < (mid : Int) := by omega
            by_cases has : a < s
            · have hasi : (a : Int) < (s : Int) := by omega
              by_cases heb : en < b
              · have hebi : (en : Int) < (b : Int) := by omega
                go_wp2_with fail
                have hv : rot t s m en = t := by first | rw [show s = m by omega, rot_none' t m en (by omega)] | rw [show en = m by omega, rot_none t s m]
                have HN4 : Hid (Nines wq g n (vals (rot t s m en))) := by rw [hv]; exact HQ
                have HU4 := HU
                obtain ⟨v1, hv1⟩ : ∃ v1, v1 = rot t s m en := ⟨_, rfl⟩
                have HV5 : Hid (Half (rot t s m en) v1 a mid) := Lib.hid (by
                  rw [hv1]
                  first
                    | exact Half.refl (by have h := HC.out.two; rw [show s = a by omega] at h ⊢; exact h)
                    | exact Half.refl (by have h := HC.out.one; rw [show s = mid by omega] at h ⊢; exact h))
                have HN5 := HN4
                rw [← hv1] at HN5
                have HU5 := HU4
                refine (IH.out wq g n c v1 mid en b (by omega) HN5.out (Nat.lt_of_lt_of_le hg HU5.out.size) (by omega) (by omega) (by omega) hc hcx hcm (HC.out.three.congr (fun k h1 h2 => HV5.out.2.2 k (.inr h1))) (HC.out.four.congr (fun k h1 h2 => HV5.out.2.2 k (.inr (by omega)))) (fun i j h1 h2 h3 h4 => by rw [HV5.out.2.2 i (.inr h1), HV5.out.2.2 j (.inr (by omega))]; exact HC.out.young2 i j h1 h2 h3 h4)).mono ?_
                rintro r w6 ⟨rfl, ⟨v2, hn6, hv6⟩, ht6⟩
                have HN6 := Lib.hid hn6
                have HV6 : Hid (Half v1 v2 mid b) := Lib.hid hv6
                have HU6 := Lib.hid (HU5.out.trans ht6)
                clear hn6 hv6 ht6
                go_wp2_with fail
                first | go_ret | go_end0 | refine bodyPost_ret (results_none rfl _ _ _) rfl ?_
                have hd := HC.out.done HV5.out HV6.out (by omega) (by omega)
                exact ⟨rfl, ⟨_, HN6.out, hd.1, by first | exact hd.2.1 | exact fun x y => hd.2.1 (x, y), hd.2.2⟩, HU6.out⟩
              · have hebi : ¬ (en : Int) < (b : Int) := by omega
                exfalso; omega
            · have hasi : ¬ (a : Int) < (s : Int) := by omega
              by_cases heb : en < b
              · have hebi : (en : Int) < (b : Int) := by omega
                exfalso; omega
              · have hebi : ¬ (en : Int) < (b : Int) := by omega
                exfalso; omega
        · have hsmi : ¬ (s : Int) < (m : Int) := by omega
          have hmei2 : ¬ (mid : Int) < (en : Int) := by omega
          by_cases hme : m < en
          · have hmei : (m : Int) < (en : Int) := by omega
            have hsmid : (s : Int) < (mid : Int) := by omega
            by_cases has : a < s
            · have hasi : (a : Int) < (s : Int) := by omega
              by_cases heb : en < b
              · have hebi : (en : Int) < (b : Int) := by omega
                exfalso; omega
              · have hebi : ¬ (en : Int) < (b : Int) := by omega
                exfalso; omega
            · have hasi : ¬ (a : Int) < (s : Int) := by omega
              by_cases heb : en < b
              · have hebi : (en : Int) < (b : Int) := by omega
                exfalso; omega
              · have hebi : ¬ (en : Int) < (b : Int) := by omega
                exfalso; omega
          · have hmei : ¬ (m : Int) < (en : Int) := by omega
            have hsmid : ¬ (s : Int) < (mid : Int) := by omega
            by_cases has : a < s
            · have hasi : (a : Int) < (s : Int) := by omega
              by_cases heb : en < b
              · have hebi : (en : Int) < (b : Int) := by omega
                exfalso; omega
              · have hebi : ¬ (en : Int) < (b : Int) := by omega
                exfalso; omega
            · have hasi : ¬ (a : Int) < (s : Int) := by omega
              by_cases heb : en < b
              · have hebi : (en : Int) < (b : Int) := by omega
                exfalso; omega
              · have hebi : ¬ (en : Int) < (b : Int) := by omega
                exfalso; omega
    
  · obtain ⟨s0, hs0⟩ : ∃ s0 : Nat, s0 ≤ a ∧ a ≤ s0 := ⟨a, by omega⟩
    obtain ⟨r0, hr0⟩ : ∃ r0 : Nat, r0 ≤ m ∧ m ≤ r0 := ⟨m, by omega⟩
    have hmmi : ¬ (mid : Int) < (m : Int) := by omega
    have hbd : a ≤ s0 ∧ nn ≤ s0 + b ∧ s0 ≤ r0 ∧ r0 ≤ mid ∧ r0 ≤ m := by omega
    go_enter Try.func93, Try.ntmps93
    go_wp2_with fail
    go_loopw [20, 21, 23] (fun s20 s21 s23 wq => ∃ (s r : Nat), s0 ≤ s ∧ s ≤ r ∧ r ≤ r0 ∧ s20 = .int .i64 (s : Int) ∧ s21 = .int .i64 (r : Int) ∧ Hid (Nines wq g n (vals t)) ∧ Hid (s0 < s → Tag ltE (t (s - 1)) (t (nn - s))) ∧ Hid (r < r0 → Tag ltE (t (nn - 1 - r)) (t r)) ∧ Hid (Turns1 g w wq)) (fun s20 s21 _ _ => (intOf s21).toNat - (intOf s20).toNat)
    case atStart => exact ⟨s0, r0, by omega, by omega, by omega, by first | rfl | exact congrArg (Value.int .i64) (by omega), by first | rfl | exact congrArg (Value.int .i64) (by omega), H, Lib.hid (fun h => by omega), Lib.hid (fun h => by omega), Lib.hid (Turns1.refl g w)⟩
    case round =>
      obtain ⟨s, r, hs0s, hsr, hrr0, rfl, rfl, HQ, HI, HJ, HU⟩ := hrel
      rename World => wq
      by_cases hlt : s < r
      · have hlti : (s : Int) < (r : Int) := by omega
        obtain ⟨k, hk⟩ : ∃ k : Nat, 2 * k ≤ s + r ∧ s + r ≤ 2 * k + 1 := ⟨(s + r) / 2, by omega⟩
        have wk : ((s : Int) + (r : Int)) / 2 = (k : Int) := by omega
        obtain ⟨e, he⟩ : ∃ e : Nat, e + k ≤ p ∧ p ≤ e + k := ⟨p - k, by omega⟩
        have we : IntKind.i64.wrap ((p : Int) - (k : Int)) = (e : Int) := by rw [IntWalk.i64_in _ (by omega)]; omega
        have hkr : s ≤ k ∧ k < r := by omega
        have her : m ≤ e ∧ e < b := by omega
        have hkn : (k : Int) < (n : Int) := by omega
        have hen : (e : Int) < (n : Int) := by omega
        obtain ⟨x, hx⟩ : ∃ x, x = vals t e := ⟨_, rfl⟩
        obtain ⟨y, hy⟩ : ∃ y, y = vals t k := ⟨_, rfl⟩
        have Hx := Lib.hid hx
        have Hy := Lib.hid hy
        clear hx hy
        have hltg : g < wq.heap.size := Nat.lt_of_lt_of_le hg HU.out.size
        have cx0 : wq.cell? ⟨g, (e) * 9, none⟩ = some (.string x.key) := HQ.out.at' _ (by omega) 0 _ (by rw [← Hx.out]; rfl)
        have cx1 : wq.cell? ⟨g, (e) * 9 + 1, none⟩ = some (.int .i64 x.win) := HQ.out.at' _ (by omega) 1 _ (by rw [← Hx.out]; rfl)
        have cx2 : wq.cell? ⟨g, (e) * 9 + 2, none⟩ = some (.string x.part) := HQ.out.at' _ (by omega) 2 _ (by rw [← Hx.out]; rfl)
        have cx3 : wq.cell? ⟨g, (e) * 9 + 3, none⟩ = some (.int .i64 x.fst) := HQ.out.at' _ (by omega) 3 _ (by rw [← Hx.out]; rfl)
        have cx4 : wq.cell? ⟨g, (e) * 9 + 4, none⟩ = some (.int .i64 x.lst) := HQ.out.at' _ (by omega) 4 _ (by rw [← Hx.out]; rfl)
        have cx5 : wq.cell? ⟨g, (e) * 9 + 5, none⟩ = some (.int .i64 x.rows) := HQ.out.at' _ (by omega) 5 _ (by rw [← Hx.out]; rfl)
        have cx6 : wq.cell? ⟨g, (e) * 9 + 6, none⟩ = some (.int .i64 x.size) := HQ.out.at' _ (by omega) 6 _ (by rw [← Hx.out]; rfl)
        have cx7 : wq.cell? ⟨g, (e) * 9 + 7, none⟩ = some (.int .u32 x.sum) := HQ.out.at' _ (by omega) 7 _ (by rw [← Hx.out]; rfl)
        have cx8 : wq.cell? ⟨g, (e) * 9 + 8, none⟩ = some (.int .i64 x.born) := HQ.out.at' _ (by omega) 8 _ (by rw [← Hx.out]; rfl)
        have cy0 : wq.cell? ⟨g, (k) * 9, none⟩ = some (.string y.key) := HQ.out.at' _ (by omega) 0 _ (by rw [← Hy.out]; rfl)
        have cy1 : wq.cell? ⟨g, (k) * 9 + 1, none⟩ = some (.int .i64 y.win) := HQ.out.at' _ (by omega) 1 _ (by rw [← Hy.out]; rfl)
        have cy2 : wq.cell? ⟨g, (k) * 9 + 2, none⟩ = some (.string y.part) := HQ.out.at' _ (by omega) 2 _ (by rw [← Hy.out]; rfl)
        have cy3 : wq.cell? ⟨g, (k) * 9 + 3, none⟩ = some (.int .i64 y.fst) := HQ.out.at' _ (by omega) 3 _ (by rw [← Hy.out]; rfl)
        have cy4 : wq.cell? ⟨g, (k) * 9 + 4, none⟩ = some (.int .i64 y.lst) := HQ.out.at' _ (by omega) 4 _ (by rw [← Hy.out]; rfl)
        have cy5 : wq.cell? ⟨g, (k) * 9 + 5, none⟩ = some (.int .i64 y.rows) := HQ.out.at' _ (by omega) 5 _ (by rw [← Hy.out]; rfl)
        have cy6 : wq.cell? ⟨g, (k) * 9 + 6, none⟩ = some (.int .i64 y.size) := HQ.out.at' _ (by omega) 6 _ (by rw [← Hy.out]; rfl)
        have cy7 : wq.cell? ⟨g, (k) * 9 + 7, none⟩ = some (.int .u32 y.sum) := HQ.out.at' _ (by omega) 7 _ (by rw [← Hy.out]; rfl)
        have cy8 : wq.cell? ⟨g, (k) * 9 + 8, none⟩ = some (.int .i64 y.born) := HQ.out.at' _ (by omega) 8 _ (by rw [← Hy.out]; rfl)
        cases hlt2 : ltE x y with
        | true =>
          have hneg : cmpEnt x y < 0 := ltE_true hlt2
          have hnb : (!decide (cmpEnt x y < 0)) = false := by rw [decide_eq_true hneg]; rfl
          have HTAG := Lib.hid (show Tag ltE (t (nn - 1 - k)) (t k) from .inl (by have h1 := Hx.out; have h2 := Hy.out; unfold vals at h1 h2; rw [show nn - 1 - k = e by omega, ← h1, ← h2]; exact hlt2))
          clear hlt2
          go_wp2_with fail
          go_region_held3 (fun w' => w'.cell? ⟨g, (e) * 9, none⟩ = some (.string x.key) ∧ w'.cell? ⟨g, (e) * 9 + 1, none⟩ = some (.int .i64 x.win) ∧ w'.cell? ⟨g, (e) * 9 + 2, none⟩ = some (.string x.part) ∧ w'.cell? ⟨g, (e) * 9 + 3, none⟩ = some (.int .i64 x.fst) ∧ w'.cell? ⟨g, (e) * 9 + 4, none⟩ = some (.int .i64 x.lst) ∧ w'.cell? ⟨g, (e) * 9 + 5, none⟩ = some (.int .i64 x.rows) ∧ w'.cell? ⟨g, (e) * 9 + 6, none⟩ = some (.int .i64 x.size) ∧ w'.cell? ⟨g, (e) * 9 + 7, none⟩ = some (.int .u32 x.sum) ∧ w'.cell? ⟨g, (e) * 9 + 8, none⟩ = some (.int .i64 x.born) ∧ w'.cell? ⟨g, (k) * 9, none⟩ = some (.string y.key) ∧ w'.cell? ⟨g, (k) * 9 + 1, none⟩ = some (.int .i64 y.win) ∧ w'.cell? ⟨g, (k) * 9 + 2, none⟩ = some (.string y.part) ∧ w'.cell? ⟨g, (k) * 9 + 3, none⟩ = some (.int .i64 y.fst) ∧ w'.cell? ⟨g, (k) * 9 + 4, none⟩ = some (.int .i64 y.lst) ∧ w'.cell? ⟨g, (k) * 9 + 5, none⟩ = some (.int .i64 y.rows) ∧ w'.cell? ⟨g, (k) * 9 + 6, none⟩ = some (.int .i64 y.size) ∧ w'.cell? ⟨g, (k) * 9 + 7, none⟩ = some (.int .u32 y.sum) ∧ w'.cell? ⟨g, (k) * 9 + 8, none⟩ = some (.int .i64 y.born)) (first | go_keep | exact ⟨(hbq.cell (p := ⟨g, (e) * 9, none⟩) hltg).trans cx0, (hbq.cell (p := ⟨g, (e) * 9 + 1, none⟩) hltg).trans cx1, (hbq.cell (p := ⟨g, (e) * 9 + 2, none⟩) hltg).trans cx2, (hbq.cell (p := ⟨g, (e) * 9 + 3, none⟩) hltg).trans cx3, (hbq.cell (p := ⟨g, (e) * 9 + 4, none⟩) hltg).trans cx4, (hbq.cell (p := ⟨g, (e) * 9 + 5, none⟩) hltg).trans cx5, (hbq.cell (p := ⟨g, (e) * 9 + 6, none⟩) hltg).trans cx6, (hbq.cell (p := ⟨g, (e) * 9 + 7, none⟩) hltg).trans cx7, (hbq.cell (p := ⟨g, (e) * 9 + 8, none⟩) hltg).trans cx8, (hbq.cell (p := ⟨g, (k) * 9, none⟩) hltg).trans cy0, (hbq.cell (p := ⟨g, (k) * 9 + 1, none⟩) hltg).trans cy1, (hbq.cell (p := ⟨g, (k) * 9 + 2, none⟩) hltg).trans cy2, (hbq.cell (p := ⟨g, (k) * 9 + 3, none⟩) hltg).trans cy3, (hbq.cell (p := ⟨g, (k) * 9 + 4, none⟩) hltg).trans cy4, (hbq.cell (p := ⟨g, (k) * 9 + 5, none⟩) hltg).trans cy5, (hbq.cell (p := ⟨g, (k) * 9 + 6, none⟩) hltg).trans cy6, (hbq.cell (p := ⟨g, (k) * 9 + 7, none⟩) hltg).trans cy7, (hbq.cell (p := ⟨g, (k) * 9 + 8, none⟩) hltg).trans cy8⟩) (first | (go_at_call 73; refine (ecompare_any x y _).mono ?_; rintro r w3 ⟨rfl, hbq⟩))
          have HN3 := Lib.hid (HQ.out.drew.below hltg hbq)
          have HU3 := Lib.hid (HU.out.drew.below hbq)
          clear hbq cx0 cx1 cx2 cx3 cx4 cx5 cx6 cx7 cx8 cy0 cy1 cy2 cy3 cy4 cy5 cy6 cy7 cy8
          go_wp2_with fail
          go_roundw
          case rel => exact ⟨s, k, by omega, by omega, by omega, rfl, by go_num, HN3, HI, Lib.hid (fun _ => HTAG.out), HU3⟩
          case measure => simp [intOf]; omega
        | false =>
          have hneg : ¬ cmpEnt x y < 0 := ltE_false hlt2
          have hnb : (!decide (cmpEnt x y < 0)) = true := by rw [decide_eq_false hneg]; rfl
          have HTAG := Lib.hid (show Tag ltE (t (k + 1 - 1)) (t (nn - (k + 1))) from .inr ⟨by have h1 := Hx.out; have h2 := Hy.out; unfold vals at h1 h2; rw [show nn - (k + 1) = e by omega, Nat.add_sub_cancel, ← h1, ← h2]; exact hlt2, by rw [Nat.add_sub_cancel]; exact HTG.out k _ (by omega) (by omega) (by omega) (by omega)⟩)
          clear hlt2
          go_wp2_with fail
          go_region_held3 (fun w' => w'.cell? ⟨g, (e) * 9, none⟩ = some (.string x.key) ∧ w'.cell? ⟨g, (e) * 9 + 1, none⟩ = some (.int .i64 x.win) ∧ w'.cell? ⟨g, (e) * 9 + 2, none⟩ = some (.string x.part) ∧ w'.cell? ⟨g, (e) * 9 + 3, none⟩ = some (.int .i64 x.fst) ∧ w'.cell? ⟨g, (e) * 9 + 4, none⟩ = some (.int .i64 x.lst) ∧ w'.cell? ⟨g, (e) * 9 + 5, none⟩ = some (.int .i64 x.rows) ∧ w'.cell? ⟨g, (e) * 9 + 6, none⟩ = some (.int .i64 x.size) ∧ w'.cell? ⟨g, (e) * 9 + 7, none⟩ = some (.int .u32 x.sum) ∧ w'.cell? ⟨g, (e) * 9 + 8, none⟩ = some (.int .i64 x.born) ∧ w'.cell? ⟨g, (k) * 9, none⟩ = some (.string y.key) ∧ w'.cell? ⟨g, (k) * 9 + 1, none⟩ = some (.int .i64 y.win) ∧ w'.cell? ⟨g, (k) * 9 + 2, none⟩ = some (.string y.part) ∧ w'.cell? ⟨g, (k) * 9 + 3, none⟩ = some (.int .i64 y.fst) ∧ w'.cell? ⟨g, (k) * 9 + 4, none⟩ = some (.int .i64 y.lst) ∧ w'.cell? ⟨g, (k) * 9 + 5, none⟩ = some (.int .i64 y.rows) ∧ w'.cell? ⟨g, (k) * 9 + 6, none⟩ = some (.int .i64 y.size) ∧ w'.cell? ⟨g, (k) * 9 + 7, none⟩ = some (.int .u32 y.sum) ∧ w'.cell? ⟨g, (k) * 9 + 8, none⟩ = some (.int .i64 y.born)) (first | go_keep | exact ⟨(hbq.cell (p := ⟨g, (e) * 9, none⟩) hltg).trans cx0, (hbq.cell (p := ⟨g, (e) * 9 + 1, none⟩) hltg).trans cx1, (hbq.cell (p := ⟨g, (e) * 9 + 2, none⟩) hltg).trans cx2, (hbq.cell (p := ⟨g, (e) * 9 + 3, none⟩) hltg).trans cx3, (hbq.cell (p := ⟨g, (e) * 9 + 4, none⟩) hltg).trans cx4, (hbq.cell (p := ⟨g, (e) * 9 + 5, none⟩) hltg).trans cx5, (hbq.cell (p := ⟨g, (e) * 9 + 6, none⟩) hltg).trans cx6, (hbq.cell (p := ⟨g, (e) * 9 + 7, none⟩) hltg).trans cx7, (hbq.cell (p := ⟨g, (e) * 9 + 8, none⟩) hltg).trans cx8, (hbq.cell (p := ⟨g, (k) * 9, none⟩) hltg).trans cy0, (hbq.cell (p := ⟨g, (k) * 9 + 1, none⟩) hltg).trans cy1, (hbq.cell (p := ⟨g, (k) * 9 + 2, none⟩) hltg).trans cy2, (hbq.cell (p := ⟨g, (k) * 9 + 3, none⟩) hltg).trans cy3, (hbq.cell (p := ⟨g, (k) * 9 + 4, none⟩) hltg).trans cy4, (hbq.cell (p := ⟨g, (k) * 9 + 5, none⟩) hltg).trans cy5, (hbq.cell (p := ⟨g, (k) * 9 + 6, none⟩) hltg).trans cy6, (hbq.cell (p := ⟨g, (k) * 9 + 7, none⟩) hltg).trans cy7, (hbq.cell (p := ⟨g, (k) * 9 + 8, none⟩) hltg).trans cy8⟩) (first | (go_at_call 73; refine (ecompare_any x y _).mono ?_; rintro r w3 ⟨rfl, hbq⟩))
          have HN3 := Lib.hid (HQ.out.drew.below hltg hbq)
          have HU3 := Lib.hid (HU.out.drew.below hbq)
          clear hbq cx0 cx1 cx2 cx3 cx4 cx5 cx6 cx7 cx8 cy0 cy1 cy2 cy3 cy4 cy5 cy6 cy7 cy8
          go_wp2_with fail
          go_roundw
          case rel => exact ⟨k + 1, r, by omega, by omega, by omega, by go_num, rfl, HN3, Lib.hid (fun _ => HTAG.out), HJ, HU3⟩
          case measure => simp [intOf]; omega
      · obtain rfl : s = r := by omega
        obtain ⟨en, hen⟩ : ∃ en : Nat, en + s ≤ nn ∧ nn ≤ en + s := ⟨nn - s, by omega⟩
        have wen : IntKind.i64.wrap ((nn : Int) - (s : Int)) = (en : Int) := by rw [IntWalk.i64_in _ (by omega)]; omega
        have hr : a ≤ s ∧ s ≤ m ∧ s ≤ mid ∧ m ≤ en ∧ mid ≤ en ∧ en ≤ b ∧ s + (en - m) = mid := by omega
        have HC := Lib.hid (cut4 HS1.out HS2.out hr.1 hr.2.1 hr.2.2.2.1 hr.2.2.2.2.2.1 hr.2.2.2.2.2.2 (fun h1 h2 => by have h := HI.out (by omega); rw [show nn - s = en by omega] at h; exact h) (fun h1 h2 => by have h := HJ.out (by omega); rw [show en - 1 = nn - 1 - s by omega]; exact h) HTG.out)
        have hab2 : a < mid ∧ mid < b := by omega
        have hbe : en ≤ n := by omega
        clear HI HJ
        by_cases hsm : s < m
        · have hsmi : (s : Int) < (m : Int) := by omega
          have hmei2 : (mid : Int) < (en : Int) := by omega
          by_cases hme : m < en
          · have hmei : (m : Int) < (en : Int) := by omega
            have hsmid : (s : Int) < (mid : Int) := by omega
            by_cases has : a < s
            · have hasi : (a : Int) < (s : Int) := by omega
              by_cases heb : en < b
              · have hebi : (en : Int) < (b : Int) := by omega
                go_wp2_with fail
                refine (rot_any (f := vals t) HQ.out hsm hme hbe hc (by omega)).mono ?_
                rintro r w4 ⟨rfl, hn4, ht4⟩
                rw [vals_rot] at hn4
                have HN4 := Lib.hid hn4
                have HU4 := Lib.hid (HU.out.trans ht4)
                clear hn4 ht4
                go_wp2_with fail
                refine (IH.out w4 g n c (rot t s m en) a s mid (by omega) HN4.out (Nat.lt_of_lt_of_le hg HU4.out.size) (by omega) (by omega) (by omega) hc hcx hcm HC.out.one HC.out.two HC.out.young1).mono ?_
                rintro r w5 ⟨rfl, ⟨v1, hn5, hv5⟩, ht5⟩
                have HN5 := Lib.hid hn5
                have HV5 : Hid (Half (rot t s m en) v1 a mid) := Lib.hid hv5
                have HU5 := Lib.hid (HU4.out.trans ht5)
                clear hn5 hv5 ht5
                go_wp2_with fail
                refine (IH.out w5 g n c v1 mid en b (by omega) HN5.out (Nat.lt_of_lt_of_le hg HU5.out.size) (by omega) (by omega) (by omega) hc hcx hcm (HC.out.three.congr (fun k h1 h2 => HV5.out.2.2 k (.inr h1))) (HC.out.four.congr (fun k h1 h2 => HV5.out.2.2 k (.inr (by omega)))) (fun i j h1 h2 h3 h4 => by rw [HV5.out.2.2 i (.inr h1), HV5.out.2.2 j (.inr (by omega))]; exact HC.out.young2 i j h1 h2 h3 h4)).mono ?_
                rintro r w6 ⟨rfl, ⟨v2, hn6, hv6⟩, ht6⟩
                have HN6 := Lib.hid hn6
                have HV6 : Hid (Half v1 v2 mid b) := Lib.hid hv6
                have HU6 := Lib.hid (HU5.out.trans ht6)
                clear hn6 hv6 ht6
                go_wp2_with fail
                first | go_ret | go_end0 | refine bodyPost_ret (results_none rfl _ _ _) rfl ?_
                have hd := HC.out.done HV5.out HV6.out (by omega) (by omega)
                exact ⟨rfl, ⟨_, HN6.out, hd.1, by first | exact hd.2.1 | exact fun x y => hd.2.1 (x, y), hd.2.2⟩, HU6.out⟩
              · have hebi : ¬ (en : Int) < (b : Int) := by omega
                go_wp2_with fail
                refine (rot_any (f := vals t) HQ.out hsm hme hbe hc (by omega)).mono ?_
                rintro r w4 ⟨rfl, hn4, ht4⟩
                rw [vals_rot] at hn4
                have HN4 := Lib.hid hn4
                have HU4 := Lib.hid (HU.out.trans ht4)
                clear hn4 ht4
                go_wp2_with fail
                refine (IH.out w4 g n c (rot t s m en) a s mid (by omega) HN4.out (Nat.lt_of_lt_of_le hg HU4.out.size) (by omega) (by omega) (by omega) hc hcx hcm HC.out.one HC.out.two HC.out.young1).mono ?_
                rintro r w5 ⟨rfl, ⟨v1, hn5, hv5⟩, ht5⟩
                have HN5 := Lib.hid hn5
                have HV5 : Hid (Half (rot t s m en) v1 a mid) := Lib.hid hv5
                have HU5 := Lib.hid (HU4.out.trans ht5)
                clear hn5 hv5 ht5
                go_wp2_with fail
                have HV6 : Hid (Half v1 v1 mid b) := Lib.hid (Half.refl (by
                  first
                    | exact (by have h := HC.out.four.congr (g := v1) (fun k h1 h2 => HV5.out.2.2 k (.inr (by omega))); rw [show en = mid by omega] at h; exact h)
                    | exact (by have h := HC.out.three.congr (g := v1) (fun k h1 h2 => HV5.out.2.2 k (.inr h1)); rw [show en = b by omega] at h; exact h)))
                have HN6 := HN5
                have HU6 := HU5
                first | go_ret | go_end0 | refine bodyPost_ret (results_none rfl _ _ _) rfl ?_
                have hd := HC.out.done HV5.out HV6.out (by omega) (by omega)
                exact ⟨rfl, ⟨_, HN6.out, hd.1, by first | exact hd.2.1 | exact fun x y => hd.2.1 (x, y), hd.2.2⟩, HU6.out⟩
            · have hasi : ¬ (a : Int) < (s : Int) := by omega
              by_cases heb : en < b
              · have hebi : (en : Int) < (b : Int) := by omega
                go_wp2_with fail
                refine (rot_any (f := vals t) HQ.out hsm hme hbe hc (by omega)).mono ?_
                rintro r w4 ⟨rfl, hn4, ht4⟩
                rw [vals_rot] at hn4
                have HN4 := Lib.hid hn4
                have HU4 := Lib.hid (HU.out.trans ht4)
                clear hn4 ht4
                go_wp2_with fail
                obtain ⟨v1, hv1⟩ : ∃ v1, v1 = rot t s m en := ⟨_, rfl⟩
                have HV5 : Hid (Half (rot t s m en) v1 a mid) := Lib.hid (by
                  rw [hv1]
                  first
                    | exact Half.refl (by have h := HC.out.two; rw [show s = a by omega] at h ⊢; exact h)
                    | exact Half.refl (by have h := HC.out.one; rw [show s = mid by omega] at h ⊢; exact h))
                have HN5 := HN4
                rw [← hv1] at HN5
                have HU5 := HU4
                refine (IH.out w4 g n c v1 mid en b (by omega) HN5.out (Nat.lt_of_lt_of_le hg HU5.out.size) (by omega) (by omega) (by omega) hc hcx hcm (HC.out.three.congr (fun k h1 h2 => HV5.out.2.2 k (.inr h1))) (HC.out.four.congr (fun k h1 h2 => HV5.out.2.2 k (.inr (by omega)))) (fun i j h1 h2 h3 h4 => by rw [HV5.out.2.2 i (.inr h1), HV5.out.2.2 j (.inr (by omega))]; exact HC.out.young2 i j h1 h2 h3 h4)).mono ?_
                rintro r w6 ⟨rfl, ⟨v2, hn6, hv6⟩, ht6⟩
                have HN6 := Lib.hid hn6
                have HV6 : Hid (Half v1 v2 mid b) := Lib.hid hv6
                have HU6 := Lib.hid (HU5.out.trans ht6)
                clear hn6 hv6 ht6
                go_wp2_with fail
                first | go_ret | go_end0 | refine bodyPost_ret (results_none rfl _ _ _) rfl ?_
                have hd := HC.out.done HV5.out HV6.out (by omega) (by omega)
                exact ⟨rfl, ⟨_, HN6.out, hd.1, by first | exact hd.2.1 | exact fun x y => hd.2.1 (x, y), hd.2.2⟩, HU6.out⟩
              · have hebi : ¬ (en : Int) < (b : Int) := by omega
                go_wp2_with fail
                refine (rot_any (f := vals t) HQ.out hsm hme hbe hc (by omega)).mono ?_
                rintro r w4 ⟨rfl, hn4, ht4⟩
                rw [vals_rot] at hn4
                have HN4 := Lib.hid hn4
                have HU4 := Lib.hid (HU.out.trans ht4)
                clear hn4 ht4
                go_wp2_with fail
                obtain ⟨v1, hv1⟩ : ∃ v1, v1 = rot t s m en := ⟨_, rfl⟩
                have HV5 : Hid (Half (rot t s m en) v1 a mid) := Lib.hid (by
                  rw [hv1]
                  first
                    | exact Half.refl (by have h := HC.out.two; rw [show s = a by omega] at h ⊢; exact h)
                    | exact Half.refl (by have h := HC.out.one; rw [show s = mid by omega] at h ⊢; exact h))
                have HN5 := HN4
                rw [← hv1] at HN5
                have HU5 := HU4
                have HV6 : Hid (Half v1 v1 mid b) := Lib.hid (Half.refl (by
                  first
                    | exact (by have h := HC.out.four.congr (g := v1) (fun k h1 h2 => HV5.out.2.2 k (.inr (by omega))); rw [show en = mid by omega] at h; exact h)
                    | exact (by have h := HC.out.three.congr (g := v1) (fun k h1 h2 => HV5.out.2.2 k (.inr h1)); rw [show en = b by omega] at h; exact h)))
                have HN6 := HN5
                have HU6 := HU5
                first | go_ret | go_end0 | refine bodyPost_ret (results_none rfl _ _ _) rfl ?_
                have hd := HC.out.done HV5.out HV6.out (by omega) (by omega)
                exact ⟨rfl, ⟨_, HN6.out, hd.1, by first | exact hd.2.1 | exact fun x y => hd.2.1 (x, y), hd.2.2⟩, HU6.out⟩
          · have hmei : ¬ (m : Int) < (en : Int) := by omega
            have hsmid : ¬ (s : Int) < (mid : Int) := by omega
            by_cases has : a < s
            · have hasi : (a : Int) < (s : Int) := by omega
              by_cases heb : en < b
              · have hebi : (en : Int) < (b : Int) := by omega
                exfalso; omega
              · have hebi : ¬ (en : Int) < (b : Int) := by omega
                exfalso; omega
            · have hasi : ¬ (a : Int) < (s : Int) := by omega
              by_cases heb : en < b
              · have hebi : (en : Int) < (b : Int) := by omega
                exfalso; omega
              · have hebi : ¬ (en : Int) < (b : Int) := by omega
                exfalso; omega
        · have hsmi : ¬ (s : Int) < (m : Int) := by omega
          have hmei2 : ¬ (mid : Int) < (en : Int) := by omega
          by_cases hme : m < en
          · have hmei : (m : Int) < (en : Int) := by omega
            have hsmid : (s : Int) < (mid : Int) := by omega
            by_cases has : a < s
            · have hasi : (a : Int) < (s : Int) := by omega
              by_cases heb : en < b
              · have hebi : (en : Int) < (b : Int) := by omega
                go_wp2_with fail
                have hv : rot t s m en = t := by first | rw [show s = m by omega, rot_none' t m en (by omega)] | rw [show en = m by omega, rot_none t s m]
                have HN4 : Hid (Nines wq g n (vals (rot t s m en))) := by rw [hv]; exact HQ
                have HU4 := HU
                refine (IH.out wq g n c (rot t s m en) a s mid (by omega) HN4.out (Nat.lt_of_lt_of_le hg HU4.out.size) (by omega) (by omega) (by omega) hc hcx hcm HC.out.one HC.out.two HC.out.young1).mono ?_
                rintro r w5 ⟨rfl, ⟨v1, hn5, hv5⟩, ht5⟩
                have HN5 := Lib.hid hn5
                have HV5 : Hid (Half (rot t s m en) v1 a mid) := Lib.hid hv5
                have HU5 := Lib.hid (HU4.out.trans ht5)
                clear hn5 hv5 ht5
                go_wp2_with fail
                have HV6 : Hid (Half v1 v1 mid b) := Lib.hid (Half.refl (by
                  first
                    | exact (by have h := HC.out.four.congr (g := v1) (fun k h1 h2 => HV5.out.2.2 k (.inr (by omega))); rw [show en = mid by omega] at h; exact h)
                    | exact (by have h := HC.out.three.congr (g := v1) (fun k h1 h2 => HV5.out.2.2 k (.inr h1)); rw [show en = b by omega] at h; exact h)))
                have HN6 := HN5
                have HU6 := HU5
                first | go_ret | go_end0 | refine bodyPost_ret (results_none rfl _ _ _) rfl ?_
                have hd := HC.out.done HV5.out HV6.out (by omega) (by omega)
                exact ⟨rfl, ⟨_, HN6.out, hd.1, by first | exact hd.2.1 | exact fun x y => hd.2.1 (x, y), hd.2.2⟩, HU6.out⟩
              · have hebi : ¬ (en : Int) < (b : Int) := by omega
                exfalso; omega
            · have hasi : ¬ (a : Int) < (s : Int) := by omega
              by_cases heb : en < b
              · have hebi : (en : Int) < (b : Int) := by omega
                exfalso; omega
              · have hebi : ¬ (en : Int) < (b : Int) := by omega
                exfalso; omega
          · have hmei : ¬ (m : Int) < (en : Int) := by omega
            have hsmid : ¬ (s : Int) < (mid : Int) := by omega
            by_cases has : a < s
            · have hasi : (a : Int) < (s : Int) := by omega
              by_cases heb : en < b
              · have hebi : (en : Int) < (b : Int) := by omega
                go_wp2_with fail
                have hv : rot t s m en = t := by first | rw [show s = m by omega, rot_none' t m en (by omega)] | rw [show en = m by omega, rot_none t s m]
                have HN4 : Hid (Nines wq g n (vals (rot t s m en))) := by rw [hv]; exact HQ
                have HU4 := HU
                obtain ⟨v1, hv1⟩ : ∃ v1, v1 = rot t s m en := ⟨_, rfl⟩
                have HV5 : Hid (Half (rot t s m en) v1 a mid) := Lib.hid (by
                  rw [hv1]
                  first
                    | exact Half.refl (by have h := HC.out.two; rw [show s = a by omega] at h ⊢; exact h)
                    | exact Half.refl (by have h := HC.out.one; rw [show s = mid by omega] at h ⊢; exact h))
                have HN5 := HN4
                rw [← hv1] at HN5
                have HU5 := HU4
                have HV6 : Hid (Half v1 v1 mid b) := Lib.hid (Half.refl (by
                  first
                    | exact (by have h := HC.out.four.congr (g := v1) (fun k h1 h2 => HV5.out.2.2 k (.inr (by omega))); rw [show en = mid by omega] at h; exact h)
                    | exact (by have h := HC.out.three.congr (g := v1) (fun k h1 h2 => HV5.out.2.2 k (.inr h1)); rw [show en = b by omega] at h; exact h)))
                have HN6 := HN5
                have HU6 := HU5
                first | go_ret | go_end0 | refine bodyPost_ret (results_none rfl _ _ _) rfl ?_
                have hd := HC.out.done HV5.out HV6.out (by omega) (by omega)
                exact ⟨rfl, ⟨_, HN6.out, hd.1, by first | exact hd.2.1 | exact fun x y => hd.2.1 (x, y), hd.2.2⟩, HU6.out⟩
              · have hebi : ¬ (en : Int) < (b : Int) := by omega
                exfalso; omega
            · have hasi : ¬ (a : Int) < (s : Int) := by omega
              by_cases heb : en < b
              · have hebi : (en : Int) < (b : Int) := by omega
                exfalso; omega
              · have hebi : ¬ (en : Int) < (b : Int) := by omega
                exfalso; omega
    
end Go.Proofs.Ytpcgjladooijmaa.E
/- Blocks in order, put together by twos: what slices.SortStableFunc holds on its way. Plain. -/
namespace Go.Proofs.Ytpcgjladooijmaa.E.Stab
set_option linter.unusedVariables false

variable {α : Type}

theorem blk_of {q B i : Nat} (h1 : q * B ≤ i) (h2 : i < q * B + B) : i / B = q :=
  Nat.div_eq_of_lt_le h1 (by rw [Nat.add_one_mul]; exact h2)
theorem of_blk {q B i : Nat} (hB : 0 < B) (h : i / B = q) : q * B ≤ i ∧ i < q * B + B := by
  subst h
  constructor
  · exact Nat.div_mul_le_self i B
  · have := Nat.div_add_mod i B
    have h2 := Nat.mod_lt i hB
    rw [Nat.mul_comm] at this
    omega
theorem mem_wide {u t : Nat → α} {a b a' b' : Nat} (h : ∀ x, Mem u a b x ↔ Mem t a b x) (hk : ∀ k, k < a ∨ b ≤ k → u k = t k) (h1 : a' ≤ a) (h2 : a ≤ b) (h3 : b ≤ b') : ∀ x, Mem u a' b' x ↔ Mem t a' b' x := fun x => by
  rw [mem_cut u a' a b' h1 (by omega), mem_cut t a' a b' h1 (by omega), mem_cut u a b b' h2 h3, mem_cut t a b b' h2 h3, h x, mem_congr (f := t) (g := u) (a := a') (b := a) (fun k _ hk2 => hk k (.inl hk2)), mem_congr (f := t) (g := u) (a := b) (b := b') (fun k hk2 _ => hk k (.inr hk2))]
/-- below a blocks of C in order, from a on blocks of B; each thing in the block where it stood -/
structure Part (lt : α → α → Bool) (t u : Nat → α × Nat) (B C a n : Nat) : Prop where
  srtC : ∀ i k, i < k → k < a → k < n → i / C = k / C → Tag lt (u i) (u k)
  srtB : ∀ i k, a ≤ i → i < k → k < n → i / B = k / B → Tag lt (u i) (u k)
  ageC : ∀ i, i < a → i < n → (u i).2 / C = i / C
  ageB : ∀ i, a ≤ i → i < n → (u i).2 / B = i / B
  mem : ∀ x, Mem u 0 n x ↔ Mem t 0 n x
theorem Part.start {lt : α → α → Bool} {t : Nat → α × Nat} {C n : Nat} (ht : ∀ k, (t k).2 = k) : Part lt t t 1 C 0 n where
  srtC i k _ h := by omega
  srtB i k _ h _ e := by rw [Nat.div_one, Nat.div_one] at e; omega
  ageC i h := by omega
  ageB i _ _ := by rw [ht]
  mem _ := Iff.rfl
theorem Part.step {lt : α → α → Bool} {t u v : Nat → α × Nat} {B s C a b n q : Nat} (h : Part lt t u B C a n) (hC : C = B * s) (hC0 : 0 < C) (ha : a = q * C) (hab : a ≤ b) (hbn : b ≤ n) (hba : b ≤ a + C) (hb : a + C ≤ b ∨ n ≤ b)
    (hs : Srt (Tag lt) v a b) (hm : ∀ x, Mem v a b x ↔ Mem u a b x) (ho : ∀ k, k < a ∨ b ≤ k → v k = u k) : Part lt t v B C (a + C) n where
  srtC i k hik hk hkn e := by
    by_cases hka : k < a
    · rw [ho i (.inl (by omega)), ho k (.inl hka)]; exact h.srtC i k hik hka hkn e
    · have hq : k / C = q := blk_of (by omega) (by omega)
      have hi := of_blk hC0 (e.trans hq)
      exact hs i k (by omega) hik (by omega)
  srtB i k hi hik hkn e := by
    rw [ho i (.inr (by omega)), ho k (.inr (by omega))]; exact h.srtB i k (by omega) hik hkn e
  ageC i hi hin := by
    by_cases hia : i < a
    · rw [ho i (.inl hia)]; exact h.ageC i hia hin
    · obtain ⟨k, hk1, hk2, hk3⟩ := (hm (v i)).1 ⟨i, by omega, by omega, rfl⟩
      rw [← hk3]
      have h1 := h.ageB k hk1 (by omega)
      have h2 : (u k).2 / C = k / C := by rw [hC, ← Nat.div_div_eq_div_mul, ← Nat.div_div_eq_div_mul, h1]
      rw [h2, blk_of (q := q) (B := C) (i := k) (by omega) (by omega), blk_of (q := q) (B := C) (i := i) (by omega) (by omega)]
  ageB i hi hin := by rw [ho i (.inr (by omega))]; exact h.ageB i (by omega) hin
  mem x := (mem_wide hm ho (Nat.zero_le _) hab hbn x).trans (h.mem x)
/-- all blocks of C: where twice as great ones begin -/
theorem Part.next {lt : α → α → Bool} {t u : Nat → α × Nat} {B C a n : Nat} (h : Part lt t u B C a n) (han : n ≤ a) (D : Nat) : Part lt t u C D 0 n where
  srtC i k _ h := by omega
  srtB i k _ hik hkn e := h.srtC i k hik (by omega) hkn e
  ageC i h := by omega
  ageB i _ hin := h.ageC i (by omega) hin
  mem := h.mem
/-- the first block of C is of two blocks of B, each in order -/
theorem Part.two {lt : α → α → Bool} {t u : Nat → α × Nat} {B C a m b n q : Nat} (h : Part lt t u B C a n) (hC : C = B * 2) (hB0 : 0 < B) (ha : a = q * C) (hm : m = a + B) (hmb : m < b) (hbn : b ≤ n) (hba : b ≤ a + C) :
    Srt (Tag lt) u a m ∧ Srt (Tag lt) u m b ∧ ∀ i j, a ≤ i → i < m → m ≤ j → j < b → (u i).2 < (u j).2 := by
  have e1 : ∀ i, a ≤ i → i < m → i / B = q * 2 := fun i h1 h2 => by
    have : q * 2 * B = a := by rw [ha, hC, Nat.mul_assoc, Nat.mul_comm 2 B]
    exact blk_of (by omega) (by omega)
  have e2 : ∀ i, m ≤ i → i < b → i / B = q * 2 + 1 := fun i h1 h2 => by
    have : (q * 2 + 1) * B = m := by rw [Nat.add_mul, Nat.one_mul, hm, ha, hC, Nat.mul_assoc, Nat.mul_comm 2 B]
    exact blk_of (by omega) (by omega)
  refine ⟨fun i j h1 h2 h3 => h.srtB i j h1 h2 (by omega) ((e1 i h1 (by omega)).trans (e1 j (by omega) h3).symm), fun i j h1 h2 h3 => h.srtB i j (by omega) h2 (by omega) ((e2 i h1 (by omega)).trans (e2 j (by omega) h3).symm), fun i j h1 h2 h3 h4 => ?_⟩
  have a1 := h.ageB i h1 (by omega)
  have a2 := h.ageB j (by omega) (by omega)
  rw [e1 i h1 h2] at a1
  rw [e2 j h3 h4] at a2
  have b1 := of_blk hB0 a1
  have b2 := of_blk hB0 a2
  have : (q * 2 + 1) * B = q * 2 * B + B := by rw [Nat.add_mul, Nat.one_mul]
  omega
/-- one block of B at most is left -/
theorem Part.rest {lt : α → α → Bool} {t u : Nat → α × Nat} {B C a n q : Nat} (h : Part lt t u B C a n) (hC : C = B * 2) (hB0 : 0 < B) (ha : a = q * C) (han : a ≤ n) (hn : n ≤ a + B) : Part lt t u B C (a + C) n := by
  have e1 : ∀ i, a ≤ i → i < n → i / B = q * 2 := fun i h1 h2 => by
    have : q * 2 * B = a := by rw [ha, hC, Nat.mul_assoc, Nat.mul_comm 2 B]
    exact blk_of (by omega) (by omega)
  exact h.step hC (by omega) ha han (Nat.le_refl _) (by omega) (.inr (Nat.le_refl _)) (fun i j h1 h2 h3 => h.srtB i j h1 h2 h3 ((e1 i h1 (by omega)).trans (e1 j (by omega) h3).symm)) (fun _ => Iff.rfl) (fun _ _ => rfl)
theorem Part.done {lt : α → α → Bool} {f : Nat → α} {u : Nat → α × Nat} {B C n : Nat} (h : Part lt (fun k => (f k, k)) u B C 0 n) (hn : n ≤ B) : Stable lt f (fun k => (u k).1) n :=
  ⟨u, fun _ _ => rfl, fun i j _ h2 h3 => h.srtB i j (Nat.zero_le _) h2 h3 (by rw [Nat.div_eq_of_lt (by omega), Nat.div_eq_of_lt (by omega)]), fun x => (h.mem x).trans ⟨fun ⟨i, _, h2, e⟩ => ⟨i, h2, e.symm⟩, fun ⟨i, h2, e⟩ => ⟨i, Nat.zero_le _, h2, e.symm⟩⟩⟩
end Go.Proofs.Ytpcgjladooijmaa.E.Stab
/- slices.stableCmpFunc, slices.SortStableFunc over rows. Written by genstable.py and toent.py. -/
namespace Go.Proofs.Ytpcgjladooijmaa.E
open Go.ChangeShapes Go.WideShapes Go.Deep Go.RowKit Stab
set_option linter.unusedVariables false

set_option maxRecDepth 100000 in
theorem ins_nil {w : World} {s cmp : Value} {a b : Nat} (hba : b ≤ a) (ha : a ≤ 4611686018427387900) :
    Calls Try.prog 92 #[s, .int .i64 (a : Int), .int .i64 (b : Int), cmp] w fun e w' => e = .returned undef ∧ Below w.heap.size w w' := by
  go_enter Try.func92, Try.ntmps92
  go_wp2_with fail
  go_loopw [8, 9] (fun s8 s9 wr => s8 = .int .i64 ((a + 1 : Nat) : Int) ∧ Hid (Below w.heap.size w wr)) (fun _ _ _ => 0)
  case atStart => exact ⟨by go_num, Lib.hid (Below.refl _ _)⟩
  case round =>
    obtain ⟨rfl, HB⟩ := hrel
    rename World => wr
    have hn : ¬ ((a + 1 : Nat) : Int) < (b : Int) := by omega
    have hn2 : ¬ ((a : Int) + 1) < (b : Int) := by omega
    go_wp2_with fail
    first | go_end0 | refine bodyPost_ret (results_none rfl _ _ _) rfl ?_ | go_ret
    exact ⟨rfl, HB.out⟩

set_option maxRecDepth 100000 in
set_option maxHeartbeats 8000000 in
theorem stable_any {w : World} {g n c : Nat} {f : Nat → EntV} (h : Nines w g n f) (hg : g < w.heap.size) (hc : n ≤ c) (hcx : c ≤ 9223372036854775807) (hcm : n ≤ 10000000000000) :
    Calls Try.prog 84 #[.slice (some ⟨g, 0, none⟩) n c, .int .i64 (n : Int), .func (.func 73) #[] #[]] w fun e w' => e = .returned undef ∧ (∃ u, Nines w' g n (vals u) ∧ Stable ltE f (vals u) n) ∧ Turns1 g w w' := by
  obtain ⟨t, ht⟩ : ∃ t : Nat → EntV × Nat, t = fun k => (f k, k) := ⟨_, rfl⟩
  have H := Lib.hid (show Nines w g n (vals t) by rw [ht]; exact h)
  have HP0 := Lib.hid (show Part ltE t t 1 20 0 n from Part.start (fun k => by rw [ht]))
  have hst : ∀ u : Nat → EntV × Nat, ∀ B C, Part ltE t u B C 0 n → n ≤ B → Stable ltE f (vals u) n := by
    intro u B C hp hn
    rw [ht] at hp
    exact hp.done hn
  have HST := Lib.hid hst
  clear h ht hst
  go_enter Try.func84, Try.ntmps84
  go_wp2_with fail
  go_loopw [7, 8] (fun s7 s8 wq => ∃ (a b : Nat) (v : Nat → EntV × Nat), a ≤ n ∧ (b ≤ a + 20 ∧ a + 20 ≤ b) ∧ s7 = .int .i64 (a : Int) ∧ s8 = .int .i64 (b : Int) ∧ Hid (∃ q, a = q * 20) ∧ Hid (Part ltE t v 1 20 a n) ∧ Hid (Nines wq g n (vals v)) ∧ Hid (Turns1 g w wq)) (fun s7 _ _ => n - (intOf s7).toNat)
  case atStart => exact ⟨0, 20, t, by omega, ⟨by omega, by omega⟩, rfl, rfl, Lib.hid ⟨0, by omega⟩, HP0, H, Lib.hid (Turns1.refl g w)⟩
  case round =>
    obtain ⟨a, b, v, han, hab, rfl, rfl, HA, HP1, HN1, HU1⟩ := hrel
    rename World => wq
    by_cases hbn : b ≤ n
    · have hbni : (b : Int) ≤ (n : Int) := by omega
      go_wp2_with fail
      refine (ins_any weak_ltE ecompare_any (t := v) (a := a) (b := b) HN1.out (Nat.lt_of_lt_of_le hg HU1.out.size) (by omega) hbn hc (by omega) (by omega) (fun i j h1 h2 h3 => by
        have e1 := HP1.out.ageB i h1 (by omega)
        have e2 := HP1.out.ageB j (by omega) (by omega)
        rw [Nat.div_one, Nat.div_one] at e1 e2
        omega)).mono ?_
      rintro r w5 ⟨rfl, ⟨v1, hn5, hs5, hm5, ho5⟩, ht5⟩
      have HP2 := Lib.hid (show Part ltE t v1 1 20 b n from by
        obtain ⟨q, hq⟩ := HA.out
        have h := HP1.out.step (b := b) (s := 20) rfl (by omega) hq (by omega) hbn (by omega) (.inl (by omega)) hs5 hm5 ho5
        rw [show a + 20 = b by omega] at h
        exact h)
      have HA2 := Lib.hid (show ∃ q, b = q * 20 from by
        obtain ⟨q, hq⟩ := HA.out
        exact ⟨q + 1, by omega⟩)
      have HN2 := Lib.hid hn5
      have HU2 := Lib.hid (HU1.out.trans ht5)
      clear hn5 hs5 hm5 ho5 ht5
      go_wp2_with fail
      go_roundw
      case rel => exact ⟨b, b + 20, v1, hbn, ⟨by omega, by omega⟩, rfl, by first | rfl | go_num | exact congrArg (Value.int .i64) (by omega), HA2, HP2, HN2, HU2⟩
      case measure => simp [intOf]; omega
    · have hbni : ¬ (b : Int) ≤ (n : Int) := by omega
      by_cases hlast : a < n
      · go_wp2_with fail
        refine (ins_any weak_ltE ecompare_any (t := v) (a := a) (b := n) HN1.out (Nat.lt_of_lt_of_le hg HU1.out.size) hlast (Nat.le_refl _) hc (by omega) (by omega) (fun i j h1 h2 h3 => by
          have e1 := HP1.out.ageB i h1 (by omega)
          have e2 := HP1.out.ageB j (by omega) (by omega)
          rw [Nat.div_one, Nat.div_one] at e1 e2
          omega)).mono ?_
        rintro r w5 ⟨rfl, ⟨v1, hn5, hs5, hm5, ho5⟩, ht5⟩
        have HPN := Lib.hid (show Part ltE t v1 20 (20 * 2) 0 n from by
          obtain ⟨q, hq⟩ := HA.out
          exact (HP1.out.step (b := n) (s := 20) rfl (by omega) hq (by omega) (Nat.le_refl _) (by omega) (.inr (Nat.le_refl _)) hs5 hm5 ho5).next (by omega) _)
        have HN2 := Lib.hid hn5
        have HU2 := Lib.hid (HU1.out.trans ht5)
        clear hn5 hs5 hm5 ho5 ht5
        go_wp2_with fail
        go_loopw [6, 7, 8, 9] (fun s6 s7 s8 s9 wr => ∃ (B : Nat) (u : Nat → EntV × Nat), 0 < B ∧ B ≤ 2 * n + 20 ∧ s6 = .int .i64 (B : Int) ∧ Hid (Part ltE t u B (B * 2) 0 n) ∧ Hid (Nines wr g n (vals u)) ∧ Hid (Turns1 g w wr)) (fun s6 _ _ _ _ => n - (intOf s6).toNat)
        case atStart => exact ⟨20, v1, by omega, by omega, rfl, HPN, HN2, HU2⟩
        case round =>
          obtain ⟨B, u, hB0, hBn, rfl, HP, HN, HU⟩ := hrel
          rename World => wr
          by_cases hlt : B < n
          · have hlti : (B : Int) < (n : Int) := by omega
            go_wp2_with fail
            go_loopw [7, 8] (fun s7 s8 wq => ∃ (a b : Nat) (v : Nat → EntV × Nat), a ≤ n ∧ (b ≤ a + B * 2 ∧ a + B * 2 ≤ b) ∧ s7 = .int .i64 (a : Int) ∧ s8 = .int .i64 (b : Int) ∧ Hid (∃ q, a = q * (B * 2)) ∧ Hid (Part ltE t v B (B * 2) a n) ∧ Hid (Nines wq g n (vals v)) ∧ Hid (Turns1 g w wq)) (fun s7 _ _ => n - (intOf s7).toNat)
            case atStart => exact ⟨0, B * 2, u, by omega, ⟨by omega, by omega⟩, rfl, by first | rfl | go_num | exact congrArg (Value.int .i64) (by omega), Lib.hid ⟨0, by omega⟩, HP, HN, HU⟩
            case round =>
              obtain ⟨a, b, v, han, hab, rfl, rfl, HA, HP1, HN1, HU1⟩ := hrel
              rename World => wq
              obtain ⟨m, hm⟩ : ∃ m : Nat, m ≤ a + B ∧ a + B ≤ m := ⟨a + B, by omega⟩
              have wm : (a : Int) + (B : Int) = (m : Int) := by omega
              by_cases hbn : b ≤ n
              · have hbni : (b : Int) ≤ (n : Int) := by omega
                have hnx : a < b ∧ B * 2 + b ≤ 100000000000000 := by omega
                go_wp2_with fail
                refine (sym_all (b - a) wq g n c v a m b (Nat.le_refl _) HN1.out (Nat.lt_of_lt_of_le hg HU1.out.size) (by omega) (by omega) hbn hc (by omega) (by omega) (by
                    obtain ⟨q, hq⟩ := HA.out
                    exact (HP1.out.two (m := m) (b := b) rfl hB0 hq (by omega) (by omega) (by omega) (by omega)).1) (by
                    obtain ⟨q, hq⟩ := HA.out
                    exact (HP1.out.two (m := m) (b := b) rfl hB0 hq (by omega) (by omega) (by omega) (by omega)).2.1) (by
                    obtain ⟨q, hq⟩ := HA.out
                    exact (HP1.out.two (m := m) (b := b) rfl hB0 hq (by omega) (by omega) (by omega) (by omega)).2.2)).mono ?_
                rintro r w5 ⟨rfl, ⟨v1, hn5, hs5, hm5, ho5⟩, ht5⟩
                have HP2 := Lib.hid (show Part ltE t v1 B (B * 2) b n from by
                  obtain ⟨q, hq⟩ := HA.out
                  have h := HP1.out.step (b := b) (s := 2) rfl (by omega) hq (by omega) hbn (by omega) (.inl (by omega)) hs5 hm5 ho5
                  rw [show a + B * 2 = b by omega] at h
                  exact h)
                have HA2 := Lib.hid (show ∃ q, b = q * (B * 2) from by
                  obtain ⟨q, hq⟩ := HA.out
                  exact ⟨q + 1, by rw [Nat.add_one_mul]; omega⟩)
                have HN2 := Lib.hid hn5
                have HU2 := Lib.hid (HU1.out.trans ht5)
                clear hn5 hs5 hm5 ho5 ht5
                go_wp2_with fail
                go_roundw
                case rel => exact ⟨b, b + B * 2, v1, hbn, ⟨by omega, by omega⟩, rfl, by first | rfl | go_num | exact congrArg (Value.int .i64) (by omega), HA2, HP2, HN2, HU2⟩
                case measure => simp [intOf]; omega
              · have hbni : ¬ (b : Int) ≤ (n : Int) := by omega
                by_cases hmn : m < n
                · have hmni : (m : Int) < (n : Int) := by omega
                  go_wp2_with fail
                  refine (sym_all (n - a) wq g n c v a m n (Nat.le_refl _) HN1.out (Nat.lt_of_lt_of_le hg HU1.out.size) (by omega) (by omega) (Nat.le_refl _) hc (by omega) (by omega) (by
                      obtain ⟨q, hq⟩ := HA.out
                      exact (HP1.out.two (m := m) (b := n) rfl hB0 hq (by omega) (by omega) (by omega) (by omega)).1) (by
                      obtain ⟨q, hq⟩ := HA.out
                      exact (HP1.out.two (m := m) (b := n) rfl hB0 hq (by omega) (by omega) (by omega) (by omega)).2.1) (by
                      obtain ⟨q, hq⟩ := HA.out
                      exact (HP1.out.two (m := m) (b := n) rfl hB0 hq (by omega) (by omega) (by omega) (by omega)).2.2)).mono ?_
                  rintro r w5 ⟨rfl, ⟨v1, hn5, hs5, hm5, ho5⟩, ht5⟩
                  have HP2 := Lib.hid (show Part ltE t v1 B (B * 2) (a + B * 2) n from by
                    obtain ⟨q, hq⟩ := HA.out
                    exact HP1.out.step (b := n) (s := 2) rfl (by omega) hq (by omega) (Nat.le_refl _) (by omega) (.inr (Nat.le_refl _)) hs5 hm5 ho5)
                  have HN2 := Lib.hid hn5
                  have HU2 := Lib.hid (HU1.out.trans ht5)
                  clear hn5 hs5 hm5 ho5 ht5
                  have HPN := Lib.hid (HP2.out.next (by omega) (B * 2 * 2))
                  go_wp2_with fail
                  go_roundw
                  case rel => exact ⟨B * 2, v1, by omega, by omega, by go_num, HPN, HN2, HU2⟩
                  case measure => simp [intOf]; omega
                · have hmni : ¬ (m : Int) < (n : Int) := by omega
                  have HP2 := Lib.hid (show Part ltE t v B (B * 2) (a + B * 2) n from by
                    obtain ⟨q, hq⟩ := HA.out
                    exact HP1.out.rest rfl hB0 hq han (by omega))
                  have HPN := Lib.hid (HP2.out.next (by omega) (B * 2 * 2))
                  go_wp2_with fail
                  go_roundw
                  case rel => exact ⟨B * 2, v, by omega, by omega, by go_num, HPN, HN1, HU1⟩
                  case measure => simp [intOf]; omega
          · have hlti : ¬ (B : Int) < (n : Int) := by omega
            go_wp2_with fail
            first | go_end0 | refine bodyPost_ret (results_none rfl _ _ _) rfl ?_ | go_ret
            exact ⟨rfl, ⟨u, HN.out, HST.out u _ _ HP.out (by omega)⟩, HU.out⟩
      · have HPN := Lib.hid (show Part ltE t v 20 (20 * 2) 0 n from HP1.out.next (by omega) _)
        go_wp2_with fail
        refine (ins_nil (a := a) (b := n) (by omega) (by omega)).mono ?_
        rintro r w5 ⟨rfl, hb5⟩
        have HN2 := Lib.hid (HN1.out.below (Nat.lt_of_lt_of_le hg HU1.out.size) hb5)
        have HU2 := Lib.hid (HU1.out.below hb5)
        clear hb5
        go_wp2_with fail
        go_loopw [6, 7, 8, 9] (fun s6 s7 s8 s9 wr => ∃ (B : Nat) (u : Nat → EntV × Nat), 0 < B ∧ B ≤ 2 * n + 20 ∧ s6 = .int .i64 (B : Int) ∧ Hid (Part ltE t u B (B * 2) 0 n) ∧ Hid (Nines wr g n (vals u)) ∧ Hid (Turns1 g w wr)) (fun s6 _ _ _ _ => n - (intOf s6).toNat)
        case atStart => exact ⟨20, v, by omega, by omega, rfl, HPN, HN2, HU2⟩
        case round =>
          obtain ⟨B, u, hB0, hBn, rfl, HP, HN, HU⟩ := hrel
          rename World => wr
          by_cases hlt : B < n
          · have hlti : (B : Int) < (n : Int) := by omega
            go_wp2_with fail
            go_loopw [7, 8] (fun s7 s8 wq => ∃ (a b : Nat) (v : Nat → EntV × Nat), a ≤ n ∧ (b ≤ a + B * 2 ∧ a + B * 2 ≤ b) ∧ s7 = .int .i64 (a : Int) ∧ s8 = .int .i64 (b : Int) ∧ Hid (∃ q, a = q * (B * 2)) ∧ Hid (Part ltE t v B (B * 2) a n) ∧ Hid (Nines wq g n (vals v)) ∧ Hid (Turns1 g w wq)) (fun s7 _ _ => n - (intOf s7).toNat)
            case atStart => exact ⟨0, B * 2, u, by omega, ⟨by omega, by omega⟩, rfl, by first | rfl | go_num | exact congrArg (Value.int .i64) (by omega), Lib.hid ⟨0, by omega⟩, HP, HN, HU⟩
            case round =>
              obtain ⟨a, b, v, han, hab, rfl, rfl, HA, HP1, HN1, HU1⟩ := hrel
              rename World => wq
              obtain ⟨m, hm⟩ : ∃ m : Nat, m ≤ a + B ∧ a + B ≤ m := ⟨a + B, by omega⟩
              have wm : (a : Int) + (B : Int) = (m : Int) := by omega
              by_cases hbn : b ≤ n
              · have hbni : (b : Int) ≤ (n : Int) := by omega
                have hnx : a < b ∧ B * 2 + b ≤ 100000000000000 := by omega
                go_wp2_with fail
                refine (sym_all (b - a) wq g n c v a m b (Nat.le_refl _) HN1.out (Nat.lt_of_lt_of_le hg HU1.out.size) (by omega) (by omega) hbn hc (by omega) (by omega) (by
                    obtain ⟨q, hq⟩ := HA.out
                    exact (HP1.out.two (m := m) (b := b) rfl hB0 hq (by omega) (by omega) (by omega) (by omega)).1) (by
                    obtain ⟨q, hq⟩ := HA.out
                    exact (HP1.out.two (m := m) (b := b) rfl hB0 hq (by omega) (by omega) (by omega) (by omega)).2.1) (by
                    obtain ⟨q, hq⟩ := HA.out
                    exact (HP1.out.two (m := m) (b := b) rfl hB0 hq (by omega) (by omega) (by omega) (by omega)).2.2)).mono ?_
                rintro r w5 ⟨rfl, ⟨v1, hn5, hs5, hm5, ho5⟩, ht5⟩
                have HP2 := Lib.hid (show Part ltE t v1 B (B * 2) b n from by
                  obtain ⟨q, hq⟩ := HA.out
                  have h := HP1.out.step (b := b) (s := 2) rfl (by omega) hq (by omega) hbn (by omega) (.inl (by omega)) hs5 hm5 ho5
                  rw [show a + B * 2 = b by omega] at h
                  exact h)
                have HA2 := Lib.hid (show ∃ q, b = q * (B * 2) from by
                  obtain ⟨q, hq⟩ := HA.out
                  exact ⟨q + 1, by rw [Nat.add_one_mul]; omega⟩)
                have HN2 := Lib.hid hn5
                have HU2 := Lib.hid (HU1.out.trans ht5)
                clear hn5 hs5 hm5 ho5 ht5
                go_wp2_with fail
                go_roundw
                case rel => exact ⟨b, b + B * 2, v1, hbn, ⟨by omega, by omega⟩, rfl, by first | rfl | go_num | exact congrArg (Value.int .i64) (by omega), HA2, HP2, HN2, HU2⟩
                case measure => simp [intOf]; omega
              · have hbni : ¬ (b : Int) ≤ (n : Int) := by omega
                by_cases hmn : m < n
                · have hmni : (m : Int) < (n : Int) := by omega
                  go_wp2_with fail
                  refine (sym_all (n - a) wq g n c v a m n (Nat.le_refl _) HN1.out (Nat.lt_of_lt_of_le hg HU1.out.size) (by omega) (by omega) (Nat.le_refl _) hc (by omega) (by omega) (by
                      obtain ⟨q, hq⟩ := HA.out
                      exact (HP1.out.two (m := m) (b := n) rfl hB0 hq (by omega) (by omega) (by omega) (by omega)).1) (by
                      obtain ⟨q, hq⟩ := HA.out
                      exact (HP1.out.two (m := m) (b := n) rfl hB0 hq (by omega) (by omega) (by omega) (by omega)).2.1) (by
                      obtain ⟨q, hq⟩ := HA.out
                      exact (HP1.out.two (m := m) (b := n) rfl hB0 hq (by omega) (by omega) (by omega) (by omega)).2.2)).mono ?_
                  rintro r w5 ⟨rfl, ⟨v1, hn5, hs5, hm5, ho5⟩, ht5⟩
                  have HP2 := Lib.hid (show Part ltE t v1 B (B * 2) (a + B * 2) n from by
                    obtain ⟨q, hq⟩ := HA.out
                    exact HP1.out.step (b := n) (s := 2) rfl (by omega) hq (by omega) (Nat.le_refl _) (by omega) (.inr (Nat.le_refl _)) hs5 hm5 ho5)
                  have HN2 := Lib.hid hn5
                  have HU2 := Lib.hid (HU1.out.trans ht5)
                  clear hn5 hs5 hm5 ho5 ht5
                  have HPN := Lib.hid (HP2.out.next (by omega) (B * 2 * 2))
                  go_wp2_with fail
                  go_roundw
                  case rel => exact ⟨B * 2, v1, by omega, by omega, by go_num, HPN, HN2, HU2⟩
                  case measure => simp [intOf]; omega
                · have hmni : ¬ (m : Int) < (n : Int) := by omega
                  have HP2 := Lib.hid (show Part ltE t v B (B * 2) (a + B * 2) n from by
                    obtain ⟨q, hq⟩ := HA.out
                    exact HP1.out.rest rfl hB0 hq han (by omega))
                  have HPN := Lib.hid (HP2.out.next (by omega) (B * 2 * 2))
                  go_wp2_with fail
                  go_roundw
                  case rel => exact ⟨B * 2, v, by omega, by omega, by go_num, HPN, HN1, HU1⟩
                  case measure => simp [intOf]; omega
          · have hlti : ¬ (B : Int) < (n : Int) := by omega
            go_wp2_with fail
            first | go_end0 | refine bodyPost_ret (results_none rfl _ _ _) rfl ?_ | go_ret
            exact ⟨rfl, ⟨u, HN.out, HST.out u _ _ HP.out (by omega)⟩, HU.out⟩

set_option maxRecDepth 100000 in
theorem stable_nil {w : World} {s cmp : Value} :
    Calls Try.prog 84 #[s, .int .i64 0, cmp] w fun e w' => e = .returned undef ∧ Below w.heap.size w w' := by
  go_enter Try.func84, Try.ntmps84
  go_wp2_with fail
  go_loopw [7, 8] (fun s7 s8 wq => s7 = .int .i64 0 ∧ s8 = .int .i64 20 ∧ Hid (Below w.heap.size w wq)) (fun _ _ _ => 0)
  case atStart => exact ⟨rfl, rfl, Lib.hid (Below.refl _ _)⟩
  case round =>
    obtain ⟨rfl, rfl, HB⟩ := hrel
    rename World => wq
    go_wp2_with fail
    refine (ins_nil (s := s) (cmp := cmp) (a := 0) (b := 0) (by omega) (by omega)).mono ?_
    rintro r w5 ⟨rfl, hb5⟩
    have HB5 := Lib.hid (HB.out.trans (hb5.mono HB.out.size))
    clear hb5
    go_wp2_with fail
    go_loopw [6, 7, 8, 9] (fun s6 s7 s8 s9 wr => s6 = .int .i64 20 ∧ Hid (Below w.heap.size w wr)) (fun _ _ _ _ _ => 0)
    case atStart => exact ⟨rfl, HB5⟩
    case round =>
      obtain ⟨rfl, HB6⟩ := hrel
      rename World => wr
      go_wp2_with fail
      first | go_end0 | refine bodyPost_ret (results_none rfl _ _ _) rfl ?_ | go_ret
      exact ⟨rfl, HB6.out⟩

set_option maxRecDepth 100000 in
theorem sorts_any {w : World} {g n c : Nat} {f : Nat → EntV} (h : Nines w g n f) (hg : g < w.heap.size) (hc : n ≤ c) (hcx : c ≤ 9223372036854775807) (hcm : n ≤ 10000000000000) :
    Calls Try.prog 72 #[.slice (some ⟨g, 0, none⟩) n c, .func (.func 73) #[] #[]] w fun e w' => e = .returned undef ∧ (∃ u, Nines w' g n (vals u) ∧ Stable ltE f (vals u) n) ∧ Turns1 g w w' := by
  have H := Lib.hid h
  clear h
  go_enter Try.func72, Try.ntmps72
  go_wp2_with fail
  refine (stable_any H.out hg hc hcx hcm).mono ?_
  rintro r w5 ⟨rfl, h5, ht5⟩
  have H5 := Lib.hid h5
  have HT := Lib.hid ht5
  clear h5 ht5
  go_wp2_with fail
  first | go_end0 | refine bodyPost_ret (results_none rfl _ _ _) rfl ?_ | go_ret
  exact ⟨rfl, H5.out, HT.out⟩
set_option maxRecDepth 100000 in
theorem sorts_nil {w : World} {a : Option Addr} {c : Nat} :
    Calls Try.prog 72 #[.slice a 0 c, .func (.func 73) #[] #[]] w fun e w' => e = .returned undef ∧ Below w.heap.size w w' := by
  go_enter Try.func72, Try.ntmps72
  go_wp2_with fail
  refine stable_nil.mono ?_
  rintro r w5 ⟨rfl, hb5⟩
  have HB := Lib.hid hb5
  clear hb5
  go_wp2_with fail
  first | go_end0 | refine bodyPost_ret (results_none rfl _ _ _) rfl ?_ | go_ret
  exact ⟨rfl, HB.out⟩
end Go.Proofs.Ytpcgjladooijmaa.E
/- Entries, as a walk is told of them: wherever they lie, or owned by a call; one more put behind those that are not behind it. -/
namespace Go.Proofs.Ytpcgjladooijmaa.E
open Go.RowKit LabPlain Stab
set_option linter.unusedVariables false

theorem flat_len {α : Type} (f : α → List Value) (K : Nat) (hK : ∀ x, (f x).length = K) : ∀ l : List α, (l.flatMap f).length = l.length * K
  | [] => by simp
  | x :: r => by rw [List.flatMap_cons, List.length_append, hK, flat_len f K hK r, List.length_cons, Nat.succ_mul]; omega
theorem flat_at {α : Type} (f : α → List Value) (K : Nat) (hK : ∀ x, (f x).length = K) (d : α) : ∀ (l : List α) (i j : Nat), i < l.length → j < K → (l.flatMap f)[i * K + j]? = (f (l.getD i d))[j]?
  | x :: r, 0, j, _, hj => by
    rw [List.flatMap_cons, Nat.zero_mul, Nat.zero_add, List.getElem?_append_left (by rw [hK]; exact hj)]; rfl
  | x :: r, i + 1, j, hi, hj => by
    rw [List.flatMap_cons, List.getElem?_append_right (by rw [hK, Nat.succ_mul]; omega), hK, show (i + 1) * K + j - K = i * K + j from by rw [Nat.succ_mul]; omega, flat_at f K hK d r i j (by simpa using hi) hj]
    rfl
structure EntsAt (w : World) (a : Option Addr) (n c : Nat) (l : List EntV) : Prop where
  len : l.length = n
  cap : n ≤ c
  capm : c ≤ 9223372036854775807
  nl : a = none → c = 0
  size : ∀ x ∈ l, x.key.size ≤ 140737488355328 ∧ x.part.size ≤ 140737488355328
  cells : 0 < n → ∃ b off, a = some ⟨b, off, none⟩ ∧ b < w.heap.size ∧ ∀ i, i < n → ∀ j u, (l.getD i ent0).cells[j]? = some u → w.cell? ⟨b, off + i * 9 + j, none⟩ = some u
theorem EntsAt.kept {w w' : World} {a : Option Addr} {n c : Nat} {l : List EntV} (h : EntsAt w a n c l) (hb : Below w.heap.size w w') : EntsAt w' a n c l :=
  ⟨h.len, h.cap, h.capm, h.nl, h.size, fun hn => by
    obtain ⟨b, off, ha, hlt, hc⟩ := h.cells hn
    exact ⟨b, off, ha, Nat.lt_of_lt_of_le hlt hb.size, fun i hi j u hu => (hb.cell (p := ⟨b, off + i * 9 + j, none⟩) hlt).trans (hc i hi j u hu)⟩⟩
theorem EntsAt.empty (w : World) (a : Option Addr) (c : Nat) (hc : c ≤ 9223372036854775807) (ha : a = none → c = 0) : EntsAt w a 0 c [] :=
  ⟨rfl, Nat.zero_le _, hc, ha, (fun x hx => by cases hx), fun h => absurd h (Nat.lt_irrefl 0)⟩
theorem ent_mem {l : List EntV} {i : Nat} (h : i < l.length) : l.getD i ent0 ∈ l := by
  have : l.getD i ent0 = l[i] := by simp [h]
  rw [this]; exact List.getElem_mem h
theorem EntsAt.nine {w : World} {b off n : Nat} {l : List EntV} (hc : ∀ i, i < n → ∀ j u, (l.getD i ent0).cells[j]? = some u → w.cell? ⟨b, off + i * 9 + j, none⟩ = some u) {i : Nat} (hi : i < n) {x : EntV} (hr : x = l.getD i ent0) :
    w.cell? ⟨b, off + i * 9, none⟩ = some (.string x.key) ∧ w.cell? ⟨b, off + i * 9 + 1, none⟩ = some (.int .i64 x.win) ∧ w.cell? ⟨b, off + i * 9 + 2, none⟩ = some (.string x.part) ∧
    w.cell? ⟨b, off + i * 9 + 3, none⟩ = some (.int .i64 x.fst) ∧ w.cell? ⟨b, off + i * 9 + 4, none⟩ = some (.int .i64 x.lst) ∧ w.cell? ⟨b, off + i * 9 + 5, none⟩ = some (.int .i64 x.rows) ∧
    w.cell? ⟨b, off + i * 9 + 6, none⟩ = some (.int .i64 x.size) ∧ w.cell? ⟨b, off + i * 9 + 7, none⟩ = some (.int .u32 x.sum) ∧ w.cell? ⟨b, off + i * 9 + 8, none⟩ = some (.int .i64 x.born) := by
  subst hr
  exact ⟨hc i hi 0 _ rfl, hc i hi 1 _ rfl, hc i hi 2 _ rfl, hc i hi 3 _ rfl, hc i hi 4 _ rfl, hc i hi 5 _ rfl, hc i hi 6 _ rfl, hc i hi 7 _ rfl, hc i hi 8 _ rfl⟩
def ecells (l : List EntV) : List Value := l.flatMap EntV.cells
theorem ecells_len (l : List EntV) : (ecells l).length = l.length * 9 := flat_len EntV.cells 9 (fun _ => rfl) l
theorem ecells_app (l m : List EntV) : ecells (l ++ m) = ecells l ++ ecells m := by unfold ecells; simp
theorem ecells_one (x : EntV) : ∀ u ∈ x.cells, u.oneCell' = true := by
  intro u hu
  simp [EntV.cells] at hu
  rcases hu with rfl | rfl | rfl | rfl | rfl | rfl | rfl | rfl | rfl <;> rfl
theorem ecells_all (l : List EntV) : ∀ u ∈ ecells l, u.oneCell' = true := by
  intro u hu
  unfold ecells at hu
  obtain ⟨x, _, hx⟩ := List.mem_flatMap.1 hu
  exact ecells_one x u hx
theorem ent_info : (Try.prog.info? 80).map (fun i => (i.zero, i.size, i.bytes)) = some (some (.agg #[.string ByteArray.empty, .int .i64 0, .string ByteArray.empty, .int .i64 0, .int .i64 0, .int .i64 0, .int .i64 0, .int .u32 0, .int .i64 0]), 9, 88) := by kernel_rfl
theorem ent_src (w : World) (x : EntV) (t : TypeId) : ∀ j u, x.cells[j]? = some u → (w.alloc (.cells #[.string x.key, .int .i64 x.win, .string x.part, .int .i64 x.fst, .int .i64 x.lst, .int .i64 x.rows, .int .i64 x.size, .int .u32 x.sum, .int .i64 x.born] t)).cell? ((⟨w.heap.size, 0, none⟩ : Addr).add j) = some u := by
  intro j u hj
  have hblk := heap_alloc_new w (.cells #[.string x.key, .int .i64 x.win, .string x.part, .int .i64 x.fst, .int .i64 x.lst, .int .i64 x.rows, .int .i64 x.size, .int .u32 x.sum, .int .i64 x.born] t)
  have hadd : (⟨w.heap.size, 0, none⟩ : Addr).add j = ⟨w.heap.size, 0 + j, none⟩ := by unfold Addr.add; split <;> simp_all
  rw [hadd, Nat.zero_add, cell_of_row _ _ _ _ _ (0, 0) hblk, ← hj, EntV.cells, List.getElem?_toArray]
/-- the cells of some entries, from a place on -/
theorem esrc_own {w : World} {base g k cap : Nat} {es : List EntV} (h : w.ownsRow base 80 9 (.slice (some ⟨g, 0, none⟩) k cap) k (ecells es)) : ∀ j u, (ecells es)[j]? = some u → w.cell? ⟨g, j, none⟩ = some u := by
  intro j u hu
  rcases h.2 with ⟨h0, _⟩ | ⟨g', cap', cur, he, hg, hh, hnc, hcap, hsz, htake⟩
  · cases h0
  · cases he
    have hlt := (List.getElem?_eq_some_iff.1 hu).1
    rw [cell_of_row w _ _ _ _ (0, 0) hh, ← hu, ← htake, List.getElem?_take_of_lt (by rw [h.1] at hlt; exact hlt), Array.getElem?_toList]
theorem esrc_take {w : World} {base g k cap m : Nat} {es : List EntV} (h : w.ownsRow base 80 9 (.slice (some ⟨g, 0, none⟩) k cap) k (ecells es)) : ∀ j u, (ecells (es.take m))[j]? = some u → w.cell? ((⟨g, 0, none⟩ : Addr).add j) = some u := by
  intro j u hu
  rw [Addr.add_mid, Nat.zero_add]
  refine esrc_own h j u ?_
  have : ecells es = ecells (es.take m) ++ ecells (es.drop m) := by rw [← ecells_app, List.take_append_drop]
  rw [this, List.getElem?_append_left (List.getElem?_eq_some_iff.1 hu).1, hu]
theorem esrc_drop {w : World} {base g k cap m : Nat} {es : List EntV} (h : w.ownsRow base 80 9 (.slice (some ⟨g, 0, none⟩) k cap) k (ecells es)) (hm : m ≤ es.length) : ∀ j u, (ecells (es.drop m))[j]? = some u → w.cell? ((⟨g, m * 9, none⟩ : Addr).add j) = some u := by
  intro j u hu
  rw [Addr.add_mid]
  refine esrc_own h _ u ?_
  have : ecells es = ecells (es.take m) ++ ecells (es.drop m) := by rw [← ecells_app, List.take_append_drop]
  rw [this, List.getElem?_append_right (by rw [ecells_len, List.length_take]; omega), ecells_len, List.length_take, show m * 9 + j - min m es.length * 9 = j by omega, hu]
def atE (l : List EntV) : Nat → EntV := fun k => l.getD k ent0
/-- what is owned, as the sort wants it -/
theorem enines_own {w : World} {base g n cap : Nat} {l : List EntV} (hl : l.length = n) (h : w.ownsRow base 80 9 (.slice (some ⟨g, 0, none⟩) n cap) n (ecells l)) : Nines w g n (atE l) ∧ base ≤ g ∧ g < w.heap.size ∧ n ≤ cap ∧ cap ≤ 9223372036854775807 := by
  rcases h.2 with ⟨h0, _⟩ | ⟨g', cap', cur, he, hg, hh, hnc, hcap, hsz, htake⟩
  · cases h0
  · cases he
    refine ⟨⟨fun i hi j u hu => ?_, fun i hi j hj => ?_⟩, hg, (Array.getElem?_eq_some_iff.1 hh).1, hnc, by unfold maxLen at hcap; exact hcap⟩
    · have hj : j < 9 := (List.getElem?_eq_some_iff.1 hu).1
      have h2 : (ecells l)[i * 9 + j]? = some u := by
        unfold ecells
        rw [flat_at EntV.cells 9 (fun _ => rfl) ent0 l i j (by omega) hj]; exact hu
      rw [cell_of_row w _ _ _ _ (0, 0) hh, ← h2, ← htake, List.getElem?_take_of_lt (by omega), Array.getElem?_toList]
    · have hlt : i * 9 + j < cur.size := by rw [hsz]; omega
      refine ⟨?_, ?_⟩
      · rw [cell_of_row w _ _ _ _ (0, 0) hh]; simp [hlt]
      · simp [World.frozen?, hh]
end Go.Proofs.Ytpcgjladooijmaa.E
