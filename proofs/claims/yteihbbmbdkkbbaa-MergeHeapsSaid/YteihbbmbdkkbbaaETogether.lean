/- merge.together, walked. -/
import Derived.Deep.MidRow
import Derived.Test.YteihbbmbdkkbbaaEAhead
namespace Go.Proofs.Yteihbbmbdkkbbaa
open Go.ChangeShapes Go.WideShapes Go.Deep Go.RowKit LabPlain Stab
set_option linter.unusedVariables false

theorem info_str : (Try.prog.info? 9).map (fun i => (i.zero, i.size, i.bytes)) = some (some (.string ByteArray.empty), 1, 16) := by kernel_rfl
theorem one_srcE (w : World) (x : Value) (t : TypeId) : ∀ j u, [x][j]? = some u → (w.alloc (.cells #[x] t)).cell? ((⟨w.heap.size, 0, none⟩ : Addr).add j) = some u := by
  intro j u hj
  have hblk := heap_alloc_new w (.cells #[x] t)
  rw [Addr.add_mid, Nat.zero_add, cell_of_row _ _ _ _ _ (0, 0) hblk, ← hj, List.getElem?_toArray]
def strs (l : List ByteArray) : List Value := l.map Value.string
theorem strs_app (l : List ByteArray) (x : ByteArray) : strs (l ++ [x]) = strs l ++ [.string x] := by unfold strs; simp
theorem box_cellE {w w2 : World} {cs : Array Value} {t : TypeId} (hb : Below (w.alloc (.cells cs t)).heap.size (w.alloc (.cells cs t)) w2) {i : Nat} {v : Value} (h : cs[i]? = some v) : w2.cell? ⟨w.heap.size, i, none⟩ = some v := by
  have hblk := heap_alloc_new w (.cells cs t)
  have hlt : w.heap.size < (w.alloc (.cells cs t)).heap.size := (Array.getElem?_eq_some_iff.1 hblk).1
  rw [hb.cell (p := ⟨w.heap.size, i, none⟩) hlt, cell_of_row _ _ _ _ _ (0, 0) hblk]
  exact h
theorem drop_at {l : List EntV} {k : Nat} (h : k < l.length) : l.drop k = l.getD k ent0 :: l.drop (k + 1) := by
  rw [List.drop_eq_getElem_cons h]
  congr 1
  simp [h]

set_option maxRecDepth 100000 in
set_option maxHeartbeats 4000000 in
theorem together_any {w : World} {b off m c : Nat} {f : EntV} {rest : List EntV} {most : Int} (h : ∀ i, i < m + 1 → ∀ j u, ((f :: rest).getD i ent0).cells[j]? = some u → w.cell? ⟨b, off + i * 9 + j, none⟩ = some u) (hb : b < w.heap.size) (hl : rest.length = m) (hnc : m + 1 ≤ c) (hcm : c ≤ 9223372036854775807) (hn : m ≤ 1000) (hm : 0 ≤ most ∧ most ≤ 1099511627776) (hr : ∀ x ∈ f :: rest, 1 ≤ x.rows ∧ x.rows ≤ 1099511627776) :
    Calls Try.prog 43 #[.slice (some ⟨b, off, none⟩) (m + 1) c, .int .i64 most] w fun e w' => ∃ v, e = .returned v ∧ w'.ownsRow w.heap.size 9 1 v (f.key :: tog f most f.rows rest).length (strs (f.key :: tog f most f.rows rest)) ∧ Below w.heap.size w w' := by
  obtain ⟨i0, hi, hz0, hz1, hz2⟩ := info_parts info_str
  obtain ⟨w1, hw1⟩ : ∃ w1, w1 = w.alloc (.cells #[.string f.key, .int .i64 f.win, .string f.part, .int .i64 f.fst, .int .i64 f.lst, .int .i64 f.rows, .int .i64 f.size, .int .u32 f.sum, .int .i64 f.born] 57) := ⟨_, rfl⟩
  have s1 : w1.heap.size = w.heap.size + 1 := by rw [hw1]; exact Array.size_push _
  have hb1 : Below w.heap.size w w1 := by rw [hw1]; exact (Below.refl _ _).alloc (Nat.le_refl _) _
  have hlit : (w1.alloc (.cells #[.string f.key] 9)).ownsRow w1.heap.size 9 1 (.slice (some ⟨w1.heap.size, 0, none⟩) 1 1) 1 (strs [f.key]) := World.ownsRow_lit (base := w1.heap.size) (e := 9) (size := 1) w1 #[.string f.key] 1 (Nat.le_refl _) (by unfold maxLen; omega) rfl
  rw [s1] at hlit
  have hb2 : Below w1.heap.size w1 (w1.alloc (.cells #[.string f.key] 9)) := (Below.refl _ _).alloc (Nat.le_refl _) _
  have hf5 : ∀ wr, Below w1.heap.size w1 wr → ∀ j u, f.cells[j]? = some u → wr.cell? ⟨w.heap.size, j, none⟩ = some u := by
    intro wr hbr j u hu
    rw [hw1] at hbr
    exact box_cellE hbr (by rw [EntV.cells] at hu; rw [← hu, List.getElem?_toArray])
  have hff := hr f (by simp)
  have d0 : w.cell? ⟨b, off, none⟩ = some (.string f.key) := by have := h 0 (by omega) 0 _ rfl; simpa using this
  have d1 : w.cell? ⟨b, off + 1, none⟩ = some (.int .i64 f.win) := by have := h 0 (by omega) 1 _ rfl; simpa using this
  have d2 : w.cell? ⟨b, off + 2, none⟩ = some (.string f.part) := by have := h 0 (by omega) 2 _ rfl; simpa using this
  have d3 : w.cell? ⟨b, off + 3, none⟩ = some (.int .i64 f.fst) := by have := h 0 (by omega) 3 _ rfl; simpa using this
  have d4 : w.cell? ⟨b, off + 4, none⟩ = some (.int .i64 f.lst) := by have := h 0 (by omega) 4 _ rfl; simpa using this
  have d5 : w.cell? ⟨b, off + 5, none⟩ = some (.int .i64 f.rows) := by have := h 0 (by omega) 5 _ rfl; simpa using this
  have d6 : w.cell? ⟨b, off + 6, none⟩ = some (.int .i64 f.size) := by have := h 0 (by omega) 6 _ rfl; simpa using this
  have d7 : w.cell? ⟨b, off + 7, none⟩ = some (.int .u32 f.sum) := by have := h 0 (by omega) 7 _ rfl; simpa using this
  have d8 : w.cell? ⟨b, off + 8, none⟩ = some (.int .i64 f.born) := by have := h 0 (by omega) 8 _ rfl; simpa using this
  have HH := Lib.hid h
  have HL := Lib.hid hl
  have HW1 := Lib.hid hw1
  have HS1 := Lib.hid s1
  have HB1 := Lib.hid hb1
  have HLIT := Lib.hid hlit
  have HF5 := Lib.hid hf5
  have HR := Lib.hid hr
  have HBB := Lib.hid hb
  have HB2 := Lib.hid hb2
  clear h hw1 hb1 hlit hf5 hr hb2 hl hb s1
  by_cases hc1 : c = 1
  · have hm0 : m ≤ 0 := by omega
    go_enter Try.func43, Try.ntmps43
    go_wp2_with fail
    rw [← HW1.out]
    go_loopw [6, 7, 9, 10, 11, 23] (fun s6 s7 s9 s10 s11 s23 wr => ∃ (k : Nat) (r : Int) (ks : List ByteArray), k ≤ m ∧ (1 ≤ r ∧ r ≤ 1099511627776) ∧ s7 = .int .i64 r ∧ s23 = .int .i64 (k : Int) ∧ ks.length ≤ k + 1 ∧ Hid (wr.ownsRow (w.heap.size + 1) 9 1 s6 ks.length (strs ks)) ∧ Hid (f.key :: tog f most f.rows rest = ks ++ tog f most r (rest.drop k)) ∧ Hid (Below w1.heap.size w1 wr)) (fun _ _ _ _ _ s23 _ => m - (intOf s23).toNat)
    case atStart => exact ⟨0, f.rows, [f.key], by omega, ⟨hff.1, by omega⟩, rfl, rfl, by simp, HLIT, Lib.hid rfl, HB2⟩
    case round =>
      obtain ⟨k, r, ks, hk, hrr, rfl, rfl, hks, HO, HT, HB⟩ := hrel
      rename World => wr
      have hkm : ¬ (k : Int) < (m : Int) := by omega
      have hk0 : (0 : Int) ≤ (k : Int) := by omega
      have HE := Lib.hid (show tog f most r (rest.drop k) = [] from by rw [List.drop_eq_nil_of_le (by rw [HL.out]; omega)]; rfl)
      go_wp2_with fail
      go_ret
      refine ⟨_, rfl, ?_, HB1.out.trans (HB.out.mono HB1.out.size)⟩
      have h := (HO.out).mono (base' := w.heap.size) (Nat.le_succ _)
      rw [show ks = f.key :: tog f most f.rows rest from by rw [HT.out, HE.out, List.append_nil]] at h
      exact h
  · go_enter Try.func43, Try.ntmps43
    go_wp2_with fail
    rw [← HW1.out]
    go_loopw [6, 7, 9, 10, 11, 23] (fun s6 s7 s9 s10 s11 s23 wr => ∃ (k : Nat) (r : Int) (ks : List ByteArray), k ≤ m ∧ (1 ≤ r ∧ r ≤ 1099511627776) ∧ s7 = .int .i64 r ∧ s23 = .int .i64 (k : Int) ∧ ks.length ≤ k + 1 ∧ Hid (wr.ownsRow (w.heap.size + 1) 9 1 s6 ks.length (strs ks)) ∧ Hid (f.key :: tog f most f.rows rest = ks ++ tog f most r (rest.drop k)) ∧ Hid (Below w1.heap.size w1 wr)) (fun _ _ _ _ _ s23 _ => m - (intOf s23).toNat)
    case atStart => exact ⟨0, f.rows, [f.key], by omega, ⟨hff.1, by omega⟩, rfl, rfl, by simp, HLIT, Lib.hid rfl, HB2⟩
    case round =>
      obtain ⟨k, r, ks, hk, hrr, rfl, rfl, hks, HO, HT, HB⟩ := hrel
      rename World => wr
      by_cases hkm : k < m
      · have hkmi : (k : Int) < (m : Int) := by omega
        obtain ⟨x, hx⟩ : ∃ x, x = rest.getD k ent0 := ⟨_, rfl⟩
        have hdrop := drop_at (l := rest) (k := k) (by rw [HL.out]; exact hkm)
        rw [← hx] at hdrop
        have hxr := HR.out x (by rw [hx]; exact List.mem_cons_of_mem _ (by have : rest.getD k ent0 = rest[k]'(by rw [HL.out]; exact hkm) := by simp [HL.out, hkm]
                                                                           rw [this]; exact List.getElem_mem _))
        have y0 : wr.cell? ⟨b, off + 9 + k * 9, none⟩ = some (.string x.key) := by have h1 := (HB1.out.trans (HB.out.mono HB1.out.size)).cell (p := ⟨b, off + (k + 1) * 9 + 0, none⟩) HBB.out; have h2 := HH.out (k + 1) (by omega) 0 _ (show ((f :: rest).getD (k + 1) ent0).cells[0]? = some (.string x.key) from by rw [show (f :: rest).getD (k + 1) ent0 = x from hx.symm]; rfl); rw [← h1, show off + (k + 1) * 9 + 0 = off + 9 + k * 9 by omega] at h2; exact h2
        have y1 : wr.cell? ⟨b, off + 9 + k * 9 + 1, none⟩ = some (.int .i64 x.win) := by have h1 := (HB1.out.trans (HB.out.mono HB1.out.size)).cell (p := ⟨b, off + (k + 1) * 9 + 1, none⟩) HBB.out; have h2 := HH.out (k + 1) (by omega) 1 _ (show ((f :: rest).getD (k + 1) ent0).cells[1]? = some (.int .i64 x.win) from by rw [show (f :: rest).getD (k + 1) ent0 = x from hx.symm]; rfl); rw [← h1, show off + (k + 1) * 9 + 1 = off + 9 + k * 9 + 1 by omega] at h2; exact h2
        have y2 : wr.cell? ⟨b, off + 9 + k * 9 + 2, none⟩ = some (.string x.part) := by have h1 := (HB1.out.trans (HB.out.mono HB1.out.size)).cell (p := ⟨b, off + (k + 1) * 9 + 2, none⟩) HBB.out; have h2 := HH.out (k + 1) (by omega) 2 _ (show ((f :: rest).getD (k + 1) ent0).cells[2]? = some (.string x.part) from by rw [show (f :: rest).getD (k + 1) ent0 = x from hx.symm]; rfl); rw [← h1, show off + (k + 1) * 9 + 2 = off + 9 + k * 9 + 2 by omega] at h2; exact h2
        have y3 : wr.cell? ⟨b, off + 9 + k * 9 + 3, none⟩ = some (.int .i64 x.fst) := by have h1 := (HB1.out.trans (HB.out.mono HB1.out.size)).cell (p := ⟨b, off + (k + 1) * 9 + 3, none⟩) HBB.out; have h2 := HH.out (k + 1) (by omega) 3 _ (show ((f :: rest).getD (k + 1) ent0).cells[3]? = some (.int .i64 x.fst) from by rw [show (f :: rest).getD (k + 1) ent0 = x from hx.symm]; rfl); rw [← h1, show off + (k + 1) * 9 + 3 = off + 9 + k * 9 + 3 by omega] at h2; exact h2
        have y4 : wr.cell? ⟨b, off + 9 + k * 9 + 4, none⟩ = some (.int .i64 x.lst) := by have h1 := (HB1.out.trans (HB.out.mono HB1.out.size)).cell (p := ⟨b, off + (k + 1) * 9 + 4, none⟩) HBB.out; have h2 := HH.out (k + 1) (by omega) 4 _ (show ((f :: rest).getD (k + 1) ent0).cells[4]? = some (.int .i64 x.lst) from by rw [show (f :: rest).getD (k + 1) ent0 = x from hx.symm]; rfl); rw [← h1, show off + (k + 1) * 9 + 4 = off + 9 + k * 9 + 4 by omega] at h2; exact h2
        have y5 : wr.cell? ⟨b, off + 9 + k * 9 + 5, none⟩ = some (.int .i64 x.rows) := by have h1 := (HB1.out.trans (HB.out.mono HB1.out.size)).cell (p := ⟨b, off + (k + 1) * 9 + 5, none⟩) HBB.out; have h2 := HH.out (k + 1) (by omega) 5 _ (show ((f :: rest).getD (k + 1) ent0).cells[5]? = some (.int .i64 x.rows) from by rw [show (f :: rest).getD (k + 1) ent0 = x from hx.symm]; rfl); rw [← h1, show off + (k + 1) * 9 + 5 = off + 9 + k * 9 + 5 by omega] at h2; exact h2
        have y6 : wr.cell? ⟨b, off + 9 + k * 9 + 6, none⟩ = some (.int .i64 x.size) := by have h1 := (HB1.out.trans (HB.out.mono HB1.out.size)).cell (p := ⟨b, off + (k + 1) * 9 + 6, none⟩) HBB.out; have h2 := HH.out (k + 1) (by omega) 6 _ (show ((f :: rest).getD (k + 1) ent0).cells[6]? = some (.int .i64 x.size) from by rw [show (f :: rest).getD (k + 1) ent0 = x from hx.symm]; rfl); rw [← h1, show off + (k + 1) * 9 + 6 = off + 9 + k * 9 + 6 by omega] at h2; exact h2
        have y7 : wr.cell? ⟨b, off + 9 + k * 9 + 7, none⟩ = some (.int .u32 x.sum) := by have h1 := (HB1.out.trans (HB.out.mono HB1.out.size)).cell (p := ⟨b, off + (k + 1) * 9 + 7, none⟩) HBB.out; have h2 := HH.out (k + 1) (by omega) 7 _ (show ((f :: rest).getD (k + 1) ent0).cells[7]? = some (.int .u32 x.sum) from by rw [show (f :: rest).getD (k + 1) ent0 = x from hx.symm]; rfl); rw [← h1, show off + (k + 1) * 9 + 7 = off + 9 + k * 9 + 7 by omega] at h2; exact h2
        have y8 : wr.cell? ⟨b, off + 9 + k * 9 + 8, none⟩ = some (.int .i64 x.born) := by have h1 := (HB1.out.trans (HB.out.mono HB1.out.size)).cell (p := ⟨b, off + (k + 1) * 9 + 8, none⟩) HBB.out; have h2 := HH.out (k + 1) (by omega) 8 _ (show ((f :: rest).getD (k + 1) ent0).cells[8]? = some (.int .i64 x.born) from by rw [show (f :: rest).getD (k + 1) ent0 = x from hx.symm]; rfl); rw [← h1, show off + (k + 1) * 9 + 8 = off + 9 + k * 9 + 8 by omega] at h2; exact h2
        have HDROP := Lib.hid hdrop
        clear hx hdrop
        have HBX := Lib.hid (HB.out.alloc HB.out.size (.cells #[.string x.key, .int .i64 x.win, .string x.part, .int .i64 x.fst, .int .i64 x.lst, .int .i64 x.rows, .int .i64 x.size, .int .u32 x.sum, .int .i64 x.born] 57))
        have e1 := HF5.out _ HBX.out 1 _ rfl
        have e2 := HF5.out _ HBX.out 2 _ rfl
        by_cases h1 : x.win = f.win
        case neg =>
          have z1 : (x.win != f.win) = true := by rw [bne_iff_ne]; exact h1
          have HE := Lib.hid (show tog f most r (rest.drop k) = [] from by rw [HDROP.out, tog, if_pos (.inl h1)])
          clear h1
          go_wp2_with fail
          go_ret
          refine ⟨_, rfl, ?_, HB1.out.trans (HBX.out.mono HB1.out.size)⟩
          have h := (own_below HO.out ((Below.refl _ _).alloc (Nat.le_refl _) (.cells #[.string x.key, .int .i64 x.win, .string x.part, .int .i64 x.fst, .int .i64 x.lst, .int .i64 x.rows, .int .i64 x.size, .int .u32 x.sum, .int .i64 x.born] 57))).mono (base' := w.heap.size) (Nat.le_succ _)
          rw [show ks = f.key :: tog f most f.rows rest from by rw [HT.out, HE.out, List.append_nil]] at h
          exact h
        case pos =>
          have z1 : (x.win != f.win) = false := by rw [h1]; simp
          by_cases h2 : x.part = f.part
          case neg =>
            have z2 : (x.part.toList == f.part.toList) = false := by rw [beq_eq_false_iff_ne]; exact fun e => h2 (toList_inj e)
            have HE := Lib.hid (show tog f most r (rest.drop k) = [] from by rw [HDROP.out, tog, if_pos (.inr h2)])
            clear h1 h2
            go_wp2_with fail
            go_ret
            refine ⟨_, rfl, ?_, HB1.out.trans (HBX.out.mono HB1.out.size)⟩
            have h := (own_below HO.out ((Below.refl _ _).alloc (Nat.le_refl _) (.cells #[.string x.key, .int .i64 x.win, .string x.part, .int .i64 x.fst, .int .i64 x.lst, .int .i64 x.rows, .int .i64 x.size, .int .u32 x.sum, .int .i64 x.born] 57))).mono (base' := w.heap.size) (Nat.le_succ _)
            rw [show ks = f.key :: tog f most f.rows rest from by rw [HT.out, HE.out, List.append_nil]] at h
            exact h
          case pos =>
            have z2 : (x.part.toList == f.part.toList) = true := by rw [h2]; simp
            have HNO := Lib.hid (show ¬ (x.win ≠ f.win ∨ x.part ≠ f.part) from fun e => by rcases e with g | g; exact g h1; exact g h2)
            clear h1 h2
            go_wp2_with fail
            refine (plus_any (a := r) (b := x.rows) (most := most) ⟨hrr.1, by omega⟩ ⟨hxr.1, by omega⟩ _).mono ?_
            rintro e w3 ⟨rfl, hb3⟩
            have xk : w3.cell? ⟨wr.heap.size, 0, none⟩ = some (.string x.key) := box_cellE hb3 rfl
            have HB3 := Lib.hid (HBX.out.trans (hb3.mono HBX.out.size))
            have HO3 := Lib.hid (own_below (own_below HO.out ((Below.refl _ _).alloc (Nat.le_refl _) (.cells #[.string x.key, .int .i64 x.win, .string x.part, .int .i64 x.fst, .int .i64 x.lst, .int .i64 x.rows, .int .i64 x.size, .int .u32 x.sum, .int .i64 x.born] 57))) hb3)
            clear hb3
            by_cases hs : r + x.rows ≤ most
            · have q1 : decide (r + x.rows ≤ most) = true := decide_eq_true hs
              have hb4 : Below w3.heap.size w3 (w3.alloc (.cells #[.string x.key] 9)) := (Below.refl _ _).alloc (Nat.le_refl _) _
              have HO4 := Lib.hid (own_below HO3.out hb4)
              have HB4 := Lib.hid (HB3.out.trans (hb4.mono HB3.out.size))
              have hs4 : w.heap.size + 1 ≤ (w3.alloc (.cells #[.string x.key] 9)).heap.size := by have h4 := HB4.out.size; have h5 := HS1.out; omega
              have HSRC := Lib.hid (one_srcE w3 (.string x.key) 9)
              clear hb4
              go_wp2_with (at_builtin; refine wpList_append_own_at _ rfl (.tmp 49) (.tmp 52) 53 rfl (w.heap.size + 1) 9 i0 _ 1 16 Try.underlying53 hi hz0 hz1 hz2 rfl (by decide) _ _ _ rfl HO4.out ⟨w3.heap.size, 0, none⟩ 1 1 [.string x.key] rfl rfl HSRC.out (by intro u hu; rw [List.mem_singleton] at hu; rw [hu]; rfl) (by unfold maxLen; omega) (by omega) hs4 ?_)
              intro v5 w5 hown5 hgrow5 _ _
              have HO5 := Lib.hid (show w5.ownsRow (w.heap.size + 1) 9 1 v5 (ks ++ [x.key]).length (strs (ks ++ [x.key])) from by rw [strs_app, List.length_append]; exact hown5)
              have HB5 := Lib.hid (HB4.out.grown hgrow5 HB4.out.size (fun q hq => by have h4 := (HO4.out.lt q hq).1; have h5 := HS1.out; omega))
              have HT5 := Lib.hid (show f.key :: tog f most f.rows rest = (ks ++ [x.key]) ++ tog f most (r + x.rows) (rest.drop (k + 1)) from by
                rw [HT.out, HDROP.out, tog, if_neg HNO.out, if_pos hs, List.append_assoc]; rfl)
              have hlen5 : (ks ++ [x.key]).length ≤ k + 1 + 1 := by rw [List.length_append, List.length_singleton]; omega
              clear hown5 hgrow5
              go_wp2_with fail
              go_roundw
              case rel => exact ⟨k + 1, r + x.rows, ks ++ [x.key], by omega, ⟨by omega, by omega⟩, rfl, by go_num, hlen5, HO5, HT5, HB5⟩
              case measure => simp [intOf]; omega
            · have q1 : decide (r + x.rows ≤ most) = false := decide_eq_false hs
              have HT5 := Lib.hid (show f.key :: tog f most f.rows rest = ks ++ tog f most r (rest.drop (k + 1)) from by
                rw [HT.out, HDROP.out, tog, if_neg HNO.out, if_neg hs])
              go_wp2_with fail
              go_roundw
              case rel => exact ⟨k + 1, r, ks, by omega, hrr, rfl, by go_num, by omega, HO3, HT5, HB3⟩
              case measure => simp [intOf]; omega
      · have hkmi : ¬ (k : Int) < (m : Int) := by omega
        have HE := Lib.hid (show tog f most r (rest.drop k) = [] from by rw [List.drop_eq_nil_of_le (by rw [HL.out]; omega)]; rfl)
        go_wp2_with fail
        go_ret
        refine ⟨_, rfl, ?_, HB1.out.trans (HB.out.mono HB1.out.size)⟩
        have h := (HO.out).mono (base' := w.heap.size) (Nat.le_succ _)
        rw [show ks = f.key :: tog f most f.rows rest from by rw [HT.out, HE.out, List.append_nil]] at h
        exact h
end Go.Proofs.Yteihbbmbdkkbbaa
