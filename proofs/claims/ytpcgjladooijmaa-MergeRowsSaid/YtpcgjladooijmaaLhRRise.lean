/- The document's Rising, walked. Written by genlhrise.py. -/
import Derived.Test.YtpcgjladooijmaaLhRise
namespace Go.Proofs.Ytpcgjladooijmaa
open Go.ChangeShapes Go.WideShapes Go.Deep Go.RowKit LabPlain RecPlain
set_option linter.unusedVariables false

def RrsF (b off n c k m : Nat) (r s : RowV) : Nat → Value → Prop
  | 0, v => v = .slice (some ⟨b, off, none⟩) n c
  | 1, v => v = .int .i64 (m : Int)
  | 2, v => v = .int .i64 (k : Int)
  | 3, v => v = .pointer (some ⟨b, off + k * 9, none⟩)
  | 4, v => v = .agg #[.int .i64 r.r.kind, .int .i64 r.r.time, .slice r.r.la r.r.ln r.r.lc, .string r.r.text, .int .i64 r.r.value, .bool r.r.null, .int .i64 r.who, .int .i64 r.sq, .int .i64 r.pl]
  | 5, v => v = .slice (some ⟨b, off, none⟩) n c
  | 6, v => v = .int .i64 (m : Int)
  | 7, v => v = .pointer (some ⟨b, off + m * 9, none⟩)
  | 8, v => v = .agg #[.int .i64 s.r.kind, .int .i64 s.r.time, .slice s.r.la s.r.ln s.r.lc, .string s.r.text, .int .i64 s.r.value, .bool s.r.null, .int .i64 s.who, .int .i64 s.sq, .int .i64 s.pl]
  | 9, v => v = .int .i64 (cmpRow r s)
  | 10, v => v = .bool (decide (0 ≤ cmpRow r s))
  | _ + 11, _ => True
set_option maxRecDepth 100000 in
set_option maxHeartbeats 4000000 in
theorem rrising_any {w : World} {a : Option Addr} {n c : Nat} {l : List RowV} (h : RowsAt w a n c l) (hn : n ≤ 1000000000) :
    Calls Try.prog 43 #[.slice a n c] w fun e w' => e = .returned (.bool (rises l)) ∧ Below w.heap.size w w' := by
  have HA := Lib.hid h
  have HL := Lib.hid h.len
  clear h
  go_enter Try.func43, Try.ntmps43
  go_wp2_with fail
  go_loopw [3] (fun s3 wr => ∃ m : Nat, 1 ≤ m ∧ (m = 1 ∨ m ≤ n) ∧ s3 = .int .i64 (m : Int) ∧ Hid (∀ k, k + 1 < m → cmpRow (l.getD k row0) (l.getD (k + 1) row0) < 0) ∧ Hid (Below w.heap.size w wr)) (fun s3 _ => n - (intOf s3).toNat)
  case atStart => exact ⟨1, by omega, .inl rfl, rfl, Lib.hid (fun k hk => by omega), Lib.hid (Below.refl _ _)⟩
  case round =>
    obtain ⟨m, hm1, hmn, rfl, HK, HB⟩ := hrel
    rename World => wr
    by_cases hlt : m < n
    case neg =>
      have zm : ¬ (m : Int) < (n : Int) := by omega
      have HT := Lib.hid (show rises l = true from rises_all (fun k hk => HK.out k (by have := HL.out; omega)))
      go_wp2_with fail
      go_ret
      rw [HT.out]
      exact ⟨rfl, HB.out⟩
    case pos =>
      obtain ⟨k, hk⟩ : ∃ k, m = k + 1 := ⟨m - 1, by omega⟩
      have zm : (m : Int) < (n : Int) := by omega
      have zm0 : (0 : Int) ≤ (m : Int) := by omega
      have zk0 : (0 : Int) ≤ (k : Int) := by omega
      have zk : (k : Int) < (n : Int) := by omega
      have wk : IntKind.i64.wrap ((m : Int) - 1) = (k : Int) := by rw [IntWalk.i64_in _ (by omega)]; omega
      have wm : IntKind.i64.wrap ((m : Int) + 1) = (m : Int) + 1 := IntWalk.i64_in _ (by omega)
      obtain ⟨b, off, rfl, hbl, hcl⟩ := (HA.out.kept HB.out).cells (by omega)
      obtain ⟨r, hr⟩ : ∃ r, r = l.getD k row0 := ⟨_, rfl⟩
      obtain ⟨s, hs⟩ : ∃ s, s = l.getD m row0 := ⟨_, rfl⟩
      have hcx9 := RowsAt.nine hcl (show k < n by omega) hr
      have hcy9 := RowsAt.nine hcl hlt hs
      have HCX := Lib.hid (show b < wr.heap.size ∧ wr.cell? ⟨b, off + k * 9, none⟩ = some (.int .i64 r.r.kind) ∧ wr.cell? ⟨b, off + k * 9 + 1, none⟩ = some (.int .i64 r.r.time) ∧ wr.cell? ⟨b, off + k * 9 + 2, none⟩ = some (.slice r.r.la r.r.ln r.r.lc) ∧ wr.cell? ⟨b, off + k * 9 + 3, none⟩ = some (.string r.r.text) ∧ wr.cell? ⟨b, off + k * 9 + 4, none⟩ = some (.int .i64 r.r.value) ∧ wr.cell? ⟨b, off + k * 9 + 5, none⟩ = some (.bool r.r.null) ∧ wr.cell? ⟨b, off + k * 9 + 6, none⟩ = some (.int .i64 r.who) ∧ wr.cell? ⟨b, off + k * 9 + 7, none⟩ = some (.int .i64 r.sq) ∧ wr.cell? ⟨b, off + k * 9 + 8, none⟩ = some (.int .i64 r.pl) from ⟨hbl, hcx9⟩)
      have HCY := Lib.hid (show b < wr.heap.size ∧ wr.cell? ⟨b, off + m * 9, none⟩ = some (.int .i64 s.r.kind) ∧ wr.cell? ⟨b, off + m * 9 + 1, none⟩ = some (.int .i64 s.r.time) ∧ wr.cell? ⟨b, off + m * 9 + 2, none⟩ = some (.slice s.r.la s.r.ln s.r.lc) ∧ wr.cell? ⟨b, off + m * 9 + 3, none⟩ = some (.string s.r.text) ∧ wr.cell? ⟨b, off + m * 9 + 4, none⟩ = some (.int .i64 s.r.value) ∧ wr.cell? ⟨b, off + m * 9 + 5, none⟩ = some (.bool s.r.null) ∧ wr.cell? ⟨b, off + m * 9 + 6, none⟩ = some (.int .i64 s.who) ∧ wr.cell? ⟨b, off + m * 9 + 7, none⟩ = some (.int .i64 s.sq) ∧ wr.cell? ⟨b, off + m * 9 + 8, none⟩ = some (.int .i64 s.pl) from ⟨hbl, hcy9⟩)
      have HRS := Lib.hid (And.intro hr hs)
      have HKM := Lib.hid hk
      clear hcl hcx9 hcy9 hr hs hk hbl
      go_wp2_with fail
      refine wp_region_fill (by kernel_rfl) (by kernel_rfl) (by kernel_rfl) (fun w' => Below wr.heap.size wr w') (fun j v _ => RrsF b off n c k m r s j v) (Below.drew (Below.refl _ _)) ?_ ?_
      · intro j o ho V w7 K hJ hdep hK
        have HJ := Lib.hid hJ
        have hin : j < 11 := (Array.getElem?_eq_some_iff.1 ho).1
        have hcs : j = 0 ∨ j = 1 ∨ j = 2 ∨ j = 3 ∨ j = 4 ∨ j = 5 ∨ j = 6 ∨ j = 7 ∨ j = 8 ∨ j = 9 ∨ j = 10 := by omega
        clear hin
        rcases hcs with rfl | rfl | rfl | rfl | rfl | rfl | rfl | rfl | rfl | rfl | rfl
        · obtain rfl := Option.some.inj ho.symm
          clear hdep ho hJ
          simp only [fill, slotOf, List.size_toArray, List.length_cons, List.length_nil, Nat.reduceAdd, List.getElem?_toArray, List.getElem?_cons_zero, List.getElem?_cons_succ, Option.bind_some, Act.put, List.setIfInBounds_toArray, List.set_cons_zero, List.set_cons_succ] at hK ⊢
          go_simp
          exact hK (.slice (some ⟨b, off, none⟩) n c) _ HJ.out rfl (fun j y h => h) _ rfl
        · obtain rfl := Option.some.inj ho.symm
          clear hdep ho hJ
          simp only [fill, slotOf, List.size_toArray, List.length_cons, List.length_nil, Nat.reduceAdd, List.getElem?_toArray, List.getElem?_cons_zero, List.getElem?_cons_succ, Option.bind_some, Act.put, List.setIfInBounds_toArray, List.set_cons_zero, List.set_cons_succ] at hK ⊢
          go_simp
          exact hK (.int .i64 (m : Int)) _ HJ.out rfl (fun j y h => h) _ rfl
        · obtain rfl := Option.some.inj ho.symm
          have d1 : V 1 = .int .i64 (m : Int) := hdep ⟨1, .data⟩ (by simp) rfl
          clear hdep ho hJ
          simp only [fill, slotOf, List.size_toArray, List.length_cons, List.length_nil, Nat.reduceAdd, List.getElem?_toArray, List.getElem?_cons_zero, List.getElem?_cons_succ, Option.bind_some, Act.put, List.setIfInBounds_toArray, List.set_cons_zero, List.set_cons_succ] at hK ⊢
          rw [d1] at hK ⊢
          go_simp
          exact hK (.int .i64 (k : Int)) _ HJ.out rfl (fun j y h => h) _ rfl
        · obtain rfl := Option.some.inj ho.symm
          have d0 : V 0 = .slice (some ⟨b, off, none⟩) n c := hdep ⟨0, .data⟩ (by simp) rfl
          have d2 : V 2 = .int .i64 (k : Int) := hdep ⟨2, .data⟩ (by simp) rfl
          clear hdep ho hJ
          simp only [fill, slotOf, List.size_toArray, List.length_cons, List.length_nil, Nat.reduceAdd, List.getElem?_toArray, List.getElem?_cons_zero, List.getElem?_cons_succ, Option.bind_some, Act.put, List.setIfInBounds_toArray, List.set_cons_zero, List.set_cons_succ] at hK ⊢
          rw [d0, d2] at hK ⊢
          go_simp
          exact hK (.pointer (some ⟨b, off + k * 9, none⟩)) _ HJ.out rfl (fun j y h => h) _ rfl
        · obtain rfl := Option.some.inj ho.symm
          have d3 : V 3 = .pointer (some ⟨b, off + k * 9, none⟩) := hdep ⟨3, .data⟩ (by simp) rfl
          have cc0 := (HJ.out.cell (p := ⟨b, off + k * 9, none⟩) HCX.out.1).trans HCX.out.2.1
          have cc1 := (HJ.out.cell (p := ⟨b, off + k * 9 + 1, none⟩) HCX.out.1).trans HCX.out.2.2.1
          have cc2 := (HJ.out.cell (p := ⟨b, off + k * 9 + 2, none⟩) HCX.out.1).trans HCX.out.2.2.2.1
          have cc3 := (HJ.out.cell (p := ⟨b, off + k * 9 + 3, none⟩) HCX.out.1).trans HCX.out.2.2.2.2.1
          have cc4 := (HJ.out.cell (p := ⟨b, off + k * 9 + 4, none⟩) HCX.out.1).trans HCX.out.2.2.2.2.2.1
          have cc5 := (HJ.out.cell (p := ⟨b, off + k * 9 + 5, none⟩) HCX.out.1).trans HCX.out.2.2.2.2.2.2.1
          have cc6 := (HJ.out.cell (p := ⟨b, off + k * 9 + 6, none⟩) HCX.out.1).trans HCX.out.2.2.2.2.2.2.2.1
          have cc7 := (HJ.out.cell (p := ⟨b, off + k * 9 + 7, none⟩) HCX.out.1).trans HCX.out.2.2.2.2.2.2.2.2.1
          have cc8 := (HJ.out.cell (p := ⟨b, off + k * 9 + 8, none⟩) HCX.out.1).trans HCX.out.2.2.2.2.2.2.2.2.2
          clear hdep ho hJ
          simp only [fill, slotOf, List.size_toArray, List.length_cons, List.length_nil, Nat.reduceAdd, List.getElem?_toArray, List.getElem?_cons_zero, List.getElem?_cons_succ, Option.bind_some, Act.put, List.setIfInBounds_toArray, List.set_cons_zero, List.set_cons_succ] at hK ⊢
          rw [d3] at hK ⊢
          go_simp
          exact hK (.agg #[.int .i64 r.r.kind, .int .i64 r.r.time, .slice r.r.la r.r.ln r.r.lc, .string r.r.text, .int .i64 r.r.value, .bool r.r.null, .int .i64 r.who, .int .i64 r.sq, .int .i64 r.pl]) _ HJ.out rfl (fun j y h => h) _ rfl
        · obtain rfl := Option.some.inj ho.symm
          clear hdep ho hJ
          simp only [fill, slotOf, List.size_toArray, List.length_cons, List.length_nil, Nat.reduceAdd, List.getElem?_toArray, List.getElem?_cons_zero, List.getElem?_cons_succ, Option.bind_some, Act.put, List.setIfInBounds_toArray, List.set_cons_zero, List.set_cons_succ] at hK ⊢
          go_simp
          exact hK (.slice (some ⟨b, off, none⟩) n c) _ HJ.out rfl (fun j y h => h) _ rfl
        · obtain rfl := Option.some.inj ho.symm
          clear hdep ho hJ
          simp only [fill, slotOf, List.size_toArray, List.length_cons, List.length_nil, Nat.reduceAdd, List.getElem?_toArray, List.getElem?_cons_zero, List.getElem?_cons_succ, Option.bind_some, Act.put, List.setIfInBounds_toArray, List.set_cons_zero, List.set_cons_succ] at hK ⊢
          go_simp
          exact hK (.int .i64 (m : Int)) _ HJ.out rfl (fun j y h => h) _ rfl
        · obtain rfl := Option.some.inj ho.symm
          have d5 : V 5 = .slice (some ⟨b, off, none⟩) n c := hdep ⟨5, .data⟩ (by simp) rfl
          have d6 : V 6 = .int .i64 (m : Int) := hdep ⟨6, .data⟩ (by simp) rfl
          clear hdep ho hJ
          simp only [fill, slotOf, List.size_toArray, List.length_cons, List.length_nil, Nat.reduceAdd, List.getElem?_toArray, List.getElem?_cons_zero, List.getElem?_cons_succ, Option.bind_some, Act.put, List.setIfInBounds_toArray, List.set_cons_zero, List.set_cons_succ] at hK ⊢
          rw [d5, d6] at hK ⊢
          go_simp
          exact hK (.pointer (some ⟨b, off + m * 9, none⟩)) _ HJ.out rfl (fun j y h => h) _ rfl
        · obtain rfl := Option.some.inj ho.symm
          have d7 : V 7 = .pointer (some ⟨b, off + m * 9, none⟩) := hdep ⟨7, .data⟩ (by simp) rfl
          have cc0 := (HJ.out.cell (p := ⟨b, off + m * 9, none⟩) HCY.out.1).trans HCY.out.2.1
          have cc1 := (HJ.out.cell (p := ⟨b, off + m * 9 + 1, none⟩) HCY.out.1).trans HCY.out.2.2.1
          have cc2 := (HJ.out.cell (p := ⟨b, off + m * 9 + 2, none⟩) HCY.out.1).trans HCY.out.2.2.2.1
          have cc3 := (HJ.out.cell (p := ⟨b, off + m * 9 + 3, none⟩) HCY.out.1).trans HCY.out.2.2.2.2.1
          have cc4 := (HJ.out.cell (p := ⟨b, off + m * 9 + 4, none⟩) HCY.out.1).trans HCY.out.2.2.2.2.2.1
          have cc5 := (HJ.out.cell (p := ⟨b, off + m * 9 + 5, none⟩) HCY.out.1).trans HCY.out.2.2.2.2.2.2.1
          have cc6 := (HJ.out.cell (p := ⟨b, off + m * 9 + 6, none⟩) HCY.out.1).trans HCY.out.2.2.2.2.2.2.2.1
          have cc7 := (HJ.out.cell (p := ⟨b, off + m * 9 + 7, none⟩) HCY.out.1).trans HCY.out.2.2.2.2.2.2.2.2.1
          have cc8 := (HJ.out.cell (p := ⟨b, off + m * 9 + 8, none⟩) HCY.out.1).trans HCY.out.2.2.2.2.2.2.2.2.2
          clear hdep ho hJ
          simp only [fill, slotOf, List.size_toArray, List.length_cons, List.length_nil, Nat.reduceAdd, List.getElem?_toArray, List.getElem?_cons_zero, List.getElem?_cons_succ, Option.bind_some, Act.put, List.setIfInBounds_toArray, List.set_cons_zero, List.set_cons_succ] at hK ⊢
          rw [d7] at hK ⊢
          go_simp
          exact hK (.agg #[.int .i64 s.r.kind, .int .i64 s.r.time, .slice s.r.la s.r.ln s.r.lc, .string s.r.text, .int .i64 s.r.value, .bool s.r.null, .int .i64 s.who, .int .i64 s.sq, .int .i64 s.pl]) _ HJ.out rfl (fun j y h => h) _ rfl
        · obtain rfl := Option.some.inj ho.symm
          have d4 : V 4 = .agg #[.int .i64 r.r.kind, .int .i64 r.r.time, .slice r.r.la r.r.ln r.r.lc, .string r.r.text, .int .i64 r.r.value, .bool r.r.null, .int .i64 r.who, .int .i64 r.sq, .int .i64 r.pl] := hdep ⟨4, .data⟩ (by simp) rfl
          have d8 : V 8 = .agg #[.int .i64 s.r.kind, .int .i64 s.r.time, .slice s.r.la s.r.ln s.r.lc, .string s.r.text, .int .i64 s.r.value, .bool s.r.null, .int .i64 s.who, .int .i64 s.sq, .int .i64 s.pl] := hdep ⟨8, .data⟩ (by simp) rfl
          clear hdep ho hJ
          simp only [fill, slotOf, List.size_toArray, List.length_cons, List.length_nil, Nat.reduceAdd, List.getElem?_toArray, List.getElem?_cons_zero, List.getElem?_cons_succ, Option.bind_some, Act.put, List.setIfInBounds_toArray, List.set_cons_zero, List.set_cons_succ] at hK ⊢
          rw [d4, d8] at hK ⊢
          go_simp
          refine (rcompare_any r s _).mono ?_
          rintro e w8 ⟨rfl, hb8⟩
          exact hK (.int .i64 (cmpRow r s)) _ (HJ.out.trans (hb8.mono HJ.out.size)) rfl (fun j y h => h) _ rfl
        · obtain rfl := Option.some.inj ho.symm
          have d9 : V 9 = .int .i64 (cmpRow r s) := hdep ⟨9, .data⟩ (by simp) rfl
          clear hdep ho hJ
          simp only [fill, slotOf, List.size_toArray, List.length_cons, List.length_nil, Nat.reduceAdd, List.getElem?_toArray, List.getElem?_cons_zero, List.getElem?_cons_succ, Option.bind_some, Act.put, List.setIfInBounds_toArray, List.set_cons_zero, List.set_cons_succ] at hK ⊢
          rw [d9] at hK ⊢
          go_simp
          exact hK (.bool (decide (0 ≤ cmpRow r s))) _ HJ.out rfl (fun j y h => h) _ rfl
      · intro V w7 hJ hall
        have d10 : V 10 = .bool (decide (0 ≤ cmpRow r s)) := hall 10 (by decide)
        have HB7 := Lib.hid (HB.out.trans (hJ.mono HB.out.size))
        clear hall hJ
        simp only [fill, slotOf, List.size_toArray, List.length_cons, List.length_nil, Nat.reduceAdd, List.getElem?_toArray, List.getElem?_cons_zero, List.getElem?_cons_succ, Option.bind_some, Act.put, List.setIfInBounds_toArray, List.set_cons_zero, List.set_cons_succ]
        rw [d10]
        by_cases hge : 0 ≤ cmpRow r s
        · rw [decide_eq_true hge]
          have HT := Lib.hid (show rises l = false from by
            cases e : rises l with
            | false => rfl
            | true =>
              have := rises_at (k := k) e (by have := HL.out; have := HKM.out; omega)
              rw [← HRS.out.1, ← HKM.out, ← HRS.out.2] at this
              omega)
          clear hge
          go_wp2_with fail
          go_ret
          rw [HT.out]
          exact ⟨rfl, HB7.out⟩
        · rw [decide_eq_false hge]
          have HK2 := Lib.hid (show ∀ j, j + 1 < m + 1 → cmpRow (l.getD j row0) (l.getD (j + 1) row0) < 0 from fun j hj => by
            rcases Nat.lt_or_ge (j + 1) m with g | g
            · exact HK.out j g
            · obtain rfl : j = k := by have := HKM.out; omega
              rw [← HKM.out, ← HRS.out.1, ← HRS.out.2]
              omega)
          clear hge
          go_wp2_with fail
          go_roundw
          case rel => exact ⟨m + 1, by omega, by omega, by go_num, HK2, HB7⟩
          case measure => simp [intOf]; omega
end Go.Proofs.Ytpcgjladooijmaa
