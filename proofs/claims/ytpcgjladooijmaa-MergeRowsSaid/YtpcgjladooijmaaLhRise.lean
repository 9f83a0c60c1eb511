/- merge.merged's closure (is a list's first row below another's?) and merge.rising, walked. Written by genlhrise.py. -/
import Derived.Test.YtpcgjladooijmaaLhRank
import Derived.Test.YtpcgjladooijmaaCompare
namespace Go.Proofs.Ytpcgjladooijmaa
open Go.ChangeShapes Go.WideShapes Go.Deep Go.RowKit LabPlain RecPlain Lh
set_option linter.unusedVariables false

/-- a list that was there when the call began, with a row at least -/
structure LsOk (W : World) (x : LsV) : Prop where
  at' : RowsAt W x.a x.n x.c x.rs
  pos : 0 < x.n
theorem LsOk.fits {W : World} {x : LsV} (h : LsOk W x) : (x.rs.getD 0 row0).fits := h.at'.fits _ (row_mem (by have := h.at'.len; have := h.pos; omega))
def LesF (bx ox xn xc by' oy yn yc : Nat) (r s : RowV) : Nat → Value → Prop
  | 0, v => v = .func (.func 35) #[] #[]
  | 1, v => v = .slice (some ⟨bx, ox, none⟩) xn xc
  | 2, v => v = .pointer (some ⟨bx, ox, none⟩)
  | 3, v => v = .agg #[.int .i64 r.r.kind, .int .i64 r.r.time, .slice r.r.la r.r.ln r.r.lc, .string r.r.text, .int .i64 r.r.value, .bool r.r.null, .int .i64 r.who, .int .i64 r.sq, .int .i64 r.pl]
  | 4, v => v = .slice (some ⟨by', oy, none⟩) yn yc
  | 5, v => v = .pointer (some ⟨by', oy, none⟩)
  | 6, v => v = .agg #[.int .i64 s.r.kind, .int .i64 s.r.time, .slice s.r.la s.r.ln s.r.lc, .string s.r.text, .int .i64 s.r.value, .bool s.r.null, .int .i64 s.who, .int .i64 s.sq, .int .i64 s.pl]
  | 7, v => v = .int .i64 (cmpRow r s)
  | 8, v => v = .bool (decide (cmpRow r s < 0))
  | 9, v => v = .bool (decide (cmpRow r s < 0))
  | _ + 10, _ => True
set_option maxRecDepth 100000 in
set_option maxHeartbeats 4000000 in
theorem lless_any {w : World} {q : Nat} {x y : LsV} (hx : LsOk w x) (hy : LsOk w y) (hq : w.cell? ⟨q, 0, none⟩ = some (.func (.func 35) #[] #[])) :
    Calls Try.prog 77 #[.slice x.a x.n x.c, .slice y.a y.n y.c, .pointer (some ⟨q, 0, none⟩)] w fun e w' => e = .returned (.bool (decide (x.key < y.key))) ∧ Below w.heap.size w w' := by
  obtain ⟨bx, ox, ea, hbx, hcx⟩ := hx.at'.cells hx.pos
  obtain ⟨by', oy, eb, hby, hcy⟩ := hy.at'.cells hy.pos
  obtain ⟨r, hr⟩ : ∃ r, r = x.rs.getD 0 row0 := ⟨_, rfl⟩
  obtain ⟨s, hs⟩ : ∃ s, s = y.rs.getD 0 row0 := ⟨_, rfl⟩
  have hcx9 := RowsAt.nine hcx hx.pos hr
  have hcy9 := RowsAt.nine hcy hy.pos hs
  simp only [Nat.zero_mul, Nat.add_zero] at hcx9 hcy9
  have HR := Lib.hid (show decide (cmpRow r s < 0) = decide (x.key < y.key) from by
    have := rank_lt hx.fits hy.fits
    rw [← hr, ← hs] at this
    unfold LsV.key
    rw [← hr, ← hs]
    exact decide_eq_decide.2 this)
  have px := hx.pos
  have py := hy.pos
  rw [ea, eb]
  obtain ⟨xn, hxn⟩ : ∃ n, n = x.n := ⟨_, rfl⟩
  obtain ⟨yn, hyn⟩ : ∃ n, n = y.n := ⟨_, rfl⟩
  obtain ⟨xc, hxc⟩ : ∃ n, n = x.c := ⟨_, rfl⟩
  obtain ⟨yc, hyc⟩ : ∃ n, n = y.c := ⟨_, rfl⟩
  rw [← hxn, ← hyn, ← hxc, ← hyc]
  have zx : 0 < xn := by omega
  have zy : 0 < yn := by omega
  have HCX := Lib.hid (show bx < w.heap.size ∧ w.cell? ⟨bx, ox, none⟩ = some (.int .i64 r.r.kind) ∧ w.cell? ⟨bx, ox + 1, none⟩ = some (.int .i64 r.r.time) ∧ w.cell? ⟨bx, ox + 2, none⟩ = some (.slice r.r.la r.r.ln r.r.lc) ∧ w.cell? ⟨bx, ox + 3, none⟩ = some (.string r.r.text) ∧ w.cell? ⟨bx, ox + 4, none⟩ = some (.int .i64 r.r.value) ∧ w.cell? ⟨bx, ox + 5, none⟩ = some (.bool r.r.null) ∧ w.cell? ⟨bx, ox + 6, none⟩ = some (.int .i64 r.who) ∧ w.cell? ⟨bx, ox + 7, none⟩ = some (.int .i64 r.sq) ∧ w.cell? ⟨bx, ox + 8, none⟩ = some (.int .i64 r.pl) from ⟨hbx, hcx9⟩)
  have HCY := Lib.hid (show by' < w.heap.size ∧ w.cell? ⟨by', oy, none⟩ = some (.int .i64 s.r.kind) ∧ w.cell? ⟨by', oy + 1, none⟩ = some (.int .i64 s.r.time) ∧ w.cell? ⟨by', oy + 2, none⟩ = some (.slice s.r.la s.r.ln s.r.lc) ∧ w.cell? ⟨by', oy + 3, none⟩ = some (.string s.r.text) ∧ w.cell? ⟨by', oy + 4, none⟩ = some (.int .i64 s.r.value) ∧ w.cell? ⟨by', oy + 5, none⟩ = some (.bool s.r.null) ∧ w.cell? ⟨by', oy + 6, none⟩ = some (.int .i64 s.who) ∧ w.cell? ⟨by', oy + 7, none⟩ = some (.int .i64 s.sq) ∧ w.cell? ⟨by', oy + 8, none⟩ = some (.int .i64 s.pl) from ⟨hby, hcy9⟩)
  have HQ := Lib.hid (And.intro (World.block_lt_of_cell? w _ hq) hq)
  clear hcx hcy hcx9 hcy9 hr hs ea eb hq px py hbx hby hxn hyn hxc hyc
  go_enter Try.func77, Try.ntmps77
  go_wp2_with fail
  refine wp_region_fill (by kernel_rfl) (by kernel_rfl) (by kernel_rfl) (fun w' => Below w.heap.size w w') (fun j v _ => LesF bx ox xn xc by' oy yn yc r s j v) (Below.drew (Below.refl _ _)) ?_ ?_
  · intro j o ho V w7 K hJ hdep hK
    have HJ := Lib.hid hJ
    have hin : j < 10 := (Array.getElem?_eq_some_iff.1 ho).1
    have hcs : j = 0 ∨ j = 1 ∨ j = 2 ∨ j = 3 ∨ j = 4 ∨ j = 5 ∨ j = 6 ∨ j = 7 ∨ j = 8 ∨ j = 9 := by omega
    clear hin
    rcases hcs with rfl | rfl | rfl | rfl | rfl | rfl | rfl | rfl | rfl | rfl
    · obtain rfl := Option.some.inj ho.symm
      have cc0 := (HJ.out.cell (p := ⟨q, 0, none⟩) HQ.out.1).trans HQ.out.2
      clear hdep ho hJ
      simp only [fill, slotOf, List.size_toArray, List.length_cons, List.length_nil, Nat.reduceAdd, List.getElem?_toArray, List.getElem?_cons_zero, List.getElem?_cons_succ, Option.bind_some, Act.put, List.setIfInBounds_toArray, List.set_cons_zero, List.set_cons_succ] at hK ⊢
      go_simp
      exact hK (.func (.func 35) #[] #[]) _ HJ.out rfl (fun j y h => h) _ rfl
    · obtain rfl := Option.some.inj ho.symm
      clear hdep ho hJ
      simp only [fill, slotOf, List.size_toArray, List.length_cons, List.length_nil, Nat.reduceAdd, List.getElem?_toArray, List.getElem?_cons_zero, List.getElem?_cons_succ, Option.bind_some, Act.put, List.setIfInBounds_toArray, List.set_cons_zero, List.set_cons_succ] at hK ⊢
      go_simp
      exact hK (.slice (some ⟨bx, ox, none⟩) xn xc) _ HJ.out rfl (fun j y h => h) _ rfl
    · obtain rfl := Option.some.inj ho.symm
      have d1 : V 1 = .slice (some ⟨bx, ox, none⟩) xn xc := hdep ⟨1, .data⟩ (by simp) rfl
      clear hdep ho hJ
      simp only [fill, slotOf, List.size_toArray, List.length_cons, List.length_nil, Nat.reduceAdd, List.getElem?_toArray, List.getElem?_cons_zero, List.getElem?_cons_succ, Option.bind_some, Act.put, List.setIfInBounds_toArray, List.set_cons_zero, List.set_cons_succ] at hK ⊢
      rw [d1] at hK ⊢
      go_simp
      exact hK (.pointer (some ⟨bx, ox, none⟩)) _ HJ.out rfl (fun j y h => h) _ rfl
    · obtain rfl := Option.some.inj ho.symm
      have d2 : V 2 = .pointer (some ⟨bx, ox, none⟩) := hdep ⟨2, .data⟩ (by simp) rfl
      have cc0 := (HJ.out.cell (p := ⟨bx, ox, none⟩) HCX.out.1).trans HCX.out.2.1
      have cc1 := (HJ.out.cell (p := ⟨bx, ox + 1, none⟩) HCX.out.1).trans HCX.out.2.2.1
      have cc2 := (HJ.out.cell (p := ⟨bx, ox + 2, none⟩) HCX.out.1).trans HCX.out.2.2.2.1
      have cc3 := (HJ.out.cell (p := ⟨bx, ox + 3, none⟩) HCX.out.1).trans HCX.out.2.2.2.2.1
      have cc4 := (HJ.out.cell (p := ⟨bx, ox + 4, none⟩) HCX.out.1).trans HCX.out.2.2.2.2.2.1
      have cc5 := (HJ.out.cell (p := ⟨bx, ox + 5, none⟩) HCX.out.1).trans HCX.out.2.2.2.2.2.2.1
      have cc6 := (HJ.out.cell (p := ⟨bx, ox + 6, none⟩) HCX.out.1).trans HCX.out.2.2.2.2.2.2.2.1
      have cc7 := (HJ.out.cell (p := ⟨bx, ox + 7, none⟩) HCX.out.1).trans HCX.out.2.2.2.2.2.2.2.2.1
      have cc8 := (HJ.out.cell (p := ⟨bx, ox + 8, none⟩) HCX.out.1).trans HCX.out.2.2.2.2.2.2.2.2.2
      clear hdep ho hJ
      simp only [fill, slotOf, List.size_toArray, List.length_cons, List.length_nil, Nat.reduceAdd, List.getElem?_toArray, List.getElem?_cons_zero, List.getElem?_cons_succ, Option.bind_some, Act.put, List.setIfInBounds_toArray, List.set_cons_zero, List.set_cons_succ] at hK ⊢
      rw [d2] at hK ⊢
      go_simp
      exact hK (.agg #[.int .i64 r.r.kind, .int .i64 r.r.time, .slice r.r.la r.r.ln r.r.lc, .string r.r.text, .int .i64 r.r.value, .bool r.r.null, .int .i64 r.who, .int .i64 r.sq, .int .i64 r.pl]) _ HJ.out rfl (fun j y h => h) _ rfl
    · obtain rfl := Option.some.inj ho.symm
      clear hdep ho hJ
      simp only [fill, slotOf, List.size_toArray, List.length_cons, List.length_nil, Nat.reduceAdd, List.getElem?_toArray, List.getElem?_cons_zero, List.getElem?_cons_succ, Option.bind_some, Act.put, List.setIfInBounds_toArray, List.set_cons_zero, List.set_cons_succ] at hK ⊢
      go_simp
      exact hK (.slice (some ⟨by', oy, none⟩) yn yc) _ HJ.out rfl (fun j y h => h) _ rfl
    · obtain rfl := Option.some.inj ho.symm
      have d4 : V 4 = .slice (some ⟨by', oy, none⟩) yn yc := hdep ⟨4, .data⟩ (by simp) rfl
      clear hdep ho hJ
      simp only [fill, slotOf, List.size_toArray, List.length_cons, List.length_nil, Nat.reduceAdd, List.getElem?_toArray, List.getElem?_cons_zero, List.getElem?_cons_succ, Option.bind_some, Act.put, List.setIfInBounds_toArray, List.set_cons_zero, List.set_cons_succ] at hK ⊢
      rw [d4] at hK ⊢
      go_simp
      exact hK (.pointer (some ⟨by', oy, none⟩)) _ HJ.out rfl (fun j y h => h) _ rfl
    · obtain rfl := Option.some.inj ho.symm
      have d5 : V 5 = .pointer (some ⟨by', oy, none⟩) := hdep ⟨5, .data⟩ (by simp) rfl
      have cc0 := (HJ.out.cell (p := ⟨by', oy, none⟩) HCY.out.1).trans HCY.out.2.1
      have cc1 := (HJ.out.cell (p := ⟨by', oy + 1, none⟩) HCY.out.1).trans HCY.out.2.2.1
      have cc2 := (HJ.out.cell (p := ⟨by', oy + 2, none⟩) HCY.out.1).trans HCY.out.2.2.2.1
      have cc3 := (HJ.out.cell (p := ⟨by', oy + 3, none⟩) HCY.out.1).trans HCY.out.2.2.2.2.1
      have cc4 := (HJ.out.cell (p := ⟨by', oy + 4, none⟩) HCY.out.1).trans HCY.out.2.2.2.2.2.1
      have cc5 := (HJ.out.cell (p := ⟨by', oy + 5, none⟩) HCY.out.1).trans HCY.out.2.2.2.2.2.2.1
      have cc6 := (HJ.out.cell (p := ⟨by', oy + 6, none⟩) HCY.out.1).trans HCY.out.2.2.2.2.2.2.2.1
      have cc7 := (HJ.out.cell (p := ⟨by', oy + 7, none⟩) HCY.out.1).trans HCY.out.2.2.2.2.2.2.2.2.1
      have cc8 := (HJ.out.cell (p := ⟨by', oy + 8, none⟩) HCY.out.1).trans HCY.out.2.2.2.2.2.2.2.2.2
      clear hdep ho hJ
      simp only [fill, slotOf, List.size_toArray, List.length_cons, List.length_nil, Nat.reduceAdd, List.getElem?_toArray, List.getElem?_cons_zero, List.getElem?_cons_succ, Option.bind_some, Act.put, List.setIfInBounds_toArray, List.set_cons_zero, List.set_cons_succ] at hK ⊢
      rw [d5] at hK ⊢
      go_simp
      exact hK (.agg #[.int .i64 s.r.kind, .int .i64 s.r.time, .slice s.r.la s.r.ln s.r.lc, .string s.r.text, .int .i64 s.r.value, .bool s.r.null, .int .i64 s.who, .int .i64 s.sq, .int .i64 s.pl]) _ HJ.out rfl (fun j y h => h) _ rfl
    · obtain rfl := Option.some.inj ho.symm
      have d0 : V 0 = .func (.func 35) #[] #[] := hdep ⟨0, .data⟩ (by simp) rfl
      have d3 : V 3 = .agg #[.int .i64 r.r.kind, .int .i64 r.r.time, .slice r.r.la r.r.ln r.r.lc, .string r.r.text, .int .i64 r.r.value, .bool r.r.null, .int .i64 r.who, .int .i64 r.sq, .int .i64 r.pl] := hdep ⟨3, .data⟩ (by simp) rfl
      have d6 : V 6 = .agg #[.int .i64 s.r.kind, .int .i64 s.r.time, .slice s.r.la s.r.ln s.r.lc, .string s.r.text, .int .i64 s.r.value, .bool s.r.null, .int .i64 s.who, .int .i64 s.sq, .int .i64 s.pl] := hdep ⟨6, .data⟩ (by simp) rfl
      clear hdep ho hJ
      simp only [fill, slotOf, List.size_toArray, List.length_cons, List.length_nil, Nat.reduceAdd, List.getElem?_toArray, List.getElem?_cons_zero, List.getElem?_cons_succ, Option.bind_some, Act.put, List.setIfInBounds_toArray, List.set_cons_zero, List.set_cons_succ] at hK ⊢
      rw [d0, d3, d6] at hK ⊢
      go_simp
      refine (compare_any r s _).mono ?_
      rintro e w8 ⟨rfl, hb8⟩
      exact hK (.int .i64 (cmpRow r s)) _ (HJ.out.trans (hb8.mono HJ.out.size)) rfl (fun j y h => h) _ rfl
    · obtain rfl := Option.some.inj ho.symm
      have d7 : V 7 = .int .i64 (cmpRow r s) := hdep ⟨7, .data⟩ (by simp) rfl
      clear hdep ho hJ
      simp only [fill, slotOf, List.size_toArray, List.length_cons, List.length_nil, Nat.reduceAdd, List.getElem?_toArray, List.getElem?_cons_zero, List.getElem?_cons_succ, Option.bind_some, Act.put, List.setIfInBounds_toArray, List.set_cons_zero, List.set_cons_succ] at hK ⊢
      rw [d7] at hK ⊢
      go_simp
      exact hK (.bool (decide (cmpRow r s < 0))) _ HJ.out rfl (fun j y h => h) _ rfl
    · obtain rfl := Option.some.inj ho.symm
      have d8 : V 8 = .bool (decide (cmpRow r s < 0)) := hdep ⟨8, .data⟩ (by simp) rfl
      clear hdep ho hJ
      simp only [fill, slotOf, List.size_toArray, List.length_cons, List.length_nil, Nat.reduceAdd, List.getElem?_toArray, List.getElem?_cons_zero, List.getElem?_cons_succ, Option.bind_some, Act.put, List.setIfInBounds_toArray, List.set_cons_zero, List.set_cons_succ] at hK ⊢
      rw [d8] at hK ⊢
      go_simp
      exact hK (.bool (decide (cmpRow r s < 0))) _ HJ.out rfl (fun j y h => h) _ rfl
  · intro V w7 hJ hall
    have d9 : V 9 = .bool (decide (cmpRow r s < 0)) := hall 9 (by decide)
    have HB7 := Lib.hid hJ
    clear hall hJ
    simp only [fill, slotOf, List.size_toArray, List.length_cons, List.length_nil, Nat.reduceAdd, List.getElem?_toArray, List.getElem?_cons_zero, List.getElem?_cons_succ, Option.bind_some, Act.put, List.setIfInBounds_toArray, List.set_cons_zero, List.set_cons_succ]
    rw [d9]
    go_wp2_with fail
    go_ret
    rw [HR.out]
    exact ⟨rfl, HB7.out⟩
def RisF (b off n c k m : Nat) (r s : RowV) : Nat → Value → Prop
  | 0, v => v = .func (.func 35) #[] #[]
  | 1, v => v = .slice (some ⟨b, off, none⟩) n c
  | 2, v => v = .int .i64 (m : Int)
  | 3, v => v = .int .i64 (k : Int)
  | 4, v => v = .pointer (some ⟨b, off + k * 9, none⟩)
  | 5, v => v = .agg #[.int .i64 r.r.kind, .int .i64 r.r.time, .slice r.r.la r.r.ln r.r.lc, .string r.r.text, .int .i64 r.r.value, .bool r.r.null, .int .i64 r.who, .int .i64 r.sq, .int .i64 r.pl]
  | 6, v => v = .slice (some ⟨b, off, none⟩) n c
  | 7, v => v = .int .i64 (m : Int)
  | 8, v => v = .pointer (some ⟨b, off + m * 9, none⟩)
  | 9, v => v = .agg #[.int .i64 s.r.kind, .int .i64 s.r.time, .slice s.r.la s.r.ln s.r.lc, .string s.r.text, .int .i64 s.r.value, .bool s.r.null, .int .i64 s.who, .int .i64 s.sq, .int .i64 s.pl]
  | 10, v => v = .int .i64 (cmpRow r s)
  | 11, v => v = .bool (decide (0 ≤ cmpRow r s))
  | _ + 12, _ => True
/-- each row above the one ahead -/
def rises : List RowV → Bool
  | x :: y :: l => decide (cmpRow x y < 0) && rises (y :: l)
  | _ => true
theorem rises_at : ∀ {l : List RowV} {k : Nat}, rises l = true → k + 1 < l.length → cmpRow (l.getD k row0) (l.getD (k + 1) row0) < 0
  | [], k, _, h => by simp at h
  | [x], k, _, h => by simp at h
  | x :: y :: l, 0, h, _ => by
    simp only [rises, Bool.and_eq_true, decide_eq_true_eq] at h
    exact h.1
  | x :: y :: l, k + 1, h, hk => by
    simp only [rises, Bool.and_eq_true, decide_eq_true_eq] at h
    exact rises_at (l := y :: l) (k := k) h.2 (by simp only [List.length_cons] at hk ⊢; omega)
theorem rises_all : ∀ {l : List RowV}, (∀ k, k + 1 < l.length → cmpRow (l.getD k row0) (l.getD (k + 1) row0) < 0) → rises l = true
  | [], _ => rfl
  | [x], _ => rfl
  | x :: y :: l, h => by
    simp only [rises, Bool.and_eq_true, decide_eq_true_eq]
    exact ⟨h 0 (by simp), rises_all (l := y :: l) (fun k hk => h (k + 1) (by simp only [List.length_cons] at hk ⊢; omega))⟩
set_option maxRecDepth 100000 in
set_option maxHeartbeats 4000000 in
theorem rising_any {w : World} {a : Option Addr} {n c : Nat} {l : List RowV} (h : RowsAt w a n c l) (hn : n ≤ 1000000000) :
    Calls Try.prog 60 #[.slice a n c, .func (.func 35) #[] #[]] w fun e w' => e = .returned (.bool (rises l)) ∧ Below w.heap.size w w' := by
  have HA := Lib.hid h
  have HL := Lib.hid h.len
  clear h
  go_enter Try.func60, Try.ntmps60
  go_wp2_with fail
  go_loopw [5] (fun s5 wr => ∃ m : Nat, 1 ≤ m ∧ (m = 1 ∨ m ≤ n) ∧ s5 = .int .i64 (m : Int) ∧ Hid (∀ k, k + 1 < m → cmpRow (l.getD k row0) (l.getD (k + 1) row0) < 0) ∧ Hid (Below w.heap.size w wr)) (fun s5 _ => n - (intOf s5).toNat)
  case atStart => exact ⟨1, by omega, .inl rfl, rfl, Lib.hid (fun k hk => by omega), Lib.hid (Below.refl _ _)⟩
  case round =>
    obtain ⟨m, hm1, hmn, rfl, HK, HB⟩ := hrel
    rename World => wr
    by_cases hlt : m < n
    case neg =>
      have zm : ¬ (m : Int) < (n : Int) := by omega
      have HT := Lib.hid (show rises l = true from rises_all (fun k hk => HK.out k (by have := HL.out; omega)))
      go_wp2_with fail
      go_ret
      rw [HT.out]
      exact ⟨rfl, HB.out⟩
    case pos =>
      obtain ⟨k, hk⟩ : ∃ k, m = k + 1 := ⟨m - 1, by omega⟩
      have zm : (m : Int) < (n : Int) := by omega
      have zm0 : (0 : Int) ≤ (m : Int) := by omega
      have zk0 : (0 : Int) ≤ (k : Int) := by omega
      have zk : (k : Int) < (n : Int) := by omega
      have wk : IntKind.i64.wrap ((m : Int) - 1) = (k : Int) := by rw [IntWalk.i64_in _ (by omega)]; omega
      have wm : IntKind.i64.wrap ((m : Int) + 1) = (m : Int) + 1 := IntWalk.i64_in _ (by omega)
      obtain ⟨b, off, rfl, hbl, hcl⟩ := (HA.out.kept HB.out).cells (by omega)
      obtain ⟨r, hr⟩ : ∃ r, r = l.getD k row0 := ⟨_, rfl⟩
      obtain ⟨s, hs⟩ : ∃ s, s = l.getD m row0 := ⟨_, rfl⟩
      have hcx9 := RowsAt.nine hcl (show k < n by omega) hr
      have hcy9 := RowsAt.nine hcl hlt hs
      have HCX := Lib.hid (show b < wr.heap.size ∧ wr.cell? ⟨b, off + k * 9, none⟩ = some (.int .i64 r.r.kind) ∧ wr.cell? ⟨b, off + k * 9 + 1, none⟩ = some (.int .i64 r.r.time) ∧ wr.cell? ⟨b, off + k * 9 + 2, none⟩ = some (.slice r.r.la r.r.ln r.r.lc) ∧ wr.cell? ⟨b, off + k * 9 + 3, none⟩ = some (.string r.r.text) ∧ wr.cell? ⟨b, off + k * 9 + 4, none⟩ = some (.int .i64 r.r.value) ∧ wr.cell? ⟨b, off + k * 9 + 5, none⟩ = some (.bool r.r.null) ∧ wr.cell? ⟨b, off + k * 9 + 6, none⟩ = some (.int .i64 r.who) ∧ wr.cell? ⟨b, off + k * 9 + 7, none⟩ = some (.int .i64 r.sq) ∧ wr.cell? ⟨b, off + k * 9 + 8, none⟩ = some (.int .i64 r.pl) from ⟨hbl, hcx9⟩)
      have HCY := Lib.hid (show b < wr.heap.size ∧ wr.cell? ⟨b, off + m * 9, none⟩ = some (.int .i64 s.r.kind) ∧ wr.cell? ⟨b, off + m * 9 + 1, none⟩ = some (.int .i64 s.r.time) ∧ wr.cell? ⟨b, off + m * 9 + 2, none⟩ = some (.slice s.r.la s.r.ln s.r.lc) ∧ wr.cell? ⟨b, off + m * 9 + 3, none⟩ = some (.string s.r.text) ∧ wr.cell? ⟨b, off + m * 9 + 4, none⟩ = some (.int .i64 s.r.value) ∧ wr.cell? ⟨b, off + m * 9 + 5, none⟩ = some (.bool s.r.null) ∧ wr.cell? ⟨b, off + m * 9 + 6, none⟩ = some (.int .i64 s.who) ∧ wr.cell? ⟨b, off + m * 9 + 7, none⟩ = some (.int .i64 s.sq) ∧ wr.cell? ⟨b, off + m * 9 + 8, none⟩ = some (.int .i64 s.pl) from ⟨hbl, hcy9⟩)
      have HRS := Lib.hid (And.intro hr hs)
      have HKM := Lib.hid hk
      clear hcl hcx9 hcy9 hr hs hk hbl
      go_wp2_with fail
      refine wp_region_fill (by kernel_rfl) (by kernel_rfl) (by kernel_rfl) (fun w' => Below wr.heap.size wr w') (fun j v _ => RisF b off n c k m r s j v) (Below.drew (Below.refl _ _)) ?_ ?_
      · intro j o ho V w7 K hJ hdep hK
        have HJ := Lib.hid hJ
        have hin : j < 12 := (Array.getElem?_eq_some_iff.1 ho).1
        have hcs : j = 0 ∨ j = 1 ∨ j = 2 ∨ j = 3 ∨ j = 4 ∨ j = 5 ∨ j = 6 ∨ j = 7 ∨ j = 8 ∨ j = 9 ∨ j = 10 ∨ j = 11 := by omega
        clear hin
        rcases hcs with rfl | rfl | rfl | rfl | rfl | rfl | rfl | rfl | rfl | rfl | rfl | rfl
        · obtain rfl := Option.some.inj ho.symm
          clear hdep ho hJ
          simp only [fill, slotOf, List.size_toArray, List.length_cons, List.length_nil, Nat.reduceAdd, List.getElem?_toArray, List.getElem?_cons_zero, List.getElem?_cons_succ, Option.bind_some, Act.put, List.setIfInBounds_toArray, List.set_cons_zero, List.set_cons_succ] at hK ⊢
          go_simp
          exact hK (.func (.func 35) #[] #[]) _ HJ.out rfl (fun j y h => h) _ rfl
        · obtain rfl := Option.some.inj ho.symm
          clear hdep ho hJ
          simp only [fill, slotOf, List.size_toArray, List.length_cons, List.length_nil, Nat.reduceAdd, List.getElem?_toArray, List.getElem?_cons_zero, List.getElem?_cons_succ, Option.bind_some, Act.put, List.setIfInBounds_toArray, List.set_cons_zero, List.set_cons_succ] at hK ⊢
          go_simp
          exact hK (.slice (some ⟨b, off, none⟩) n c) _ HJ.out rfl (fun j y h => h) _ rfl
        · obtain rfl := Option.some.inj ho.symm
          clear hdep ho hJ
          simp only [fill, slotOf, List.size_toArray, List.length_cons, List.length_nil, Nat.reduceAdd, List.getElem?_toArray, List.getElem?_cons_zero, List.getElem?_cons_succ, Option.bind_some, Act.put, List.setIfInBounds_toArray, List.set_cons_zero, List.set_cons_succ] at hK ⊢
          go_simp
          exact hK (.int .i64 (m : Int)) _ HJ.out rfl (fun j y h => h) _ rfl
        · obtain rfl := Option.some.inj ho.symm
          have d2 : V 2 = .int .i64 (m : Int) := hdep ⟨2, .data⟩ (by simp) rfl
          clear hdep ho hJ
          simp only [fill, slotOf, List.size_toArray, List.length_cons, List.length_nil, Nat.reduceAdd, List.getElem?_toArray, List.getElem?_cons_zero, List.getElem?_cons_succ, Option.bind_some, Act.put, List.setIfInBounds_toArray, List.set_cons_zero, List.set_cons_succ] at hK ⊢
          rw [d2] at hK ⊢
          go_simp
          exact hK (.int .i64 (k : Int)) _ HJ.out rfl (fun j y h => h) _ rfl
        · obtain rfl := Option.some.inj ho.symm
          have d1 : V 1 = .slice (some ⟨b, off, none⟩) n c := hdep ⟨1, .data⟩ (by simp) rfl
          have d3 : V 3 = .int .i64 (k : Int) := hdep ⟨3, .data⟩ (by simp) rfl
          clear hdep ho hJ
          simp only [fill, slotOf, List.size_toArray, List.length_cons, List.length_nil, Nat.reduceAdd, List.getElem?_toArray, List.getElem?_cons_zero, List.getElem?_cons_succ, Option.bind_some, Act.put, List.setIfInBounds_toArray, List.set_cons_zero, List.set_cons_succ] at hK ⊢
          rw [d1, d3] at hK ⊢
          go_simp
          exact hK (.pointer (some ⟨b, off + k * 9, none⟩)) _ HJ.out rfl (fun j y h => h) _ rfl
        · obtain rfl := Option.some.inj ho.symm
          have d4 : V 4 = .pointer (some ⟨b, off + k * 9, none⟩) := hdep ⟨4, .data⟩ (by simp) rfl
          have cc0 := (HJ.out.cell (p := ⟨b, off + k * 9, none⟩) HCX.out.1).trans HCX.out.2.1
          have cc1 := (HJ.out.cell (p := ⟨b, off + k * 9 + 1, none⟩) HCX.out.1).trans HCX.out.2.2.1
          have cc2 := (HJ.out.cell (p := ⟨b, off + k * 9 + 2, none⟩) HCX.out.1).trans HCX.out.2.2.2.1
          have cc3 := (HJ.out.cell (p := ⟨b, off + k * 9 + 3, none⟩) HCX.out.1).trans HCX.out.2.2.2.2.1
          have cc4 := (HJ.out.cell (p := ⟨b, off + k * 9 + 4, none⟩) HCX.out.1).trans HCX.out.2.2.2.2.2.1
          have cc5 := (HJ.out.cell (p := ⟨b, off + k * 9 + 5, none⟩) HCX.out.1).trans HCX.out.2.2.2.2.2.2.1
          have cc6 := (HJ.out.cell (p := ⟨b, off + k * 9 + 6, none⟩) HCX.out.1).trans HCX.out.2.2.2.2.2.2.2.1
          have cc7 := (HJ.out.cell (p := ⟨b, off + k * 9 + 7, none⟩) HCX.out.1).trans HCX.out.2.2.2.2.2.2.2.2.1
          have cc8 := (HJ.out.cell (p := ⟨b, off + k * 9 + 8, none⟩) HCX.out.1).trans HCX.out.2.2.2.2.2.2.2.2.2
          clear hdep ho hJ
          simp only [fill, slotOf, List.size_toArray, List.length_cons, List.length_nil, Nat.reduceAdd, List.getElem?_toArray, List.getElem?_cons_zero, List.getElem?_cons_succ, Option.bind_some, Act.put, List.setIfInBounds_toArray, List.set_cons_zero, List.set_cons_succ] at hK ⊢
          rw [d4] at hK ⊢
          go_simp
          exact hK (.agg #[.int .i64 r.r.kind, .int .i64 r.r.time, .slice r.r.la r.r.ln r.r.lc, .string r.r.text, .int .i64 r.r.value, .bool r.r.null, .int .i64 r.who, .int .i64 r.sq, .int .i64 r.pl]) _ HJ.out rfl (fun j y h => h) _ rfl
        · obtain rfl := Option.some.inj ho.symm
          clear hdep ho hJ
          simp only [fill, slotOf, List.size_toArray, List.length_cons, List.length_nil, Nat.reduceAdd, List.getElem?_toArray, List.getElem?_cons_zero, List.getElem?_cons_succ, Option.bind_some, Act.put, List.setIfInBounds_toArray, List.set_cons_zero, List.set_cons_succ] at hK ⊢
          go_simp
          exact hK (.slice (some ⟨b, off, none⟩) n c) _ HJ.out rfl (fun j y h => h) _ rfl
        · obtain rfl := Option.some.inj ho.symm
          clear hdep ho hJ
          simp only [fill, slotOf, List.size_toArray, List.length_cons, List.length_nil, Nat.reduceAdd, List.getElem?_toArray, List.getElem?_cons_zero, List.getElem?_cons_succ, Option.bind_some, Act.put, List.setIfInBounds_toArray, List.set_cons_zero, List.set_cons_succ] at hK ⊢
          go_simp
          exact hK (.int .i64 (m : Int)) _ HJ.out rfl (fun j y h => h) _ rfl
        · obtain rfl := Option.some.inj ho.symm
          have d6 : V 6 = .slice (some ⟨b, off, none⟩) n c := hdep ⟨6, .data⟩ (by simp) rfl
          have d7 : V 7 = .int .i64 (m : Int) := hdep ⟨7, .data⟩ (by simp) rfl
          clear hdep ho hJ
          simp only [fill, slotOf, List.size_toArray, List.length_cons, List.length_nil, Nat.reduceAdd, List.getElem?_toArray, List.getElem?_cons_zero, List.getElem?_cons_succ, Option.bind_some, Act.put, List.setIfInBounds_toArray, List.set_cons_zero, List.set_cons_succ] at hK ⊢
          rw [d6, d7] at hK ⊢
          go_simp
          exact hK (.pointer (some ⟨b, off + m * 9, none⟩)) _ HJ.out rfl (fun j y h => h) _ rfl
        · obtain rfl := Option.some.inj ho.symm
          have d8 : V 8 = .pointer (some ⟨b, off + m * 9, none⟩) := hdep ⟨8, .data⟩ (by simp) rfl
          have cc0 := (HJ.out.cell (p := ⟨b, off + m * 9, none⟩) HCY.out.1).trans HCY.out.2.1
          have cc1 := (HJ.out.cell (p := ⟨b, off + m * 9 + 1, none⟩) HCY.out.1).trans HCY.out.2.2.1
          have cc2 := (HJ.out.cell (p := ⟨b, off + m * 9 + 2, none⟩) HCY.out.1).trans HCY.out.2.2.2.1
          have cc3 := (HJ.out.cell (p := ⟨b, off + m * 9 + 3, none⟩) HCY.out.1).trans HCY.out.2.2.2.2.1
          have cc4 := (HJ.out.cell (p := ⟨b, off + m * 9 + 4, none⟩) HCY.out.1).trans HCY.out.2.2.2.2.2.1
          have cc5 := (HJ.out.cell (p := ⟨b, off + m * 9 + 5, none⟩) HCY.out.1).trans HCY.out.2.2.2.2.2.2.1
          have cc6 := (HJ.out.cell (p := ⟨b, off + m * 9 + 6, none⟩) HCY.out.1).trans HCY.out.2.2.2.2.2.2.2.1
          have cc7 := (HJ.out.cell (p := ⟨b, off + m * 9 + 7, none⟩) HCY.out.1).trans HCY.out.2.2.2.2.2.2.2.2.1
          have cc8 := (HJ.out.cell (p := ⟨b, off + m * 9 + 8, none⟩) HCY.out.1).trans HCY.out.2.2.2.2.2.2.2.2.2
          clear hdep ho hJ
          simp only [fill, slotOf, List.size_toArray, List.length_cons, List.length_nil, Nat.reduceAdd, List.getElem?_toArray, List.getElem?_cons_zero, List.getElem?_cons_succ, Option.bind_some, Act.put, List.setIfInBounds_toArray, List.set_cons_zero, List.set_cons_succ] at hK ⊢
          rw [d8] at hK ⊢
          go_simp
          exact hK (.agg #[.int .i64 s.r.kind, .int .i64 s.r.time, .slice s.r.la s.r.ln s.r.lc, .string s.r.text, .int .i64 s.r.value, .bool s.r.null, .int .i64 s.who, .int .i64 s.sq, .int .i64 s.pl]) _ HJ.out rfl (fun j y h => h) _ rfl
        · obtain rfl := Option.some.inj ho.symm
          have d0 : V 0 = .func (.func 35) #[] #[] := hdep ⟨0, .data⟩ (by simp) rfl
          have d5 : V 5 = .agg #[.int .i64 r.r.kind, .int .i64 r.r.time, .slice r.r.la r.r.ln r.r.lc, .string r.r.text, .int .i64 r.r.value, .bool r.r.null, .int .i64 r.who, .int .i64 r.sq, .int .i64 r.pl] := hdep ⟨5, .data⟩ (by simp) rfl
          have d9 : V 9 = .agg #[.int .i64 s.r.kind, .int .i64 s.r.time, .slice s.r.la s.r.ln s.r.lc, .string s.r.text, .int .i64 s.r.value, .bool s.r.null, .int .i64 s.who, .int .i64 s.sq, .int .i64 s.pl] := hdep ⟨9, .data⟩ (by simp) rfl
          clear hdep ho hJ
          simp only [fill, slotOf, List.size_toArray, List.length_cons, List.length_nil, Nat.reduceAdd, List.getElem?_toArray, List.getElem?_cons_zero, List.getElem?_cons_succ, Option.bind_some, Act.put, List.setIfInBounds_toArray, List.set_cons_zero, List.set_cons_succ] at hK ⊢
          rw [d0, d5, d9] at hK ⊢
          go_simp
          refine (compare_any r s _).mono ?_
          rintro e w8 ⟨rfl, hb8⟩
          exact hK (.int .i64 (cmpRow r s)) _ (HJ.out.trans (hb8.mono HJ.out.size)) rfl (fun j y h => h) _ rfl
        · obtain rfl := Option.some.inj ho.symm
          have d10 : V 10 = .int .i64 (cmpRow r s) := hdep ⟨10, .data⟩ (by simp) rfl
          clear hdep ho hJ
          simp only [fill, slotOf, List.size_toArray, List.length_cons, List.length_nil, Nat.reduceAdd, List.getElem?_toArray, List.getElem?_cons_zero, List.getElem?_cons_succ, Option.bind_some, Act.put, List.setIfInBounds_toArray, List.set_cons_zero, List.set_cons_succ] at hK ⊢
          rw [d10] at hK ⊢
          go_simp
          exact hK (.bool (decide (0 ≤ cmpRow r s))) _ HJ.out rfl (fun j y h => h) _ rfl
      · intro V w7 hJ hall
        have d11 : V 11 = .bool (decide (0 ≤ cmpRow r s)) := hall 11 (by decide)
        have HB7 := Lib.hid (HB.out.trans (hJ.mono HB.out.size))
        clear hall hJ
        simp only [fill, slotOf, List.size_toArray, List.length_cons, List.length_nil, Nat.reduceAdd, List.getElem?_toArray, List.getElem?_cons_zero, List.getElem?_cons_succ, Option.bind_some, Act.put, List.setIfInBounds_toArray, List.set_cons_zero, List.set_cons_succ]
        rw [d11]
        by_cases hge : 0 ≤ cmpRow r s
        · rw [decide_eq_true hge]
          have HT := Lib.hid (show rises l = false from by
            cases e : rises l with
            | false => rfl
            | true =>
              have := rises_at (k := k) e (by have := HL.out; have := HKM.out; omega)
              rw [← HRS.out.1, ← HKM.out, ← HRS.out.2] at this
              omega)
          clear hge
          go_wp2_with fail
          go_ret
          rw [HT.out]
          exact ⟨rfl, HB7.out⟩
        · rw [decide_eq_false hge]
          have HK2 := Lib.hid (show ∀ j, j + 1 < m + 1 → cmpRow (l.getD j row0) (l.getD (j + 1) row0) < 0 from fun j hj => by
            rcases Nat.lt_or_ge (j + 1) m with g | g
            · exact HK.out j g
            · obtain rfl : j = k := by have := HKM.out; omega
              rw [← HKM.out, ← HRS.out.1, ← HRS.out.2]
              omega)
          clear hge
          go_wp2_with fail
          go_roundw
          case rel => exact ⟨m + 1, by omega, by omega, by go_num, HK2, HB7⟩
          case measure => simp [intOf]; omega
end Go.Proofs.Ytpcgjladooijmaa
