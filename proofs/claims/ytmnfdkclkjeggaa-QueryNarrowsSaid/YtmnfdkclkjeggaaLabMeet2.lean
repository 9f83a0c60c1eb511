/- Labels: Meets and the reference's Meets, walked. -/
import Derived.Test.YtmnfdkclkjeggaaLabMeet
namespace Go.Proofs.Ytmnfdkclkjeggaa
open Go.RowKit LabPlain
set_option linter.unusedVariables false

structure MatsAt (w : World) (a : Option Addr) (n c : Nat) (ms : List Mat) : Prop where
  len : ms.length = n
  cap : n ≤ c
  capm : c ≤ 9223372036854775807
  nl : a = none → c = 0
  size : ∀ x ∈ ms, x.1.size ≤ 140737488355328 ∧ x.2.2.size ≤ 140737488355328
  cells : 0 < n → ∃ b off, a = some ⟨b, off, none⟩ ∧ b < w.heap.size ∧ ∀ i, i < n → w.cell? ⟨b, off + i * 3, none⟩ = some (.string (ms.getD i mat0).1) ∧ w.cell? ⟨b, off + i * 3 + 1, none⟩ = some (.int .i64 (ms.getD i mat0).2.1) ∧ w.cell? ⟨b, off + i * 3 + 2, none⟩ = some (.string (ms.getD i mat0).2.2)
theorem MatsAt.keep {w w' : World} {a : Option Addr} {n c : Nat} {ms : List Mat} (h : MatsAt w a n c ms) {B : Nat} (hb : Below B w w') (hB : w.heap.size ≤ B) : MatsAt w' a n c ms :=
  ⟨h.len, h.cap, h.capm, h.nl, h.size, fun hn => by
    obtain ⟨b, off, ha, hlt, hc⟩ := h.cells hn
    exact ⟨b, off, ha, Nat.lt_of_lt_of_le hlt hb.size, fun i hi => ⟨(hb.cell (p := ⟨b, off + i * 3, none⟩) (Nat.lt_of_lt_of_le hlt hB)).trans (hc i hi).1, (hb.cell (p := ⟨b, off + i * 3 + 1, none⟩) (Nat.lt_of_lt_of_le hlt hB)).trans (hc i hi).2.1, (hb.cell (p := ⟨b, off + i * 3 + 2, none⟩) (Nat.lt_of_lt_of_le hlt hB)).trans (hc i hi).2.2⟩⟩⟩
theorem MatsAt.kept {w w' : World} {a : Option Addr} {n c : Nat} {ms : List Mat} (h : MatsAt w a n c ms) (hb : Below w.heap.size w w') : MatsAt w' a n c ms := h.keep hb (Nat.le_refl _)
theorem MatsAt.empty (w : World) (a : Option Addr) (c : Nat) (hc : c ≤ 9223372036854775807) (ha : a = none → c = 0) : MatsAt w a 0 c [] :=
  ⟨rfl, Nat.zero_le _, hc, ha, (fun x hx => by cases hx), fun h => absurd h (Nat.lt_irrefl 0)⟩
theorem mat_mem {l : List Mat} {i : Nat} (h : i < l.length) : l.getD i mat0 ∈ l := by
  have : l.getD i mat0 = l[i] := by simp [h]
  rw [this]; exact List.getElem_mem h
/-- the three cells of a matcher laid anew -/
theorem mat_cells (w : World) (t : TypeId) (x y z : Value) : (w.alloc (.cells #[x, y, z] t)).cell? ⟨w.heap.size, 0, none⟩ = some x ∧ (w.alloc (.cells #[x, y, z] t)).cell? ⟨w.heap.size, 1, none⟩ = some y ∧ (w.alloc (.cells #[x, y, z] t)).cell? ⟨w.heap.size, 2, none⟩ = some z := by
  have hblk := heap_alloc_new w (.cells #[x, y, z] t)
  exact ⟨by rw [cell_of_row _ _ _ _ _ (0, 0) hblk]; rfl, by rw [cell_of_row _ _ _ _ _ (0, 0) hblk]; rfl, by rw [cell_of_row _ _ _ _ _ (0, 0) hblk]; rfl⟩

set_option maxRecDepth 100000 in
set_option maxHeartbeats 2000000 in
theorem meets1_any {w : World} {a : Option Addr} {n c : Nat} {l : List Lab} (h : LabsAt w a n c l) (hs : upTo l n = true) (nm v : ByteArray) (way : Int) (hnm : nm.size ≤ 140737488355328) (hv : v.size ≤ 140737488355328) :
    Calls Try.prog 51 #[.slice a n c, .agg #[.string nm, .int .i64 way, .string v]] w fun e w' => e = .returned (.bool (meet1 (lst l nm n) way v)) ∧ Below w.heap.size w w' := by
  obtain ⟨w1, hw1⟩ : ∃ w1, w1 = w.alloc (.cells #[.string nm, .int .i64 way, .string v] 33) := ⟨_, rfl⟩
  have hb1 : Below w.heap.size w w1 := by rw [hw1]; exact (Below.refl _ _).alloc (Nat.le_refl _) _
  have hcs : w1.cell? ⟨w.heap.size, 0, none⟩ = some (.string nm) ∧ w1.cell? ⟨w.heap.size, 1, none⟩ = some (.int .i64 way) ∧ w1.cell? ⟨w.heap.size, 2, none⟩ = some (.string v) := by rw [hw1]; exact mat_cells w _ _ _ _
  have hlt1 : w.heap.size < w1.heap.size := by rw [hw1]; exact (Array.getElem?_eq_some_iff.1 (heap_alloc_new w _)).1
  have hg := get_any (h.keep hb1 (Nat.le_refl _)) hs nm hnm
  have hxs : (lst l nm n).1.size ≤ 140737488355328 := by
    have hlen := h.len
    have : ∀ k, k ≤ n → (lst l nm k).1.size ≤ 140737488355328 := by
      intro k
      induction k with
      | zero => intro _; show ByteArray.empty.size ≤ _; simp
      | succ k ih =>
        intro hk
        rw [lst]
        by_cases e : (l.getD k lab0).1 = nm
        · rw [if_pos e]; exact (h.size _ (lab_mem (by omega))).2
        · rw [if_neg e]; exact ih (by omega)
    exact this n (Nat.le_refl _)
  obtain ⟨g, hge⟩ : ∃ g, g = lst l nm n := ⟨_, rfl⟩
  rw [← hge] at hg hxs ⊢
  rw [hw1] at hg
  obtain ⟨x, has⟩ := g
  have hg : Calls Try.prog 68 #[.slice a n c, .string nm] (w.alloc (.cells #[.string nm, .int .i64 way, .string v] 33)) fun e w' => e = .returned (.tuple #[.string x, .bool has]) ∧ Below w1.heap.size w1 w' := by rw [← hw1] at hg ⊢; exact hg
  have hxs : x.size ≤ 140737488355328 := hxs
  have HG := Lib.hid hg
  have HB1 := Lib.hid hb1
  have HCS := Lib.hid hcs
  have HLT := Lib.hid hlt1
  clear hw1 hb1 hcs hlt1 hg hge hs
  have hcell2 : ∀ w2, Below w1.heap.size w1 w2 → w2.cell? ⟨w.heap.size, 0, none⟩ = some (.string nm) ∧ w2.cell? ⟨w.heap.size, 1, none⟩ = some (.int .i64 way) ∧ w2.cell? ⟨w.heap.size, 2, none⟩ = some (.string v) := fun w2 h2 =>
    ⟨(h2.cell (p := ⟨w.heap.size, 0, none⟩) HLT.out).trans HCS.out.1, (h2.cell (p := ⟨w.heap.size, 1, none⟩) HLT.out).trans HCS.out.2.1, (h2.cell (p := ⟨w.heap.size, 2, none⟩) HLT.out).trans HCS.out.2.2⟩
  have HC2 := Lib.hid hcell2
  clear hcell2
  by_cases c1 : way = 1
  · subst c1
    cases has with
    | false =>
      have HR := Lib.hid (show meet1 (x, false) 1 v = false from rfl)
      go_enter Try.func51, Try.ntmps51
      go_wp2_with fail
      refine HG.out.mono ?_
      rintro e w2 ⟨rfl, hb2⟩
      obtain ⟨e0, e1, e2⟩ := HC2.out w2 hb2
      have HB2 := Lib.hid (HB1.out.trans (hb2.mono HB1.out.size))
      clear hb2
      go_wp2_with fail
      go_ret
      rw [HR.out]; exact ⟨rfl, HB2.out⟩
    | true =>
      have HR := Lib.hid (show meet1 (x, true) 1 v = (x.toList == v.toList) by rw [eq_toList]; rfl)
      go_enter Try.func51, Try.ntmps51
      go_wp2_with fail
      refine HG.out.mono ?_
      rintro e w2 ⟨rfl, hb2⟩
      obtain ⟨e0, e1, e2⟩ := HC2.out w2 hb2
      have HB2 := Lib.hid (HB1.out.trans (hb2.mono HB1.out.size))
      clear hb2
      go_wp2_with fail
      go_ret
      rw [HR.out]; exact ⟨rfl, HB2.out⟩
  · by_cases c2 : way = 2
    · subst c2
      cases has with
      | false =>
        have HR := Lib.hid (show meet1 (x, false) 2 v = true from rfl)
        go_enter Try.func51, Try.ntmps51
        go_wp2_with fail
        refine HG.out.mono ?_
        rintro e w2 ⟨rfl, hb2⟩
        obtain ⟨e0, e1, e2⟩ := HC2.out w2 hb2
        have HB2 := Lib.hid (HB1.out.trans (hb2.mono HB1.out.size))
        clear hb2
        go_wp2_with fail
        go_ret
        rw [HR.out]; exact ⟨rfl, HB2.out⟩
      | true =>
        have HR := Lib.hid (show meet1 (x, true) 2 v = (!(x.toList == v.toList)) by rw [eq_toList]; rfl)
        go_enter Try.func51, Try.ntmps51
        go_wp2_with fail
        refine HG.out.mono ?_
        rintro e w2 ⟨rfl, hb2⟩
        obtain ⟨e0, e1, e2⟩ := HC2.out w2 hb2
        have HB2 := Lib.hid (HB1.out.trans (hb2.mono HB1.out.size))
        clear hb2
        go_wp2_with fail
        go_ret
        rw [HR.out]; exact ⟨rfl, HB2.out⟩
    · by_cases c3 : way = 3
      · subst c3
        cases has with
        | false =>
          have HR := Lib.hid (show meet1 (x, false) 3 v = false from rfl)
          go_enter Try.func51, Try.ntmps51
          go_wp2_with fail
          refine HG.out.mono ?_
          rintro e w2 ⟨rfl, hb2⟩
          obtain ⟨e0, e1, e2⟩ := HC2.out w2 hb2
          have HB2 := Lib.hid (HB1.out.trans (hb2.mono HB1.out.size))
          clear hb2
          go_wp2_with fail
          go_ret
          rw [HR.out]; exact ⟨rfl, HB2.out⟩
        | true =>
          have HR := Lib.hid (show meet1 (x, true) 3 v = prefB v x from rfl)
          go_enter Try.func51, Try.ntmps51
          go_wp2_with fail
          refine HG.out.mono ?_
          rintro e w2 ⟨rfl, hb2⟩
          obtain ⟨e0, e1, e2⟩ := HC2.out w2 hb2
          have HB2 := Lib.hid (HB1.out.trans (hb2.mono HB1.out.size))
          have HP := Lib.hid (hasprefix_any x v hxs hv w2)
          clear hb2
          go_wp2_with fail
          refine HP.out.mono ?_
          rintro e w3 ⟨rfl, rfl⟩
          go_wp2_with fail
          go_ret
          rw [HR.out]; exact ⟨rfl, HB2.out⟩
      · have HR := Lib.hid (show meet1 (x, has) way v = has by unfold meet1; rw [if_neg c1, if_neg c2, if_neg c3])
        go_enter Try.func51, Try.ntmps51
        go_wp2_with fail
        refine HG.out.mono ?_
        rintro e w2 ⟨rfl, hb2⟩
        obtain ⟨e0, e1, e2⟩ := HC2.out w2 hb2
        have HB2 := Lib.hid (HB1.out.trans (hb2.mono HB1.out.size))
        clear hb2
        go_wp2_with fail
        go_ret
        rw [HR.out]; exact ⟨rfl, HB2.out⟩

set_option maxRecDepth 100000 in
set_option maxHeartbeats 2000000 in
theorem meets_any {w : World} {a a' : Option Addr} {n c n' c' : Nat} {l : List Lab} {ms : List Mat} (h : LabsAt w a n c l) (h' : MatsAt w a' n' c' ms) :
    Calls Try.prog 22 #[.slice a n c, .slice a' n' c'] w fun e w' => e = .returned (.bool (meetsB l ms)) ∧ Below w.heap.size w w' := by
  have hlen := h.len
  have hlen' := h'.len
  have hcap := h'.cap
  have hcm := h'.capm
  have HH := Lib.hid h
  have HM := Lib.hid h'
  have HL := Lib.hid hlen
  have HL' := Lib.hid hlen'
  have hr := right_any h
  clear h h' hlen hlen'
  cases hs : isSet l with
  | false =>
    rw [hs] at hr
    have HN := Lib.hid hr
    have HR := Lib.hid (show meetsB l ms = false by unfold meetsB; rw [hs]; rfl)
    clear hr hs
    go_enter Try.func22, Try.ntmps22
    go_wp2_with fail
    refine HN.out.mono ?_
    rintro e w2 ⟨rfl, hb2⟩
    have HB2 := Lib.hid hb2
    clear hb2
    go_wp2_with fail
    go_ret
    rw [HR.out]; exact ⟨rfl, HB2.out⟩
  | true =>
    rw [hs] at hr
    have HN := Lib.hid hr
    have HR := Lib.hid (show meetsB l ms = meetTo l ms n' by unfold meetsB; rw [hs, HL'.out]; rfl)
    have HS := Lib.hid (show upTo l n = true by
      unfold isSet at hs; rw [Bool.and_eq_true] at hs; rw [HL.out] at hs; exact hs.2)
    clear hr hs
    go_enter Try.func22, Try.ntmps22
    go_wp2_with fail
    refine HN.out.mono ?_
    rintro e w2 ⟨rfl, hb2⟩
    have HB2 := Lib.hid hb2
    clear hb2
    go_wp2_with fail
    go_loopw [12] (fun s12 wr => ∃ k : Nat, k ≤ n' ∧ s12 = .int .i64 (k : Int) ∧ Hid (meetTo l ms k = true) ∧ Hid (Below w.heap.size w wr)) (fun s12 _ => n' - (intOf s12).toNat)
    case atStart => exact ⟨0, by omega, rfl, Lib.hid rfl, HB2⟩
    case round =>
      obtain ⟨k, hk, rfl, HU, HB⟩ := hrel
      rename World => wr
      by_cases hkn : k < n'
      · obtain ⟨b, off, rfl, hlt, hcell⟩ := (HM.out.kept HB.out).cells (by omega)
        obtain ⟨h1, h2, h3⟩ := hcell k hkn
        have hsz := HM.out.size _ (mat_mem (l := ms) (i := k) (by have := HL'.out; omega))
        obtain ⟨x1, hx1⟩ : ∃ x, x = (ms.getD k mat0).1 := ⟨_, rfl⟩
        obtain ⟨x2, hx2⟩ : ∃ x, x = (ms.getD k mat0).2.1 := ⟨_, rfl⟩
        obtain ⟨x3, hx3⟩ : ∃ x, x = (ms.getD k mat0).2.2 := ⟨_, rfl⟩
        rw [← hx1] at h1 hsz
        rw [← hx2] at h2
        rw [← hx3] at h3 hsz
        obtain ⟨hs1, hs2⟩ := hsz
        have hm0 : ms.getD k mat0 = (x1, x2, x3) := by rw [hx1, hx2, hx3]
        have hb3 : Below w.heap.size w (wr.alloc (.cells #[.string x1, .int .i64 x2, .string x3] 33)) := HB.out.alloc HB.out.size _
        have hno := fun (h : (asksB (x1, x2, x3) && meet1 (lst l x1 n) x2 x3) = false) => (show meetsB l ms = false by
          rw [HR.out]
          have := meetTo_no (l := l) (ms := ms) (k := k) (by rw [hm0, HL.out]; exact h) (n' - (k + 1))
          rw [show k + 1 + (n' - (k + 1)) = n' from by omega] at this
          exact this)
        have hyes := fun (h : (asksB (x1, x2, x3) && meet1 (lst l x1 n) x2 x3) = true) => (show meetTo l ms (k + 1) = true by rw [meetTo, HU.out, hm0, HL.out]; exact h)
        obtain ⟨w3, hw3⟩ : ∃ w3, w3 = wr.alloc (.cells #[.string x1, .int .i64 x2, .string x3] 33) := ⟨_, rfl⟩
        have hlt3 : wr.heap.size < w3.heap.size := by rw [hw3]; exact (Array.getElem?_eq_some_iff.1 (heap_alloc_new wr _)).1
        have hcs := mat_cells wr 33 (.string x1) (.int .i64 x2) (.string x3)
        rw [← hw3] at hcs hb3
        have hask : Calls Try.prog 20 #[.agg #[.string x1, .int .i64 x2, .string x3]] (wr.alloc (.cells #[.string x1, .int .i64 x2, .string x3] 33)) fun e w' => e = .returned (.bool (asksB (x1, x2, x3))) ∧ Below w3.heap.size w3 w' := by
          rw [← hw3]; exact asks_any x1 x3 x2 hs1 hs2 w3
        have hc4 : ∀ w4, Below w3.heap.size w3 w4 → w4.cell? ⟨wr.heap.size, 0, none⟩ = some (.string x1) ∧ w4.cell? ⟨wr.heap.size, 1, none⟩ = some (.int .i64 x2) ∧ w4.cell? ⟨wr.heap.size, 2, none⟩ = some (.string x3) := fun w4 h4 =>
          ⟨(h4.cell (p := ⟨wr.heap.size, 0, none⟩) hlt3).trans hcs.1, (h4.cell (p := ⟨wr.heap.size, 1, none⟩) hlt3).trans hcs.2.1, (h4.cell (p := ⟨wr.heap.size, 2, none⟩) hlt3).trans hcs.2.2⟩
        have HC4 := Lib.hid hc4
        have HB3 := Lib.hid hb3
        have HNO := Lib.hid hno
        have HYES := Lib.hid hyes
        clear hw3 hcs hx1 hx2 hx3 hcell hm0 hb3 hno hyes hlt3 hc4
        cases ha : asksB (x1, x2, x3) with
        | false =>
          rw [ha] at hask
          have HA := Lib.hid hask
          have HF := Lib.hid (HNO.out (by rw [ha]; rfl))
          clear hask ha
          go_wp2_with fail
          refine HA.out.mono ?_
          rintro e w4 ⟨rfl, hb4⟩
          have HB4 := Lib.hid (HB3.out.trans (hb4.mono HB3.out.size))
          clear hb4
          go_wp2_with fail
          go_ret
          rw [HF.out]; exact ⟨rfl, HB4.out⟩
        | true =>
          rw [ha] at hask
          have HA := Lib.hid hask
          have HAB := Lib.hid ha
          clear hask ha
          cases hm : meet1 (lst l x1 n) x2 x3 with
          | false =>
            have HF := Lib.hid (HNO.out (by rw [hm, Bool.and_false]))
            go_wp2_with fail
            refine HA.out.mono ?_
            rintro e w4 ⟨rfl, hb4⟩
            obtain ⟨e0, e1, e2⟩ := HC4.out w4 hb4
            have hb5 := HB3.out.trans (hb4.mono HB3.out.size)
            have HME := Lib.hid (meets1_any (HH.out.keep hb5 (Nat.le_refl _)) HS.out x1 x3 x2 hs1 hs2)
            have HB4 := Lib.hid hb5
            clear hb4 hb5
            go_wp2_with fail
            refine HME.out.mono ?_
            rw [hm]
            rintro e w5 ⟨rfl, hb5⟩
            have HB5 := Lib.hid (HB4.out.trans (hb5.mono HB4.out.size))
            clear hb5
            go_wp2_with fail
            go_ret
            rw [HF.out]; exact ⟨rfl, HB5.out⟩
          | true =>
            have HU2 := Lib.hid (HYES.out (by rw [HAB.out, hm]; rfl))
            go_wp2_with fail
            refine HA.out.mono ?_
            rintro e w4 ⟨rfl, hb4⟩
            obtain ⟨e0, e1, e2⟩ := HC4.out w4 hb4
            have hb5 := HB3.out.trans (hb4.mono HB3.out.size)
            have HME := Lib.hid (meets1_any (HH.out.keep hb5 (Nat.le_refl _)) HS.out x1 x3 x2 hs1 hs2)
            have HB4 := Lib.hid hb5
            clear hb4 hb5
            go_wp2_with fail
            refine HME.out.mono ?_
            rw [hm]
            rintro e w5 ⟨rfl, hb5⟩
            have HB5 := Lib.hid (HB4.out.trans (hb5.mono HB4.out.size))
            clear hb5
            go_wp2_with fail
            go_roundw
            case rel => exact ⟨k + 1, by omega, by go_num, HU2, HB5⟩
            case measure => simp [intOf]; omega
      · obtain rfl : k = n' := by omega
        have HT := Lib.hid (show meetsB l ms = true by rw [HR.out]; exact HU.out)
        clear hkn
        go_wp2_with fail
        go_ret
        rw [HT.out]; exact ⟨rfl, HB.out⟩
end Go.Proofs.Ytmnfdkclkjeggaa
