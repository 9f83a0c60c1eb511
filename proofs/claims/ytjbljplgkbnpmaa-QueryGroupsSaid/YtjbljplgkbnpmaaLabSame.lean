/- Labels: the reference's Same and Twin, walked. -/
import Derived.Test.YtjbljplgkbnpmaaLabRight
import Derived.Test.YtjbljplgkbnpmaaApnd
import Derived.BigQuiet
import Derived.Laws.StructEq
namespace Go.Proofs.Ytjbljplgkbnpmaa
open Go.RowKit LabPlain
set_option linter.unusedVariables false

theorem labs_ext {l m : List Lab} (hl : l.length = m.length) (h : ∀ i, i < l.length → l.getD i lab0 = m.getD i lab0) : l = m := by
  refine List.ext_getElem hl fun i h1 h2 => ?_
  have := h i h1
  simpa [h1, h2] using this
@[go_sem] theorem eq_lab (x1 x2 y1 y2 : ByteArray) (w : World) : (Op.equalIn 10000 41 (.agg #[.string x1, .string x2]) (.agg #[.string y1, .string y2])).run Try.prog w = .ok (x1.toList == y1.toList && x2.toList == y2.toList) w := by
  have us := Try.underlying9
  have ag := Try.isAgg9
  have zs := Try.sizeOf9
  have hS : Try.prog.underlying 41 = some (.struct (Try.prog.fieldsOf 41)) := by kernel_rfl
  have hp : Try.prog.stoodInHeld 41 = false := by kernel_rfl
  rw [show (10000 : Nat) = 9999 + 1 from rfl, run_equalIn_agg w 9999 41 _ _ hS hp]
  simp only [Program.fieldsOf, Try.underlying41]
  go_simp
  cases h1 : (x1.toList == y1.toList) <;> cases h2 : (x2.toList == y2.toList) <;> simp_all
@[go_sem] theorem guard_lab (x y : Operand) (xs ys : Array Value) (w : World) : (eqGuard .neq 41 x y (.agg xs) (.agg ys)).run Try.prog w = .ok () w := run_eqGuard_agg w .neq 41 x y xs ys (by kernel_rfl)
@[go_sem] theorem neq_lab (x1 x2 y1 y2 : ByteArray) (w : World) : (binOp .neq 41 (.agg #[.string x1, .string x2]) (.agg #[.string y1, .string y2])).run Try.prog w = .ok (.bool (!(x1.toList == y1.toList && x2.toList == y2.toList))) w := by
  rw [run_neq_struct, eq_lab]; rfl
set_option maxRecDepth 100000 in
set_option maxHeartbeats 1000000 in
theorem lsame_any {w : World} {a b : Option Addr} {n c n' c' : Nat} {l m : List Lab} (h : LabsAt w a n c l) (h' : LabsAt w b n' c' m) :
    Calls Try.prog 21 #[.slice a n c, .slice b n' c'] w fun e w' => e = .returned (.bool (decide (l = m))) ∧ Below w.heap.size w w' := by
  have hcap := h.cap
  have hcm := h.capm
  have hcap' := h'.cap
  have hcm' := h'.capm
  have HH := Lib.hid h
  have HH' := Lib.hid h'
  have HL := Lib.hid h.len
  have HL' := Lib.hid h'.len
  clear h h'
  by_cases hn : n = n'
  · subst hn
    have z0 : ((n : Int) != (n : Int)) = false := by simp
    go_enter Try.func21, Try.ntmps21
    go_wp2_with fail
    go_loopw [13] (fun s13 wr => ∃ k : Nat, k ≤ n ∧ s13 = .int .i64 (k : Int) ∧ Hid (∀ i, i < k → l.getD i lab0 = m.getD i lab0) ∧ Hid (Below w.heap.size w wr)) (fun s13 _ => n - (intOf s13).toNat)
    case atStart => exact ⟨0, by omega, rfl, Lib.hid (fun i hi => absurd hi (Nat.not_lt_zero _)), Lib.hid (Below.refl _ _)⟩
    case round =>
      obtain ⟨k, hk, rfl, HU, HB⟩ := hrel
      rename World => wr
      by_cases hkn : k < n
      · obtain ⟨b1, off, rfl, hlt, hcell⟩ := (HH.out.kept HB.out).cells (by omega)
        obtain ⟨h1, h2⟩ := hcell k hkn
        obtain ⟨b2, off2, rfl, hlt2, hcell2⟩ := (HH'.out.kept HB.out).cells (by omega)
        obtain ⟨g1, g2⟩ := hcell2 k hkn
        obtain ⟨x1, hx1⟩ : ∃ x, x = (l.getD k lab0).1 := ⟨_, rfl⟩
        obtain ⟨x2, hx2⟩ : ∃ x, x = (l.getD k lab0).2 := ⟨_, rfl⟩
        obtain ⟨y1, hy1⟩ : ∃ x, x = (m.getD k lab0).1 := ⟨_, rfl⟩
        obtain ⟨y2, hy2⟩ : ∃ x, x = (m.getD k lab0).2 := ⟨_, rfl⟩
        rw [← hx1] at h1
        rw [← hx2] at h2
        rw [← hy1] at g1
        rw [← hy2] at g2
        have HX := Lib.hid (show l.getD k lab0 = (x1, x2) by rw [hx1, hx2])
        have HY := Lib.hid (show m.getD k lab0 = (y1, y2) by rw [hy1, hy2])
        clear hx1 hx2 hy1 hy2 hcell hcell2
        have hkni : (k : Int) < (n : Int) := by omega
        have hk0 : (0 : Int) ≤ (k : Int) := by omega
        by_cases he : x1 = y1 ∧ x2 = y2
        · have q1 : (x1.toList == y1.toList) = true := by rw [eq_toList]; exact decide_eq_true he.1
          have q2 : (x2.toList == y2.toList) = true := by rw [eq_toList]; exact decide_eq_true he.2
          have HU2 := Lib.hid (show ∀ i, i < k + 1 → l.getD i lab0 = m.getD i lab0 from fun i hi => by
            rcases Nat.lt_or_ge i k with g | g
            · exact HU.out i g
            · obtain rfl : i = k := by omega
              rw [HX.out, HY.out, he.1, he.2])
          clear he
          go_wp2_with fail
          go_region
          go_wp2_with fail
          go_roundw
          case rel => exact ⟨k + 1, by omega, by go_num, HU2, Lib.hid HB.out.drew⟩
          case measure => simp [intOf]; omega
        · have HF := Lib.hid (show decide (l = m) = false by
            refine decide_eq_false fun e => he ?_
            have h1 := HX.out
            rw [e, HY.out] at h1
            simp only [Prod.mk.injEq] at h1
            exact ⟨h1.1.symm, h1.2.symm⟩)
          have q12 : (x1.toList = y1.toList ∧ ¬ x2.toList = y2.toList) ∨ ¬ x1.toList = y1.toList := by
            by_cases g1 : x1.toList = y1.toList
            · exact .inl ⟨g1, fun g2 => he ⟨toList_inj g1, toList_inj g2⟩⟩
            · exact .inr g1
          clear he
          rcases q12 with ⟨q1, q2⟩ | q1
          all_goals
            go_wp2_with fail
            go_region
            go_wp2_with fail
            go_ret
            rw [HF.out]; exact ⟨rfl, HB.out.drew⟩
      · obtain rfl : k = n := by omega
        have HT := Lib.hid (show decide (l = m) = true from decide_eq_true (labs_ext (by rw [HL.out, HL'.out]) (by rw [HL.out]; exact HU.out)))
        clear hkn
        go_wp2_with fail
        go_ret
        rw [HT.out]; exact ⟨rfl, HB.out⟩
  · have z0 : ((n : Int) != (n' : Int)) = true := by rw [bne_iff_ne]; omega
    have HF := Lib.hid (show decide (l = m) = false from decide_eq_false fun e => hn (by rw [← HL.out, ← HL'.out, e]))
    clear hn
    go_enter Try.func21, Try.ntmps21
    go_wp2_with fail
    go_ret
    rw [HF.out]; exact ⟨rfl, Below.refl _ _⟩

/-- the cells of labels, in a row -/
def lcells (l : List Lab) : List Value := l.flatMap fun x => [.string x.1, .string x.2]
theorem lcells_len (l : List Lab) : (lcells l).length = l.length * 2 := by
  induction l with
  | nil => rfl
  | cons x r ih =>
    have : lcells (x :: r) = .string x.1 :: .string x.2 :: lcells r := rfl
    rw [this, List.length_cons, List.length_cons, ih, List.length_cons]; omega
theorem lcells_at : ∀ (l : List Lab) (i : Nat), i < l.length → (lcells l)[i * 2]? = some (.string (l.getD i lab0).1) ∧ (lcells l)[i * 2 + 1]? = some (.string (l.getD i lab0).2)
  | x :: r, 0, _ => ⟨rfl, rfl⟩
  | x :: r, i + 1, h => by
    have hc : lcells (x :: r) = .string x.1 :: .string x.2 :: lcells r := rfl
    have := lcells_at r i (by simpa using h)
    rw [hc, show (i + 1) * 2 = i * 2 + 1 + 1 from by omega]
    simpa using this
theorem lcells_one (l : List Lab) : ∀ u ∈ lcells l, u.oneCell' = true := by
  intro u hu
  obtain ⟨x, _, hx⟩ := List.mem_flatMap.1 hu
  simp at hx
  rcases hx with rfl | rfl <;> rfl
theorem lab_info : (Try.prog.info? 41).map (fun i => (i.zero, i.size, i.bytes)) = some (some (.agg #[.string ByteArray.empty, .string ByteArray.empty]), 2, 32) := by kernel_rfl
theorem LabsAt.src {w : World} {ad : Addr} {n c : Nat} {l : List Lab} (h : LabsAt w (some ad) n c l) : ∀ j u, (lcells l)[j]? = some u → w.cell? (ad.add j) = some u := by
  intro j u hj
  have hlt : j < n * 2 := by
    have := (List.getElem?_eq_some_iff.1 hj).1
    rw [lcells_len, h.len] at this; exact this
  obtain ⟨b, off, ha, _, hc⟩ := h.cells (by omega)
  cases ha
  have hadd : (⟨b, off, none⟩ : Addr).add j = ⟨b, off + j, none⟩ := by unfold Addr.add; split <;> simp_all
  rw [hadd]
  have hlt2 : j / 2 < l.length := by rw [h.len]; omega
  have h1 := hc (j / 2) (by omega)
  have h2 := lcells_at l (j / 2) hlt2
  rcases Nat.mod_two_eq_zero_or_one j with g | g
  · have e : j / 2 * 2 = j := by omega
    rw [e] at h1 h2
    rw [h1.1, ← h2.1, hj]
  · have e : j / 2 * 2 + 1 = j := by omega
    rw [show off + j / 2 * 2 + 1 = off + (j / 2 * 2 + 1) from by omega, e] at h1
    rw [e] at h2
    rw [h1.2, ← h2.2, hj]
/-- labels that a call owns -/
theorem LabsAt.ofOwn {w : World} {base n : Nat} {v : Value} {l : List Lab} (h : w.ownsRow base 41 2 v n (lcells l)) (hn : l.length = n) (hs : ∀ x ∈ l, x.1.size ≤ 140737488355328 ∧ x.2.size ≤ 140737488355328) : ∃ a c, v = .slice a n c ∧ LabsAt w a n c l := by
  rcases h.2 with ⟨rfl, h0⟩ | ⟨g, cap, cur, rfl, hg, hh, hnc, hcap, hsz, htake⟩
  · subst h0
    obtain rfl : l = [] := List.eq_nil_of_length_eq_zero hn
    exact ⟨none, 0, rfl, LabsAt.empty w none 0 (by omega) (fun _ => rfl)⟩
  · refine ⟨_, cap, rfl, hn, hnc, by unfold maxLen at hcap; exact hcap, (fun e => by cases e), hs, fun hp => ⟨g, 0, rfl, (Array.getElem?_eq_some_iff.1 hh).1, fun i hi => ?_⟩⟩
    have h2 := lcells_at l i (by omega)
    have hcu : ∀ j, j < n * 2 → w.cell? ⟨g, 0 + j, none⟩ = (lcells l)[j]? := by
      intro j hj
      rw [Nat.zero_add, cell_of_row w _ _ _ _ (0, 0) hh, ← htake, List.getElem?_take_of_lt hj, Array.getElem?_toList]
    rw [show 0 + i * 2 + 1 = 0 + (i * 2 + 1) from by omega, hcu _ (by omega), hcu _ (by omega)]
    exact h2
end Go.Proofs.Ytjbljplgkbnpmaa
