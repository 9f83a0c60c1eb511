/- Labels: the reference's Part, and package label's Get of any labels, walked. -/
import Derived.Test.YtjbljplgkbnpmaaLabStrP
namespace Go.Proofs.Ytjbljplgkbnpmaa
open Go.RowKit LabPlain
set_option linter.unusedVariables false

/-- the first value of a name, and is there one? -/
def fst1 (nm : ByteArray) : List Lab → ByteArray × Bool
  | [] => (ByteArray.empty, false)
  | x :: r => if x.1 = nm then (x.2, true) else fst1 nm r
theorem fst1_drop (nm : ByteArray) {l : List Lab} {k : Nat} (h : k < l.length) : fst1 nm (l.drop k) = if (l.getD k lab0).1 = nm then ((l.getD k lab0).2, true) else fst1 nm (l.drop (k + 1)) := by
  rw [List.drop_eq_getElem_cons h, fst1, show l.getD k lab0 = l[k] by simp [h]]

set_option maxRecDepth 100000 in
set_option maxHeartbeats 1000000 in
theorem get2_any {w : World} {a : Option Addr} {n c : Nat} {l : List Lab} (h : LabsAt w a n c l) (nm : ByteArray) :
    Calls Try.prog 26 #[.slice a n c, .string nm] w fun e w' => e = .returned (.tuple #[.string (fst1 nm l).1, .bool (fst1 nm l).2]) ∧ Below w.heap.size w w' := by
  have hlen := h.len
  have hcap := h.cap
  have hcm := h.capm
  have HH := Lib.hid h
  have HL := Lib.hid hlen
  clear h hlen
  go_enter Try.func26, Try.ntmps26
  go_wp2_with fail
  go_loopw [10] (fun s10 wr => ∃ k : Nat, k ≤ n ∧ s10 = .int .i64 (k : Int) ∧ Hid (fst1 nm l = fst1 nm (l.drop k)) ∧ Hid (Below w.heap.size w wr)) (fun s10 _ => n - (intOf s10).toNat)
  case atStart => exact ⟨0, by omega, rfl, Lib.hid rfl, Lib.hid (Below.refl _ _)⟩
  case round =>
    obtain ⟨k, hk, rfl, HU, HB⟩ := hrel
    rename World => wr
    by_cases hkn : k < n
    · obtain ⟨b, off, rfl, hlt, hcell⟩ := (HH.out.kept HB.out).cells (by omega)
      obtain ⟨h1, h2⟩ := hcell k hkn
      have hd := fst1_drop nm (l := l) (k := k) (by have := HL.out; omega)
      obtain ⟨x1, hx1⟩ : ∃ x, x = (l.getD k lab0).1 := ⟨_, rfl⟩
      obtain ⟨x2, hx2⟩ : ∃ x, x = (l.getD k lab0).2 := ⟨_, rfl⟩
      rw [← hx1] at h1
      rw [← hx2] at h2
      rw [← hx1, ← hx2] at hd
      have HD := Lib.hid hd
      have hb2 : Below w.heap.size w (wr.alloc (.cells #[.string x1, .string x2] 41)) := HB.out.alloc HB.out.size _
      have HB2 := Lib.hid hb2
      clear hx1 hx2 hcell hb2 hd
      by_cases he : x1 = nm
      · have HR := Lib.hid (show fst1 nm l = (x2, true) by rw [HU.out, HD.out, if_pos he])
        have hq : (x1.toList == nm.toList) = true := by rw [eq_toList]; exact decide_eq_true he
        clear he
        go_wp2_with fail
        go_ret2
        rw [HR.out]; exact ⟨rfl, HB2.out⟩
      · have HU2 := Lib.hid (show fst1 nm l = fst1 nm (l.drop (k + 1)) by rw [HU.out, HD.out, if_neg he])
        have hq : (x1.toList == nm.toList) = false := by rw [eq_toList]; exact decide_eq_false he
        clear he
        go_wp2_with fail
        go_roundw
        case rel => exact ⟨k + 1, by omega, by go_num, HU2, HB2⟩
        case measure => simp [intOf]; omega
    · obtain rfl : k = n := by omega
      have HR := Lib.hid (show fst1 nm l = (ByteArray.empty, false) by rw [HU.out, List.drop_eq_nil_of_le (by rw [HL.out]; exact Nat.le_refl _)]; rfl)
      clear hkn
      go_wp2_with fail
      go_ret2
      rw [HR.out]; exact ⟨rfl, HB.out⟩

set_option maxRecDepth 100000 in
set_option maxHeartbeats 2000000 in
theorem rpart_any {w : World} {a b : Option Addr} {n c m d : Nat} {l : List Lab} {ss : List ByteArray} (h : LabsAt w a n c l) (h' : StrsAt w b m d ss) (hn : n ≤ 1000) :
    Calls Try.prog 27 #[.slice a n c, .slice b m d] w fun e w' => ∃ a' c', e = .returned (.slice a' (partTo l ss n).length c') ∧ LabsAt w' a' (partTo l ss n).length c' (partTo l ss n) ∧ Below w.heap.size w w' := by
  obtain ⟨i0, hi, hz0, hz1, hz2⟩ := info_parts lab_info
  have HO0 := Lib.hid (World.ownsRow_lit (base := w.heap.size) (e := 41) (size := 2) w #[] 0 (Nat.le_refl _) (by unfold maxLen; omega) rfl)
  have HB0 := Lib.hid (show Below w.heap.size w (w.alloc (.cells #[] 41)) from (Below.refl _ _).alloc (Nat.le_refl _) _)
  have hcap := h.cap
  have hcm := h.capm
  have hcap' := h'.cap
  have hcm' := h'.capm
  have HH := Lib.hid h
  have HS := Lib.hid h'
  have HL := Lib.hid h.len
  have HL' := Lib.hid h'.len
  clear h h'
  go_enter Try.func27, Try.ntmps27
  go_wp2_with fail
  go_loopw [5, 13] (fun s5 s13 wr => ∃ (k m cp : Nat) (a : Option Addr), k ≤ n ∧ s13 = .int .i64 (k : Int) ∧ s5 = .slice a m cp ∧ Hid (m = (partTo l ss k).length) ∧ Hid (wr.ownsRow w.heap.size 41 2 (.slice a m cp) m (lcells (partTo l ss k))) ∧ Hid (Below w.heap.size w wr)) (fun _ s13 _ => n - (intOf s13).toNat)
  case atStart => exact ⟨0, 0, 0, _, by omega, rfl, rfl, Lib.hid rfl, HO0, HB0⟩
  case round =>
    clear HO0 HB0
    obtain ⟨k, m', cp, a', hk, rfl, rfl, HM, HO, HB⟩ := hrel
    rename World => wr
    by_cases hkn : k < n
    · obtain ⟨b1, off, rfl, hlt, hcell⟩ := (HH.out.kept HB.out).cells (by omega)
      obtain ⟨h1, h2⟩ := hcell k hkn
      obtain ⟨x1, hx1⟩ : ∃ x, x = (l.getD k lab0).1 := ⟨_, rfl⟩
      obtain ⟨x2, hx2⟩ : ∃ x, x = (l.getD k lab0).2 := ⟨_, rfl⟩
      rw [← hx1] at h1
      rw [← hx2] at h2
      have HX := Lib.hid (show l.getD k lab0 = (x1, x2) by rw [hx1, hx2])
      have hm3 : m' ≤ 1000 := by have := partTo_len l ss k; have := HM.out; omega
      obtain ⟨bx, hbx⟩ : ∃ bx, bx = wr.heap.size := ⟨_, rfl⟩
      obtain ⟨w2, hw2⟩ : ∃ w2, w2 = wr.alloc (.cells #[.string x1, .string x2] 41) := ⟨_, rfl⟩
      have HB2 := Lib.hid (show Below w.heap.size w w2 by rw [hw2]; exact HB.out.alloc HB.out.size _)
      have HO2 := Lib.hid (show w2.ownsRow w.heap.size 41 2 (.slice a' m' cp) m' (lcells (partTo l ss k)) by rw [hw2]; exact HO.out.alloc _)
      have hblk : w2.heap[bx]? = some (.cells #[.string x1, .string x2] 41 (0, 0)) := by rw [hw2, hbx]; exact heap_alloc_new wr _
      have e1 : w2.cell? ⟨bx, 0, none⟩ = some (.string x1) := by rw [cell_of_row w2 bx 0 _ _ (0, 0) hblk]; rfl
      have e2 : w2.cell? ⟨bx, 1, none⟩ = some (.string x2) := by rw [cell_of_row w2 bx 1 _ _ (0, 0) hblk]; rfl
      have HW2 := Lib.hid hw2
      have HBX := Lib.hid hbx
      have hbs2 := HB2.out.size
      clear hw2 hbx hblk hx1 hx2 hcell
      go_wp2_with fail
      rw [← HW2.out, ← HBX.out]
      clear h1 h2 hlt
      go_loopw [5, 19] (fun s5 s19 wq => ∃ j : Nat, j ≤ m ∧ s19 = .int .i64 (j : Int) ∧ s5 = .slice a' m' cp ∧ Hid (∀ i, i < j → ss.getD i ByteArray.empty ≠ x1) ∧ wq = w2) (fun _ s19 _ => m - (intOf s19).toNat)
      case atStart => exact ⟨0, by omega, rfl, rfl, Lib.hid (fun i hi => absurd hi (Nat.not_lt_zero _)), rfl⟩
      case round =>
        obtain ⟨j, hj, rfl, rfl, HU, rfl⟩ := hrel
        by_cases hjm : j < m
        · obtain ⟨b', off', rfl, hlt, hcell⟩ := (HS.out.kept HB2.out).cells (by omega)
          have f1 := hcell j hjm
          obtain ⟨y, hy⟩ : ∃ y, y = ss.getD j ByteArray.empty := ⟨_, rfl⟩
          rw [← hy] at f1
          have HY := Lib.hid hy
          clear hcell hy
          by_cases he : y = x1
          · have hq : (y.toList == x1.toList) = true := by rw [eq_toList]; exact decide_eq_true he
            have HP := Lib.hid (show partTo l ss (k + 1) = partTo l ss k ++ [(x1, x2)] by rw [partTo, HX.out, memB_yes (k := j) (by have := HL'.out; omega) (by rw [← HY.out]; exact he)]; simp)
            rename World => w3
            have HB3 := Lib.hid (HB2.out.alloc HB2.out.size (.cells #[.string x1, .string x2] 41))
            have HO3 := Lib.hid (HO2.out.alloc (.cells #[.string x1, .string x2] 41))
            clear he
            go_wp2_with (at_builtin; refine wpList_append_own_at _ rfl (.tmp 27) (.tmp 29) 22 rfl w.heap.size 41 i0 _ 2 32 Try.underlying22 hi hz0 hz1 hz2 rfl (by decide) _ _ _ rfl HO3.out ⟨w3.heap.size, 0, none⟩ 1 1 [.string x1, .string x2] rfl rfl (two_src _ _ _ _) (lcells_one [(x1, x2)]) (by unfold maxLen; omega) (by omega) (by simp; omega) ?_)
            intro v4 w4 ho4 hg4 _ _
            obtain ⟨g4, c4, rfl⟩ := own_some2 ho4 (by omega)
            have HB4 := Lib.hid (below_own HB3.out HO3.out hg4 (Nat.le_refl _) (by simp; omega))
            have HO4 := Lib.hid ho4
            clear ho4 hg4
            go_wp2_with fail
            go_roundw
            case rel => exact ⟨k + 1, m' + 1, c4, _, by omega, by go_num, rfl, Lib.hid (by rw [HP.out, List.length_append, ← HM.out]; rfl), Lib.hid (by rw [HP.out, lcells_append]; exact HO4.out), HB4⟩
            case measure => simp [intOf]; omega
          · have hq : (y.toList == x1.toList) = false := by rw [eq_toList]; exact decide_eq_false he
            have HU2 := Lib.hid (show ∀ i, i < j + 1 → ss.getD i ByteArray.empty ≠ x1 from fun i hi => by
              rcases Nat.lt_or_ge i j with g | g
              · exact HU.out i g
              · obtain rfl : i = j := by omega
                rw [← HY.out]; exact he)
            clear he
            go_wp2_with fail
            go_roundw
            case rel => exact ⟨j + 1, by omega, by go_num, rfl, HU2, trivial⟩
            case measure => simp [intOf]; omega
        · obtain rfl : j = m := by omega
          have HP := Lib.hid (show partTo l ss (k + 1) = partTo l ss k by rw [partTo, HX.out, memB_no (by rw [HL'.out]; exact HU.out)]; simp)
          clear hjm
          go_wp2_with fail
          go_roundw
          case rel => exact ⟨k + 1, m', cp, _, by omega, by go_num, rfl, Lib.hid (by rw [HP.out]; exact HM.out), Lib.hid (by rw [HP.out]; exact HO2.out), HB2⟩
          case measure => simp [intOf]; omega
    · obtain rfl : k = n := by omega
      have hp : ∀ x ∈ partTo l ss k, x.1.size ≤ 140737488355328 ∧ x.2.size ≤ 140737488355328 := fun x hx => HH.out.size x (partTo_mem l ss k (by rw [HL.out]; exact Nat.le_refl _) x hx)
      obtain rfl : m' = (partTo l ss k).length := HM.out
      obtain ⟨a9, c9, he9, hat⟩ := LabsAt.ofOwn HO.out rfl hp
      simp only [Value.slice.injEq, true_and] at he9
      obtain ⟨rfl, rfl⟩ := he9
      have HAT := Lib.hid hat
      clear hkn hat hp
      go_wp2_with fail
      go_ret
      exact ⟨_, _, rfl, HAT.out, HB.out⟩
end Go.Proofs.Ytjbljplgkbnpmaa
