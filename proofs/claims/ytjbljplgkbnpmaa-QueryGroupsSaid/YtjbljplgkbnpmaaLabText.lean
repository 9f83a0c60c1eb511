/- Package label's Text, walked. -/
import Derived.Test.YtjbljplgkbnpmaaLabQuote
import Derived.Deep.RegionHeld3
namespace Go.Proofs.Ytjbljplgkbnpmaa
open Go.RowKit LabPlain
set_option linter.unusedVariables false

/-- a label, as it is written -/
def labText (x : Lab) : ByteArray := x.1 ++ { data := #[61, 34] } ++ bs (qs x.2 x.2.size) ++ { data := #[34] }
/-- the first k labels, as they are written -/
def textTo (l : List Lab) : Nat → ByteArray
  | 0 => { data := #[123] }
  | k + 1 => (if k = 0 then textTo l k else textTo l k ++ { data := #[44] }) ++ labText (l.getD k lab0)
def textOf (l : List Lab) : ByteArray := textTo l l.length ++ { data := #[125] }
theorem bs_size (xs : List Nat) : (bs xs).size = xs.length := by
  have h : (bs xs).size = (bs xs).data.toList.length := by rw [Array.length_toList]; rfl
  rw [h]
  simp only [bs, strOfNums_data, List.length_map]
theorem labText_size {x : Lab} (h1 : x.1.size ≤ 8) (h2 : x.2.size ≤ 16) : (labText x).size ≤ 59 := by
  have := qs_len x.2 x.2.size
  unfold labText
  rw [ByteArray.size_append, ByteArray.size_append, ByteArray.size_append, bs_size, show ({ data := #[61, 34] } : ByteArray).size = 2 from rfl, show ({ data := #[34] } : ByteArray).size = 1 from rfl]
  omega
theorem isNm_size {s : ByteArray} (h : isNm s = true) : s.size ≤ 8 := by
  unfold isNm at h
  simp only [Bool.and_eq_true, decide_eq_true_eq] at h
  exact h.1.1.2
theorem set_at {l : List Lab} (h : isSet l = true) {k : Nat} (hk : k < l.length) : (l.getD k lab0).1.size ≤ 8 ∧ (l.getD k lab0).2.size ≤ 16 := by
  unfold isSet at h
  simp only [Bool.and_eq_true, decide_eq_true_eq] at h
  have := upTo_le h.2 hk
  exact ⟨isNm_size this.1, this.2.1⟩
theorem textTo_size {l : List Lab} (h : isSet l = true) : ∀ k, k ≤ l.length → (textTo l k).size ≤ 1 + 60 * k
  | 0, _ => by show (1 : Nat) ≤ _; omega
  | k + 1, hk => by
    have ih := textTo_size h k (by omega)
    have h2 := set_at h (k := k) (by omega)
    have h3 := labText_size h2.1 h2.2
    rw [textTo, ByteArray.size_append]
    split
    · omega
    · rw [ByteArray.size_append, show ({ data := #[44] } : ByteArray).size = 1 from rfl]; omega

set_option maxRecDepth 100000 in
set_option maxHeartbeats 1000000 in
theorem text_no {w : World} {a : Option Addr} {n c : Nat} {l : List Lab} (h : LabsAt w a n c l) (hs : isSet l = false) :
    Calls Try.prog 18 #[.slice a n c] w fun e w' => e = .returned (.tuple #[.string { data := #[] }, .int .i64 4]) ∧ Below w.heap.size w w' := by
  have hr := right_any h
  rw [hs] at hr
  have HR := Lib.hid hr
  clear h hr hs
  go_enter Try.func18, Try.ntmps18
  go_wp2_with fail
  refine HR.out.mono ?_
  rintro e w1 ⟨rfl, hb⟩
  have HB := Lib.hid hb
  clear hb
  go_wp2_with fail
  go_ret2
  exact ⟨rfl, HB.out⟩

set_option maxRecDepth 100000 in
set_option maxHeartbeats 2000000 in
theorem text_yes {w : World} {a : Option Addr} {n c : Nat} {l : List Lab} (h : LabsAt w a n c l) (hs : isSet l = true) :
    Calls Try.prog 18 #[.slice a n c] w fun e w' => e = .returned (.tuple #[.string (textOf l), .int .i64 0]) ∧ Below w.heap.size w w' := by
  have hr := right_any h
  rw [hs] at hr
  have HR := Lib.hid hr
  have HH := Lib.hid h
  have HS := Lib.hid hs
  have hlen := h.len
  have hcap := h.cap
  have hcapm := h.capm
  have h4 : n ≤ 4 := by unfold isSet at hs; simp only [Bool.and_eq_true, decide_eq_true_eq] at hs; omega
  have HL := Lib.hid hlen
  clear h hr hs hlen
  go_enter Try.func18, Try.ntmps18
  go_wp2_with fail
  refine HR.out.mono ?_
  rintro e w1 ⟨rfl, hb1⟩
  have HB1 := Lib.hid hb1
  clear hb1
  go_wp2_with fail
  go_loopw [4, 12] (fun s4 s12 wr => ∃ (k : Nat) (t : ByteArray), k ≤ n ∧ s12 = .int .i64 (k : Int) ∧ s4 = .string t ∧ Hid (t = textTo l k) ∧ Hid (Below w.heap.size w wr)) (fun _ s12 _ => n - (intOf s12).toNat)
  case atStart => exact ⟨0, _, by omega, rfl, rfl, Lib.hid rfl, HB1⟩
  case round =>
    clear HB1
    obtain ⟨k, t, hk, rfl, rfl, HT, HB⟩ := hrel
    rename World => wr
    have hts : t.size ≤ 300 := by have := textTo_size HS.out k (by have := HL.out; omega); rw [HT.out]; omega
    by_cases hkn : k < n
    · obtain ⟨b, off, rfl, hlt, hcell⟩ := (HH.out.kept HB.out).cells (by omega)
      obtain ⟨h1, h2⟩ := hcell k hkn
      have hsz := set_at HS.out (k := k) (by have := HL.out; omega)
      obtain ⟨x1, hx1⟩ : ∃ x, x = (l.getD k lab0).1 := ⟨_, rfl⟩
      obtain ⟨x2, hx2⟩ : ∃ x, x = (l.getD k lab0).2 := ⟨_, rfl⟩
      rw [← hx1] at h1 hsz
      rw [← hx2] at h2 hsz
      have HX := Lib.hid (And.intro hx1 hx2)
      have hs1 := hsz.1
      have hs2 := hsz.2
      clear hcell hx1 hx2 hsz
      obtain ⟨bx, hbx⟩ : ∃ bx, bx = wr.heap.size := ⟨_, rfl⟩
      obtain ⟨w2, hw2⟩ : ∃ w2, w2 = wr.alloc (.cells #[.string x1, .string x2] 41) := ⟨_, rfl⟩
      have hb2 : Below w.heap.size w w2 := by rw [hw2]; exact HB.out.alloc HB.out.size _
      have hblk : w2.heap[bx]? = some (.cells #[.string x1, .string x2] 41 (0, 0)) := by rw [hw2, hbx]; exact heap_alloc_new wr _
      have e1 : w2.cell? ⟨bx, 0, none⟩ = some (.string x1) := by rw [cell_of_row w2 bx 0 _ _ (0, 0) hblk]; rfl
      have e2 : w2.cell? ⟨bx, 1, none⟩ = some (.string x2) := by rw [cell_of_row w2 bx 1 _ _ (0, 0) hblk]; rfl
      have hbl : bx < w2.heap.size := (Array.getElem?_eq_some_iff.1 hblk).1
      have hq := quoted_any x2 (by omega) w2.drew
      obtain ⟨q, hqe⟩ : ∃ q, q = bs (qs x2 x2.size) := ⟨_, rfl⟩
      have hqs : q.size ≤ 48 := by rw [hqe, bs_size]; have := qs_len x2 x2.size; omega
      rw [← hqe] at hq
      have HQ := Lib.hid hq
      have HQE := Lib.hid hqe
      have HB2 := Lib.hid hb2
      have HW2 := Lib.hid hw2
      have HBX := Lib.hid hbx
      clear hw2 hbx hblk hq hqe hb2
      have f1 : ¬ 9223372036854775807 < x1.size + 2 := by omega
      have f2 : ¬ 9223372036854775807 < x1.size + 2 + q.size := by omega
      have f3 : ¬ 9223372036854775807 < x1.size + 2 + q.size + 1 := by omega
      have HLT := Lib.hid (show labText (l.getD k lab0) = x1 ++ { data := #[61, 34] } ++ q ++ { data := #[34] } by unfold labText; rw [← HX.out.1, ← HX.out.2, ← HQE.out])
      rcases Nat.eq_zero_or_pos k with rfl | hk0
      · rw [Nat.zero_mul, Nat.add_zero] at h1 h2
        have f4 : ¬ 9223372036854775807 < t.size + (x1.size + 2 + q.size + 1) := by omega
        have HTN := Lib.hid (show textTo l (0 + 1) = t ++ (x1 ++ { data := #[61, 34] } ++ q ++ { data := #[34] }) by rw [textTo, if_pos rfl, HLT.out, ← HT.out])
        go_wp2_with fail
        rw [← HW2.out, ← HBX.out]
        go_region_held3 (fun w' => w'.cell? ⟨bx, 0, none⟩ = some (.string x1) ∧ w'.cell? ⟨bx, 1, none⟩ = some (.string x2)) (first | go_keep | exact ⟨(hbq.cell (p := ⟨bx, 0, none⟩) hbl).trans e1, (hbq.cell (p := ⟨bx, 1, none⟩) hbl).trans e2⟩) (first | (go_at_call 64; refine HQ.out.mono ?_; rintro r w3 ⟨rfl, hbq⟩))
        have HB3 := Lib.hid (HB2.out.drew.trans (hbq.mono HB2.out.size))
        clear hbq
        go_wp2_with fail
        go_roundw
        case rel => exact ⟨1, _, by omega, by go_num, rfl, Lib.hid HTN.out.symm, HB3⟩
        case measure => simp [intOf]; omega
      · have hk0i : (1 : Int) ≤ (k : Int) := by omega
        have hk0j : (0 : Int) < (k : Int) := by omega
        have f0 : ¬ 9223372036854775807 < t.size + 1 := by omega
        have f4 : ¬ 9223372036854775807 < t.size + 1 + (x1.size + 2 + q.size + 1) := by omega
        have HTN := Lib.hid (show textTo l (k + 1) = t ++ { data := #[44] } ++ (x1 ++ { data := #[61, 34] } ++ q ++ { data := #[34] }) by rw [textTo, if_neg (by omega), HLT.out, ← HT.out])
        go_wp2_with fail
        rw [← HW2.out, ← HBX.out]
        go_region_held3 (fun w' => w'.cell? ⟨bx, 0, none⟩ = some (.string x1) ∧ w'.cell? ⟨bx, 1, none⟩ = some (.string x2)) (first | go_keep | exact ⟨(hbq.cell (p := ⟨bx, 0, none⟩) hbl).trans e1, (hbq.cell (p := ⟨bx, 1, none⟩) hbl).trans e2⟩) (first | (go_at_call 64; refine HQ.out.mono ?_; rintro r w3 ⟨rfl, hbq⟩))
        have HB3 := Lib.hid (HB2.out.drew.trans (hbq.mono HB2.out.size))
        clear hbq
        go_wp2_with fail
        go_roundw
        case rel => exact ⟨k + 1, _, by omega, by go_num, rfl, Lib.hid HTN.out.symm, HB3⟩
        case measure => simp [intOf]; omega
    · obtain rfl : k = n := by omega
      have f0 : ¬ 9223372036854775807 < t.size + 1 := by omega
      have HTX := Lib.hid (show textOf l = t ++ { data := #[125] } by unfold textOf; rw [HL.out, ← HT.out])
      clear hkn
      go_wp2_with fail
      go_ret2
      rw [HTX.out]
      exact ⟨rfl, HB.out⟩
end Go.Proofs.Ytjbljplgkbnpmaa
