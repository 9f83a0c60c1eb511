/- Labels: the reference's Byte, Value, Text, walked. -/
import Derived.Test.YtjbljplgkbnpmaaLabText
import Derived.BigRegion
namespace Go.Proofs.Ytjbljplgkbnpmaa
open Go.RowKit LabPlain
set_option linter.unusedVariables false

theorem bs_append (xs ys : List Nat) : bs (xs ++ ys) = bs xs ++ bs ys := by
  apply toList_inj
  rw [ByteArray.toList_eq, ByteArray.toList_eq, ByteArray.data_append, Array.toList_append]
  simp only [bs, strOfNums_data, List.map_append]
theorem qb_len (c : Nat) : (qb c).length ≤ 3 := by unfold qb; split <;> simp

set_option maxRecDepth 100000 in
set_option maxHeartbeats 1000000 in
theorem byte_any (c : Nat) (hcl : c < 256) (w : World) :
    Calls Try.prog 92 #[.int .u8 (c : Int)] w fun e w' => e = .returned (.string (bs (qb c))) ∧ Below w.heap.size w w' := by
  by_cases hp : plainC c = true
  · have hpp : 32 ≤ c ∧ c ≤ 126 ∧ c ≠ 34 ∧ c ≠ 92 := by simpa [plainC, and_assoc] using hp
    obtain ⟨p1, p2, p3, p4⟩ := hpp
    have HQ := Lib.hid (show qb c = [c] by unfold qb; rw [if_pos hp])
    have i1 : (32 : Int) ≤ (c : Int) := by omega
    have i2 : (c : Int) ≤ 126 := by omega
    have i3 : ((c : Int) != 34) = true := by rw [bne_iff_ne]; omega
    have i4 : ((c : Int) != 92) = true := by rw [bne_iff_ne]; omega
    have hcv : (convert 109 9 (.slice (some ⟨w.heap.size, 0, none⟩) 1 1)).run Try.prog (w.alloc (.cells #[.int .u8 (c : Int)] 5)) = .ok (.string (bs [c])) (w.alloc (.cells #[.int .u8 (c : Int)] 5)) := (BytesAt.lit w #[.int .u8 (c : Int)] [c] rfl (by intro x hx; simp at hx; omega) (by simp) (by simp)).conv
    have HB := Lib.hid (show Below w.heap.size w (w.alloc (.cells #[.int .u8 (c : Int)] 5)) from (Below.refl _ _).alloc (Nat.le_refl _) _)
    clear p1 p2 p3 p4 hp
    go_enter Try.func92, Try.ntmps92
    go_wp2_with fail
    go_ret
    rw [HQ.out]; exact ⟨rfl, HB.out⟩
  · have hp2 : plainC c = false := by simpa using hp
    have HQ := Lib.hid (show qb c = [92, dg (c / 16), dg (c % 16)] by unfold qb; rw [if_neg hp])
    have hpp : ((c : Int) < 32) ∨ ((32 : Int) ≤ (c : Int) ∧ (126 : Int) < (c : Int)) ∨ ((32 : Int) ≤ (c : Int) ∧ (c : Int) ≤ 126 ∧ ((c : Int) != 34) = false) ∨ ((32 : Int) ≤ (c : Int) ∧ (c : Int) ≤ 126 ∧ ((c : Int) != 34) = true ∧ ((c : Int) != 92) = false) := by
      simp [plainC] at hp2
      simp only [bne_iff_ne, bne_eq_false_iff_eq]
      omega
    obtain ⟨h, hh⟩ : ∃ h, h = c / 16 := ⟨_, rfl⟩
    obtain ⟨l, hl⟩ : ∃ l, l = c % 16 := ⟨_, rfl⟩
    have hdiv : (c : Int) / 16 = (h : Int) := by omega
    have hmod : (c : Int) % 16 = (l : Int) := by omega
    have hdiv2 : (c : Int).tdiv 16 = (h : Int) := by rw [Int.tdiv_eq_ediv_of_nonneg (by omega)]; exact hdiv
    have hmod2 : (c : Int).tmod 16 = (l : Int) := by rw [Int.tmod_eq_emod_of_nonneg (by omega)]; exact hmod
    have hh16 : h < 16 := by omega
    have hl16 : l < 16 := by omega
    have hhi : (h : Int) < 16 := by omega
    have hli : (l : Int) < 16 := by omega
    rw [← hl, ← hh] at HQ
    obtain ⟨d1, hd1⟩ : ∃ d, d = dg h := ⟨_, rfl⟩
    obtain ⟨d2, hd2⟩ : ∃ d, d = dg l := ⟨_, rfl⟩
    have hx1 : ((({ data := #[48, 49, 50, 51, 52, 53, 54, 55, 56, 57, 97, 98, 99, 100, 101, 102] } : ByteArray)[h]'hh16).toNat : Nat) = d1 := by
      have := dig_at h hh16
      rw [ByteArray.getElem?_lt' _ _ hh16] at this
      rw [hd1]
      exact Option.some.inj this
    have hx2 : ((({ data := #[48, 49, 50, 51, 52, 53, 54, 55, 56, 57, 97, 98, 99, 100, 101, 102] } : ByteArray)[l]'hl16).toNat : Nat) = d2 := by
      have := dig_at l hl16
      rw [ByteArray.getElem?_lt' _ _ hl16] at this
      rw [hd2]
      exact Option.some.inj this
    have hd1l : d1 < 256 := by rw [hd1]; exact dg_lt _ hh16
    have hd2l : d2 < 256 := by rw [hd2]; exact dg_lt _ hl16
    rw [← hd1, ← hd2] at HQ
    have hcv : (convert 109 9 (.slice (some ⟨w.heap.size, 0, none⟩) 3 3)).run Try.prog (w.alloc (.cells #[.int .u8 92, .int .u8 (d1 : Int), .int .u8 (d2 : Int)] 5)).drew = .ok (.string (bs [92, d1, d2])) (w.alloc (.cells #[.int .u8 92, .int .u8 (d1 : Int), .int .u8 (d2 : Int)] 5)).drew := ((BytesAt.lit w #[.int .u8 92, .int .u8 (d1 : Int), .int .u8 (d2 : Int)] [92, d1, d2] rfl (by intro x hx; simp at hx; omega) (by simp) (by simp)).drew).conv
    have HB := Lib.hid (show Below w.heap.size w ((w.alloc (.cells #[.int .u8 92, .int .u8 (d1 : Int), .int .u8 (d2 : Int)] 5)).drew) from ((Below.refl _ _).alloc (Nat.le_refl _) _).drew)
    clear hp hp2 hh hl hd1 hd2
    rcases hpp with i1 | ⟨i1, i2⟩ | ⟨i1, i2, i3⟩ | ⟨i1, i2, i3, i4⟩
    all_goals
      go_enter Try.func92, Try.ntmps92
      go_wp2_with fail
      go_region
      go_wp2_with fail
      go_ret
      rw [HQ.out]; exact ⟨rfl, HB.out⟩

set_option maxRecDepth 100000 in
set_option maxHeartbeats 1000000 in
theorem value_any (s : ByteArray) (hs : s.size ≤ 1000) (w : World) :
    Calls Try.prog 67 #[.string s] w fun e w' => e = .returned (.string (bs (qs s s.size))) ∧ Below w.heap.size w w' := by
  go_enter Try.func67, Try.ntmps67
  go_wp2_with fail
  go_loopw [3, 4] (fun s3 s4 wr => ∃ (k : Nat) (t : ByteArray), k ≤ s.size ∧ s4 = .int .i64 (k : Int) ∧ s3 = .string t ∧ Hid (t = bs (qs s k)) ∧ Hid (Below w.heap.size w wr)) (fun _ s4 _ => s.size - (intOf s4).toNat)
  case atStart => exact ⟨0, _, by omega, rfl, rfl, Lib.hid rfl, Lib.hid (Below.refl _ _)⟩
  case round =>
    obtain ⟨k, t, hk, rfl, rfl, HT, HB⟩ := hrel
    rename World => wr
    have hts : t.size ≤ 3000 := by rw [HT.out, bs_size]; have := qs_len s k; omega
    by_cases hks : k < s.size
    · obtain ⟨c, hc⟩ : ∃ c, c = at_ s k := ⟨_, rfl⟩
      have hsk : (s[k]'hks).toNat = c := by rw [hc, at_get s k hks]
      have hcl : c < 256 := by rw [hc]; exact at_lt s k
      obtain ⟨q, hqe⟩ : ∃ q, q = bs (qb c) := ⟨_, rfl⟩
      have hqs : q.size ≤ 3 := by rw [hqe, bs_size]; exact qb_len c
      have hby := byte_any c hcl wr
      rw [← hqe] at hby
      have HBY := Lib.hid hby
      have HTN := Lib.hid (show t ++ q = bs (qs s (k + 1)) by rw [qs, bs_append, ← hc, HT.out, hqe])
      have f1 : ¬ 9223372036854775807 < t.size + q.size := by omega
      clear hc hqe hby
      go_wp2_with fail
      refine HBY.out.mono ?_
      rintro e w2 ⟨rfl, hb2⟩
      have HB2 := Lib.hid (HB.out.trans (hb2.mono HB.out.size))
      clear hb2
      go_wp2_with fail
      go_roundw
      case rel => exact ⟨k + 1, _, by omega, by go_num, rfl, HTN, HB2⟩
      case measure => simp [intOf]; omega
    · obtain rfl : k = s.size := by omega
      clear hks
      go_wp2_with fail
      go_ret
      rw [← HT.out]; exact ⟨rfl, HB.out⟩

set_option maxRecDepth 100000 in
set_option maxHeartbeats 2000000 in
theorem rtext_any {w : World} {a : Option Addr} {n c : Nat} {l : List Lab} (h : LabsAt w a n c l) (hs : isSet l = true) :
    Calls Try.prog 22 #[.slice a n c] w fun e w' => e = .returned (.string (textOf l)) ∧ Below w.heap.size w w' := by
  have HH := Lib.hid h
  have HS := Lib.hid hs
  have hlen := h.len
  have hcap := h.cap
  have hcapm := h.capm
  have h4 : n ≤ 4 := by unfold isSet at hs; simp only [Bool.and_eq_true, decide_eq_true_eq] at hs; omega
  have HL := Lib.hid hlen
  clear h hs hlen
  go_enter Try.func22, Try.ntmps22
  go_wp2_with fail
  go_loopw [3, 8] (fun s3 s8 wr => ∃ (k : Nat) (t : ByteArray), k ≤ n ∧ s8 = .int .i64 (k : Int) ∧ s3 = .string t ∧ Hid (t = textTo l k) ∧ Hid (Below w.heap.size w wr)) (fun _ s8 _ => n - (intOf s8).toNat)
  case atStart => exact ⟨0, _, by omega, rfl, rfl, Lib.hid rfl, Lib.hid (Below.refl _ _)⟩
  case round =>
    obtain ⟨k, t, hk, rfl, rfl, HT, HB⟩ := hrel
    rename World => wr
    have hts : t.size ≤ 300 := by have := textTo_size HS.out k (by have := HL.out; omega); rw [HT.out]; omega
    by_cases hkn : k < n
    · obtain ⟨b, off, rfl, hlt, hcell⟩ := (HH.out.kept HB.out).cells (by omega)
      obtain ⟨h1, h2⟩ := hcell k hkn
      have hsz := set_at HS.out (k := k) (by have := HL.out; omega)
      obtain ⟨x1, hx1⟩ : ∃ x, x = (l.getD k lab0).1 := ⟨_, rfl⟩
      obtain ⟨x2, hx2⟩ : ∃ x, x = (l.getD k lab0).2 := ⟨_, rfl⟩
      rw [← hx1] at h1 hsz
      rw [← hx2] at h2 hsz
      have HX := Lib.hid (And.intro hx1 hx2)
      have hs1 := hsz.1
      have hs2 := hsz.2
      clear hcell hx1 hx2 hsz
      obtain ⟨bx, hbx⟩ : ∃ bx, bx = wr.heap.size := ⟨_, rfl⟩
      obtain ⟨w2, hw2⟩ : ∃ w2, w2 = wr.alloc (.cells #[.string x1, .string x2] 41) := ⟨_, rfl⟩
      have hb2 : Below w.heap.size w w2 := by rw [hw2]; exact HB.out.alloc HB.out.size _
      have hblk : w2.heap[bx]? = some (.cells #[.string x1, .string x2] 41 (0, 0)) := by rw [hw2, hbx]; exact heap_alloc_new wr _
      have e1 : w2.cell? ⟨bx, 0, none⟩ = some (.string x1) := by rw [cell_of_row w2 bx 0 _ _ (0, 0) hblk]; rfl
      have e2 : w2.cell? ⟨bx, 1, none⟩ = some (.string x2) := by rw [cell_of_row w2 bx 1 _ _ (0, 0) hblk]; rfl
      have hbl : bx < w2.heap.size := (Array.getElem?_eq_some_iff.1 hblk).1
      have hq := value_any x2 (by omega) w2.drew
      obtain ⟨q, hqe⟩ : ∃ q, q = bs (qs x2 x2.size) := ⟨_, rfl⟩
      have hqs : q.size ≤ 48 := by rw [hqe, bs_size]; have := qs_len x2 x2.size; omega
      rw [← hqe] at hq
      have HQ := Lib.hid hq
      have HQE := Lib.hid hqe
      have HB2 := Lib.hid hb2
      have HW2 := Lib.hid hw2
      have HBX := Lib.hid hbx
      clear hw2 hbx hblk hq hqe hb2
      have HLT := Lib.hid (show labText (l.getD k lab0) = x1 ++ { data := #[61, 34] } ++ q ++ { data := #[34] } by unfold labText; rw [← HX.out.1, ← HX.out.2, ← HQE.out])
      have HAS := Lib.hid (show ∀ u : ByteArray, u ++ x1 ++ { data := #[61] } ++ { data := #[34] } ++ q ++ { data := #[34] } = u ++ (x1 ++ { data := #[61, 34] } ++ q ++ { data := #[34] }) from fun u => by
        have e : ({ data := #[61, 34] } : ByteArray) = { data := #[61] } ++ { data := #[34] } := by decide +kernel
        rw [e]; simp only [ByteArray.append_assoc])
      rcases Nat.eq_zero_or_pos k with rfl | hk0
      · rw [Nat.zero_mul, Nat.add_zero] at h1 h2
        have f1 : ¬ 9223372036854775807 < t.size + x1.size := by omega
        have f2 : ¬ 9223372036854775807 < t.size + x1.size + 1 := by omega
        have f3 : ¬ 9223372036854775807 < t.size + x1.size + 1 + 1 := by omega
        have f4 : ¬ 9223372036854775807 < t.size + x1.size + 1 + 1 + q.size := by omega
        have f5 : ¬ 9223372036854775807 < t.size + x1.size + 1 + 1 + q.size + 1 := by omega
        have HTN := Lib.hid (show t ++ x1 ++ { data := #[61] } ++ { data := #[34] } ++ q ++ { data := #[34] } = textTo l (0 + 1) by rw [HAS.out, textTo, if_pos rfl, HLT.out, ← HT.out])
        go_wp2_with fail
        rw [← HW2.out, ← HBX.out]
        go_region_held3 (fun w' => w'.cell? ⟨bx, 0, none⟩ = some (.string x1) ∧ w'.cell? ⟨bx, 1, none⟩ = some (.string x2)) (first | go_keep | exact ⟨(hbq.cell (p := ⟨bx, 0, none⟩) hbl).trans e1, (hbq.cell (p := ⟨bx, 1, none⟩) hbl).trans e2⟩) (first | (go_at_call 67; refine HQ.out.mono ?_; rintro r w3 ⟨rfl, hbq⟩))
        have HB3 := Lib.hid (HB2.out.drew.trans (hbq.mono HB2.out.size))
        clear hbq
        go_wp2_with fail
        go_roundw
        case rel => exact ⟨1, _, by omega, by go_num, rfl, HTN, HB3⟩
        case measure => simp [intOf]; omega
      · have hk0i : (1 : Int) ≤ (k : Int) := by omega
        have hk0j : (0 : Int) < (k : Int) := by omega
        have f0 : ¬ 9223372036854775807 < t.size + 1 := by omega
        have f1 : ¬ 9223372036854775807 < t.size + 1 + x1.size := by omega
        have f2 : ¬ 9223372036854775807 < t.size + 1 + x1.size + 1 := by omega
        have f3 : ¬ 9223372036854775807 < t.size + 1 + x1.size + 1 + 1 := by omega
        have f4 : ¬ 9223372036854775807 < t.size + 1 + x1.size + 1 + 1 + q.size := by omega
        have f5 : ¬ 9223372036854775807 < t.size + 1 + x1.size + 1 + 1 + q.size + 1 := by omega
        have HTN := Lib.hid (show t ++ { data := #[44] } ++ x1 ++ { data := #[61] } ++ { data := #[34] } ++ q ++ { data := #[34] } = textTo l (k + 1) by rw [HAS.out, textTo, if_neg (by omega), HLT.out, ← HT.out])
        go_wp2_with fail
        rw [← HW2.out, ← HBX.out]
        go_region_held3 (fun w' => w'.cell? ⟨bx, 0, none⟩ = some (.string x1) ∧ w'.cell? ⟨bx, 1, none⟩ = some (.string x2)) (first | go_keep | exact ⟨(hbq.cell (p := ⟨bx, 0, none⟩) hbl).trans e1, (hbq.cell (p := ⟨bx, 1, none⟩) hbl).trans e2⟩) (first | (go_at_call 67; refine HQ.out.mono ?_; rintro r w3 ⟨rfl, hbq⟩))
        have HB3 := Lib.hid (HB2.out.drew.trans (hbq.mono HB2.out.size))
        clear hbq
        go_wp2_with fail
        go_roundw
        case rel => exact ⟨k + 1, _, by omega, by go_num, rfl, HTN, HB3⟩
        case measure => simp [intOf]; omega
    · obtain rfl : k = n := by omega
      have f0 : ¬ 9223372036854775807 < t.size + 1 := by omega
      have HTX := Lib.hid (show textOf l = t ++ { data := #[125] } by unfold textOf; rw [HL.out, ← HT.out])
      clear hkn
      go_wp2_with fail
      go_ret
      rw [HTX.out]
      exact ⟨rfl, HB.out⟩
end Go.Proofs.Ytjbljplgkbnpmaa
