/- Texts put together by packtpl2.py: ColTurnedWalk, DeltaRef. -/
import Derived.Test.YtpbijdoemdoijaaGreatDoorPkCa33
import Derived.Deep.QuietTactic
import Derived.BigQuiet
section PkCa34_0
/- The walk of ColumnTurned, given what the table of crc holds: it returns true for all inputs. -/
namespace Go.Proofs.YtpbijdoemdoijaaGreatDoor
open Go.RowKit BitsPlain NumsPlain CrcPlain
open DeltaPlain (chk)
set_option linter.unusedVariables false

theorem val_setB : ∀ (xs : List Nat) (j y : Nat), (∀ x ∈ xs, x < 256) → j < xs.length → y < 256 → CrcPlain.val (xs.set j (xs.getD j 0 ^^^ y)) = CrcPlain.val xs ^^^ (2 ^ (8 * j) * y)
  | [], j, r, _, hj, _ => by simp at hj
  | x :: xs, 0, y, hb, _, h2 => by
    have hx : x < 256 := hb x List.mem_cons_self
    have hxr : x ^^^ y < 256 := Nat.xor_lt_two_pow (n := 8) hx h2
    simp only [List.set_cons_zero, List.getD_cons_zero, CrcPlain.val, Nat.mul_zero, Nat.pow_zero, Nat.one_mul]
    rw [CrcPlain.val_cons hxr, CrcPlain.val_cons hx, Nat.xor_assoc, Nat.xor_comm y, ← Nat.xor_assoc]
  | x :: xs, j + 1, y, hb, hj, hr => by
    have hx : x < 256 := hb x List.mem_cons_self
    have ih := val_setB xs j y (fun z hz => hb z (List.mem_cons_of_mem _ hz)) (by simpa using hj) hr
    simp only [List.set_cons_succ, List.getD_cons_succ, CrcPlain.val]
    rw [ih, CrcPlain.val_cons hx, CrcPlain.val_cons hx, Nat.xor_assoc]
    congr 1
    rw [show (256 : Nat) = 2 ^ 8 from rfl, mul_xor, ← Nat.mul_assoc, ← Nat.pow_add, show 8 + 8 * j = 8 * (j + 1) from by omega]
/-- the content of a column of integers -/
def intC (zs : List Int) : List Nat := bst zs :: eb zs (bst zs : Int)
theorem bst_le (zs : List Int) : bst zs ≤ 2 := by
  unfold bst
  split
  · omega
  · exact bu_lt zs 2
theorem chk_bst {zs : List Int} : chk zs (bst zs : Int) = chk zs 0 := chk_way (by have := bst_le zs; omega) (by omega)
theorem intC_len {zs : List Int} (h : chk zs 0 = 0) : (intC zs).length ≤ 30001 := by
  have h1 := eb_el h (bst zs) (bst_le zs)
  have h2 := el_le h (bst zs)
  simp only [intC, List.length_cons]
  omega

set_option maxRecDepth 100000 in
set_option maxHeartbeats 2000000 in
theorem intsContent_no {w : World} {a : Option Addr} {n c : Nat} {zs : List Int} (h : IntsAt .i64 w a n c zs) (hc : chk zs 0 ≠ 0) :
    Calls Tryz.prog 34 #[.slice a n c] w fun e w' => e = .returned (.tuple #[.slice none 0 0, .int .i64 ((chk zs 0 : Nat) : Int)]) ∧ Below w.heap.size w w' := by
  have HH := Lib.hid h
  have HB0 := Lib.hid (best_any h)
  obtain ⟨q, hq⟩ : ∃ q, q = chk zs 0 := ⟨_, rfl⟩
  rw [← hq] at hc ⊢
  have hq1 : ((q : Int) != 0) = true := by rw [bne_iff_ne]; omega
  have HQ := Lib.hid hq
  clear h hq hc
  go_enter Tryz.func34, Tryz.ntmps34
  go_wp2_with fail
  refine HB0.out.mono ?_
  rintro e w1 ⟨rfl, hb1⟩
  have HB1 := Lib.hid hb1
  have HE := encode_any (HH.out.kept hb1) (bst zs : Int)
  rw [chk_bst, ← HQ.out] at HE
  have HE := Lib.hid HE
  clear hb1
  go_wp2_with fail
  refine HE.out.mono ?_
  rintro e w2 ⟨a2, n2, c2, rfl, _, _, hb2⟩
  have HB2 := Lib.hid (HB1.out.trans (hb2.mono HB1.out.size))
  clear hb2
  go_wp2_with fail
  first | go_ret2 | go_ret
  exact ⟨rfl, HB2.out⟩

set_option maxRecDepth 100000 in
set_option maxHeartbeats 2000000 in
theorem intsContent_ok {w : World} {a : Option Addr} {n c : Nat} {zs : List Int} (h : IntsAt .i64 w a n c zs) (hc : chk zs 0 = 0) :
    Calls Tryz.prog 34 #[.slice a n c] w fun e w' => ∃ v, e = .returned (.tuple #[v, .int .i64 0]) ∧ w'.ownsRow w.heap.size 5 1 v (intC zs).length (bv (intC zs)) ∧ Below w.heap.size w w' := by
  have HH := Lib.hid h
  have HB0 := Lib.hid (best_any h)
  have HC := Lib.hid hc
  have HIL := Lib.hid (intC_len hc)
  obtain ⟨q, hq⟩ : ∃ q, q = bst zs := ⟨_, rfl⟩
  have hq2 : q ≤ 2 := by rw [hq]; exact bst_le zs
  have HQ := Lib.hid hq
  rw [← hq] at HB0
  clear h hc hq
  go_enter Tryz.func34, Tryz.ntmps34
  go_wp2_with fail
  refine HB0.out.mono ?_
  rintro e w1 ⟨rfl, hb1⟩
  have HB1 := Lib.hid hb1
  have HE := encode_any (HH.out.kept hb1) (q : Int)
  rw [show chk zs (q : Int) = 0 from by rw [HQ.out, chk_bst]; exact HC.out] at HE
  have HE := Lib.hid HE
  clear hb1
  go_wp2_with fail
  refine HE.out.mono ?_
  rintro e w2 ⟨a2, n2, c2, rfl, _, h2, hb2⟩
  have HB2 := Lib.hid (HB1.out.trans (hb2.mono HB1.out.size))
  have o3 := World.ownsRow_lit (base := w.heap.size) (e := 5) (size := 1) w2 #[.int .u8 (q : Int)] 1 HB2.out.size (by unfold maxLen; omega) rfl
  have hal : Below w2.heap.size w2 (w2.alloc (.cells #[.int .u8 (q : Int)] 5)) := (Below.refl _ _).alloc (Nat.le_refl _) _
  have HO3 := Lib.hid (show (w2.alloc (.cells #[.int .u8 (q : Int)] 5)).ownsRow w.heap.size 5 1 (.slice (some ⟨w2.heap.size, 0, none⟩) 1 1) 1 (bv [q]) from o3)
  have H3 := Lib.hid (h2.kept hal)
  have HB3 := Lib.hid (HB2.out.alloc HB2.out.size (.cells #[.int .u8 (q : Int)] 5))
  have HS3 := Lib.hid HB3.out.size
  have hn2 : n2 ≤ 30000 := by
    have h9 := HIL.out
    have h8 := h2.len
    simp only [intC, List.length_cons] at h9
    rw [← HQ.out] at h9
    omega
  have HL2 := Lib.hid h2.len
  clear h2 hb2 o3 hal
  go_wp2_with (at_builtin; refine wpList_append_bytes rfl (.tmp 20) (.tmp 21) rfl w.heap.size _ 1 [q] rfl HO3.out _ _ _ (eb zs (q : Int)) rfl H3.out (by omega) HS3.out ?_)
  intro v4 w4 ho4 hg4
  have HB4 := Lib.hid (below_own HB3.out HO3.out hg4 (Nat.le_refl _) HS3.out)
  have HO4 := Lib.hid (show w4.ownsRow w.heap.size 5 1 v4 (intC zs).length (bv (intC zs)) from by
    have e1 : intC zs = [q] ++ eb zs (q : Int) := by unfold intC; rw [HQ.out]; rfl
    have e2 : (intC zs).length = 1 + n2 := by rw [e1, List.length_append, HL2.out]; rfl
    rw [e2, e1]
    exact ho4)
  clear ho4 hg4
  go_wp2_with fail
  first | go_ret2 | go_ret
  exact ⟨_, rfl, HO4.out, HB4.out⟩

set_option maxRecDepth 100000 in
set_option maxHeartbeats 2000000 in
theorem putInts_ok {w : World} (hT : Table w) {a : Option Addr} {n c : Nat} {zs : List Int} (h : IntsAt .i64 w a n c zs) (hn : n ≤ 2048) (hc : chk zs 0 = 0) (hb : ∀ x ∈ intC zs, x < 256) :
    Calls Tryz.prog 9 #[.slice a n c] w fun e w' => ∃ a' m' c', e = .returned (.tuple #[.slice a' m' c', .int .i64 0]) ∧ w'.ownsRow w.heap.size 5 1 (.slice a' m' c') m' (bv (chunk 1 (intC zs))) ∧ BytesAt w' a' m' c' (chunk 1 (intC zs)) ∧ Below w.heap.size w w' := by
  have HP := Lib.hid (putI_any hT (k := 1) hn (by omega) (intsContent_ok h hc) hb (by have := intC_len hc; omega))
  clear hT h hc hb
  go_enter Tryz.func9, Tryz.ntmps9
  go_wp2_with fail
  refine HP.out.mono ?_
  rintro e w1 ⟨a', m', c', rfl, ho, hb, hbl⟩
  have HO := Lib.hid ho
  have HBY := Lib.hid hb
  have HB := Lib.hid hbl
  clear ho hb hbl
  go_wp2_with fail
  first | go_ret2 | go_ret
  exact ⟨a', m', c', rfl, HO.out, HBY.out, HB.out⟩

set_option maxRecDepth 100000 in
set_option maxHeartbeats 2000000 in
theorem putInts_no {w : World} {a : Option Addr} {n c : Nat} {zs : List Int} (h : IntsAt .i64 w a n c zs) (hn : n ≤ 2048) (hc : chk zs 0 ≠ 0) :
    Calls Tryz.prog 9 #[.slice a n c] w fun e w' => e = .returned (.tuple #[.slice none 0 0, .int .i64 ((chk zs 0 : Nat) : Int)]) ∧ Below w.heap.size w w' := by
  have HC := Lib.hid (intsContent_no h hc)
  obtain ⟨q, hq⟩ : ∃ q, q = chk zs 0 := ⟨_, rfl⟩
  rw [← hq] at HC hc ⊢
  have hq1 : ((q : Int) != 0) = true := by rw [bne_iff_ne]; omega
  have hni : ¬ ((2048 : Int) < (n : Int)) := by omega
  have HPP : Calls Tryz.prog 33 #[.int .u8 1, .slice a n c, .func (.func 34) #[] #[]] w fun e w' => e = .returned (.tuple #[.slice none 0 0, .int .i64 (q : Int)]) ∧ Below w.heap.size w w' := by
    clear h hq hc
    go_enter Tryz.func33, Tryz.ntmps33
    go_wp2_with fail
    refine HC.out.mono ?_
    rintro e w1 ⟨rfl, hb1⟩
    have HB1 := Lib.hid hb1
    clear hb1
    go_wp2_with fail
    first | go_ret2 | go_ret
    exact ⟨rfl, HB1.out⟩
  have HP := Lib.hid HPP
  clear h hq hc HPP
  go_enter Tryz.func9, Tryz.ntmps9
  go_wp2_with fail
  refine HP.out.mono ?_
  rintro e w1 ⟨rfl, hb1⟩
  have HB1 := Lib.hid hb1
  clear hb1
  go_wp2_with fail
  first | go_ret2 | go_ret
  exact ⟨rfl, HB1.out⟩

set_option maxRecDepth 100000 in
set_option maxHeartbeats 2000000 in
theorem ints_bad {w : World} (hT : Table w) {a : Option Addr} {n c : Nat} {xs : List Nat} (h : BytesAt w a n c xs) (hn : n ≤ 100000) (ho : op xs = ([], 6)) :
    Calls Tryz.prog 23 #[.slice a n c] w fun e w' => e = .returned (.tuple #[.slice none 0 0, .int .i64 6]) ∧ Below w.heap.size w w' := by
  have HO := open_any hT h hn
  rw [ho] at HO
  have HO := Lib.hid HO
  have HRR : Calls Tryz.prog 49 #[.slice a n c, .func (.func 50) #[] #[], .func (.func 9) #[] #[]] w fun e w' => e = .returned (.tuple #[.slice none 0 0, .int .i64 6]) ∧ Below w.heap.size w w' := by
    clear hT h ho
    go_enter Tryz.func49, Tryz.ntmps49
    go_wp2_with fail
    refine HO.out.mono ?_
    rintro e w1 ⟨a1, m1, c1, rfl, _, hb1, _⟩
    have HB1 := Lib.hid hb1
    clear hb1
    go_wp2_with fail
    first | go_ret2 | go_ret
    exact ⟨rfl, HB1.out⟩
  have HR := Lib.hid HRR
  clear hT h ho HRR
  go_enter Tryz.func23, Tryz.ntmps23
  go_wp2_with fail
  refine HR.out.mono ?_
  rintro e w1 ⟨rfl, hb1⟩
  have HB1 := Lib.hid hb1
  clear hb1
  go_wp2_with fail
  first | go_ret2 | go_ret
  exact ⟨rfl, HB1.out⟩

theorem intC_byte {zs : List Int} (h : chk zs 0 = 0) : ∀ x ∈ intC zs, x < 256 := by
  intro x hx
  unfold intC at hx
  rcases List.mem_cons.1 hx with e | e
  · have := bst_le zs; omega
  · rw [eb_ok (by rw [chk_bst]; exact h)] at e
    obtain ⟨_, _, hl, hb⟩ := DeltaPlain.chk_ok h
    have hf := eb0_full (N := zs.length) (ts := DeltaPlain.tl zs (bst zs : Int)) (k := (DeltaPlain.tl zs (bst zs : Int)).length) (Nat.le_refl _)
    refine eb0_byte (N := zs.length) (k := (DeltaPlain.tl zs (bst zs : Int)).length) (ts := DeltaPlain.tl zs (bst zs : Int)) (by omega) (DeltaPlain.tl_bound hb _) x ?_
    rw [hf]
    exact e
theorem chunk_len {k : Nat} {C : List Nat} (h : C.length ≤ 65536) : (chunk k C).length ≤ C.length + 16 := by
  have hp := pu_ten (n := C.length) (by omega)
  unfold chunk
  split <;> (unfold sealed; simp only [List.length_append, le_len, List.length_cons, List.length_nil]; omega)
theorem chunk_sealed {k : Nat} {C : List Nat} : ∃ Y, chunk k C = sealed Y := by
  unfold chunk
  split
  · exact ⟨_, rfl⟩
  · exact ⟨_, rfl⟩

end Go.Proofs.YtpbijdoemdoijaaGreatDoor
end PkCa34_0
section PkCa34_1
/- The document's Check, Turn, Encode of rows, walked; two rows compared. -/
namespace Go.Proofs.YtpbijdoemdoijaaGreatDoor
open Go.RowKit NumsPlain DeltaPlain
set_option linter.unusedVariables false

set_option maxHeartbeats 400000 in
theorem in_any (x : Int) (w : World) :
    Calls Tryz.prog 35 #[.int .i64 x] w fun e w' => e = .returned (.bool (inB x)) ∧ w = w' := by
  by_cases h0 : -1152921504606846976 ≤ x
  · by_cases h2 : x ≤ 1152921504606846976
    · have H := Lib.hid ((inB_iff x).2 ⟨h0, h2⟩)
      go_enter Tryz.func35, Tryz.ntmps35
      go_wp2_with fail
      go_ret
      rw [H.out]
      exact ⟨rfl, rfl⟩
    · have h2' : (1152921504606846976 : Int) < x := by omega
      have H := Lib.hid ((inB_no x).2 (.inr h2'))
      have d2 : decide (x ≤ 1152921504606846976) = false := by simp; omega
      clear h2
      go_enter Tryz.func35, Tryz.ntmps35
      go_wp2_with fail
      go_ret
      rw [H.out]
      exact ⟨rfl, rfl⟩
  · have h0' : x < -1152921504606846976 := by omega
    have H := Lib.hid ((inB_no x).2 (.inl h0'))
    have d0 : decide (-1152921504606846976 ≤ x) = false := by simp; omega
    clear h0
    go_enter Tryz.func35, Tryz.ntmps35
    go_wp2_with fail
    go_ret
    rw [H.out]
    exact ⟨rfl, rfl⟩

set_option maxRecDepth 100000 in
set_option maxHeartbeats 1000000 in
theorem rcheck_known {w : World} {a : Option Addr} {n c : Nat} {zs : List Int} (h : IntsAt .i64 w a n c zs) (way : Int) (hk : known way = true) :
    Calls Tryz.prog 10 #[.slice a n c, .int .i64 way] w fun e w' => e = .returned (.int .i64 ((chk zs way : Nat) : Int)) ∧ w = w' := by
  have hlen := h.len
  have hcap := h.cap
  have hcm := h.capm
  have HH := Lib.hid h
  have HL := Lib.hid hlen
  obtain ⟨q, hq⟩ : ∃ q, q = chk zs way := ⟨_, rfl⟩
  rw [← hq]
  have hkk := (known_iff way).1 hk
  have hw : way = 0 ∨ way = 1 ∨ way = 2 := by omega
  by_cases hbig : (2048 : Int) < (n : Int)
  · have hq5 : q = 5 := by rw [hq]; unfold chk; rw [if_neg (by rw [hk]; simp), if_pos (by rw [HL.out]; omega)]
    have HC := Lib.hid hq5
    clear hk hq h hlen hkk hq5
    rcases hw with rfl | rfl | rfl
    all_goals
      go_enter Tryz.func10, Tryz.ntmps10
      go_wp2_with fail
      go_ret
      rw [HC.out]
      exact ⟨rfl, rfl⟩
  · have hc : q = if zs.all inB then 0 else 2 := by
      rw [hq]; unfold chk; rw [if_neg (by rw [hk]; simp), if_neg (by rw [HL.out]; omega)]
    have HC := Lib.hid hc
    have hbig2 : (n : Int) ≤ 2048 := by omega
    clear hk hc hbig hq h hlen hkk
    rcases hw with rfl | rfl | rfl
    all_goals
      go_enter Tryz.func10, Tryz.ntmps10
      go_wp2_with fail
      go_loop [22] (fun s22 => ∃ k : Nat, k ≤ n ∧ s22 = .int .i64 k ∧ Hid ((zs.take k).all inB = true)) (fun s22 => n - (intOf s22).toNat)
      case atStart => exact ⟨0, by omega, rfl, Lib.hid (by simp)⟩
      case round =>
        obtain ⟨k, hk, rfl, HA⟩ := hrel
        by_cases hkn : k < n
        · obtain ⟨b, off, rfl, hlt, hcell⟩ := HH.out.cells (by omega)
          have hck := hcell k hkn
          obtain ⟨x, hx⟩ : ∃ x, x = zs.getD k 0 := ⟨_, rfl⟩
          rw [← hx] at hck
          have hkl2 := Lib.hid (show k < zs.length by rw [HL.out]; exact hkn)
          have HX := Lib.hid hx
          clear hcell hx
          cases hin : inB x with
          | false =>
            have HIN := Lib.hid hin
            have HN := Lib.hid (all_no hkl2.out (by rw [← HX.out]; exact hin))
            clear hin
            go_wp2_with fail
            refine (in_any x w).mono ?_
            rintro e w1 ⟨rfl, rfl⟩
            rw [HIN.out]
            go_wp2_with fail
            go_ret
            rw [HC.out, HN.out]
            exact ⟨rfl, rfl⟩
          | true =>
            have HIN := Lib.hid hin
            have HN := Lib.hid (show (zs.take (k + 1)).all inB = true by
              rw [all_take hkl2.out HA.out, ← HX.out]; exact hin)
            clear hin
            go_wp2_with fail
            refine (in_any x w).mono ?_
            rintro e w1 ⟨rfl, rfl⟩
            rw [HIN.out]
            go_wp2_with fail
            go_round
            case rel => exact ⟨k + 1, by omega, by go_num, HN⟩
            case measure => simp [intOf]; omega
        · have hkn2 : k = n := by omega
          have HN := Lib.hid (show zs.all inB = true by
            have := HA.out
            rw [List.take_of_length_le (by rw [HL.out]; omega)] at this
            exact this)
          clear hkn2
          go_wp2_with fail
          go_ret
          rw [HC.out, HN.out]
          exact ⟨rfl, rfl⟩

set_option maxHeartbeats 1000000 in
theorem rcheck_any {w : World} {a : Option Addr} {n c : Nat} {zs : List Int} (h : IntsAt .i64 w a n c zs) (way : Int) :
    Calls Tryz.prog 10 #[.slice a n c, .int .i64 way] w fun e w' => e = .returned (.int .i64 ((chk zs way : Nat) : Int)) ∧ w = w' := by
  cases hk : known way with
  | true => exact rcheck_known h way hk
  | false =>
    have HC := Lib.hid (show chk zs way = 1 by unfold chk; rw [if_pos hk])
    have hw := (known_no way).1 hk
    have e0 : (way != 0) = true := by rw [bne_iff_ne]; omega
    have e1 : (way != 1) = true := by rw [bne_iff_ne]; omega
    have e2 : (way != 2) = true := by rw [bne_iff_ne]; omega
    clear h hw hk
    go_enter Tryz.func10, Tryz.ntmps10
    go_wp2_with fail
    go_ret
    rw [HC.out]
    exact ⟨rfl, rfl⟩

set_option maxRecDepth 100000 in
set_option maxHeartbeats 1000000 in
theorem same64_any {w : World} {a a' : Option Addr} {n n' c c' : Nat} {zs ys : List Int} (h : IntsAt .i64 w a n c zs) (h' : IntsAt .i64 w a' n' c' ys) :
    Calls Tryz.prog 25 #[.slice a n c, .slice a' n' c'] w fun e w' => e = .returned (.bool (zs == ys)) ∧ ∃ m, w' = w.drewN m := by
  have hlen := h.len
  have hlen' := h'.len
  by_cases hnn : n = n'
  · subst hnn
    have HH := Lib.hid h
    have HH' := Lib.hid h'
    have HL := Lib.hid hlen
    have HL' := Lib.hid hlen'
    have hcap := h.cap
    have hcm := h.capm
    have hne : ((n : Int) != (n : Int)) = false := by simp
    clear h h' hlen hlen'
    go_enter Tryz.func25, Tryz.ntmps25
    go_wp2_with fail
    go_loopw [13] (fun s13 wr => ∃ k m : Nat, k ≤ n ∧ s13 = .int .i64 k ∧ Hid (zs.take k = ys.take k) ∧ Hid (wr = w.drewN m)) (fun s13 _ => n - (intOf s13).toNat)
    case atStart => exact ⟨0, 0, by omega, rfl, Lib.hid (by simp), Lib.hid rfl⟩
    case round =>
      obtain ⟨k, m, hk, rfl, HE, HW⟩ := hrel
      rename World => wr
      by_cases hkn : k < n
      · have hb : Below w.heap.size w wr := by rw [HW.out]; exact ⟨rfl, rfl, rfl, Nat.le_refl _, fun _ _ => rfl⟩
        obtain ⟨b, off, ha, hlt, hcell⟩ := (HH.out.kept hb).cells (by omega)
        obtain ⟨b', off', ha', hlt', hcell'⟩ := (HH'.out.kept hb).cells (by omega)
        have hck := hcell k hkn
        have hck' := hcell' k hkn
        obtain ⟨x, hx⟩ : ∃ x, x = zs.getD k 0 := ⟨_, rfl⟩
        obtain ⟨y, hy⟩ : ∃ y, y = ys.getD k 0 := ⟨_, rfl⟩
        rw [← hx] at hck
        rw [← hy] at hck'
        have hkz : k < zs.length := by rw [HL.out]; exact hkn
        have hky : k < ys.length := by rw [HL'.out]; exact hkn
        subst ha
        subst ha'
        by_cases hxy : x = y
        · have HE2 := Lib.hid (show zs.take (k + 1) = ys.take (k + 1) by rw [← take_next hkz, ← take_next hky, HE.out, ← hx, ← hy, hxy])
          subst hxy
          have hq : (x != x) = false := by simp
          clear hcell hcell' hx hy hkz hky hb
          go_wp2_with fail
          go_quiet (fail)
          go_wp2_with fail
          go_roundw
          case rel => exact ⟨k + 1, _, by omega, by go_num, HE2, Lib.hid (by rw [HW.out, World.drewN_drewN])⟩
          case measure => simp [intOf]; omega
        · have hq : (x != y) = true := by rw [bne_iff_ne]; exact hxy
          have HN := Lib.hid (show (zs == ys) = false by
            rw [beq_eq_false_iff_ne]; intro e; rw [e] at hx; exact hxy (hx.trans hy.symm))
          clear hcell hcell' hx hy hkz hky hb hxy
          go_wp2_with fail
          go_quiet (fail)
          go_wp2_with fail
          go_ret
          rw [HN.out]
          exact ⟨rfl, _, by rw [HW.out, World.drewN_drewN]⟩
      · have HE2 := Lib.hid (show (zs == ys) = true by
          rw [beq_iff_eq]
          have := HE.out
          rw [List.take_of_length_le (by rw [HL.out]; omega), List.take_of_length_le (by rw [HL'.out]; omega)] at this
          exact this)
        go_wp2_with fail
        go_ret
        rw [HE2.out]
        exact ⟨rfl, m, HW.out⟩
  · have hne : ((n : Int) != (n' : Int)) = true := by rw [bne_iff_ne]; omega
    have HN := Lib.hid (show (zs == ys) = false by
      rw [beq_eq_false_iff_ne]; intro e; rw [e, hlen'] at hlen; exact hnn hlen.symm)
    clear h h' hlen hlen' hnn
    go_enter Tryz.func25, Tryz.ntmps25
    go_wp2_with fail
    go_ret
    rw [HN.out]
    exact ⟨rfl, 0, rfl⟩
end Go.Proofs.YtpbijdoemdoijaaGreatDoor
end PkCa34_1
