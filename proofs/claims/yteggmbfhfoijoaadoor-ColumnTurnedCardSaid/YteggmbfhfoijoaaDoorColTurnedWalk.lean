/- The walk of ColumnTurned, given what the table of crc holds: it returns true for all inputs. -/
import Derived.Test.YteggmbfhfoijoaaDoorColPutI
import Derived.Test.YteggmbfhfoijoaaDoorCrcTurnedPlain
namespace Go.Proofs.YteggmbfhfoijoaaDoor
open Go.RowKit BitsPlain NumsPlain CrcPlain
open DeltaPlain (chk)
set_option linter.unusedVariables false

theorem val_setB : ∀ (xs : List Nat) (j y : Nat), (∀ x ∈ xs, x < 256) → j < xs.length → y < 256 → CrcPlain.val (xs.set j (xs.getD j 0 ^^^ y)) = CrcPlain.val xs ^^^ (2 ^ (8 * j) * y)
  | [], j, r, _, hj, _ => by simp at hj
  | x :: xs, 0, y, hb, _, h2 => by
    have hx : x < 256 := hb x List.mem_cons_self
    have hxr : x ^^^ y < 256 := Nat.xor_lt_two_pow (n := 8) hx h2
    simp only [List.set_cons_zero, List.getD_cons_zero, CrcPlain.val, Nat.mul_zero, Nat.pow_zero, Nat.one_mul]
    rw [CrcPlain.val_cons hxr, CrcPlain.val_cons hx, Nat.xor_assoc, Nat.xor_comm y, ← Nat.xor_assoc]
  | x :: xs, j + 1, y, hb, hj, hr => by
    have hx : x < 256 := hb x List.mem_cons_self
    have ih := val_setB xs j y (fun z hz => hb z (List.mem_cons_of_mem _ hz)) (by simpa using hj) hr
    simp only [List.set_cons_succ, List.getD_cons_succ, CrcPlain.val]
    rw [ih, CrcPlain.val_cons hx, CrcPlain.val_cons hx, Nat.xor_assoc]
    congr 1
    rw [show (256 : Nat) = 2 ^ 8 from rfl, mul_xor, ← Nat.mul_assoc, ← Nat.pow_add, show 8 + 8 * j = 8 * (j + 1) from by omega]
/-- the content of a column of integers -/
def intC (zs : List Int) : List Nat := bst zs :: eb zs (bst zs : Int)
theorem bst_le (zs : List Int) : bst zs ≤ 2 := by
  unfold bst
  split
  · omega
  · exact bu_lt zs 2
theorem chk_bst {zs : List Int} : chk zs (bst zs : Int) = chk zs 0 := chk_way (by have := bst_le zs; omega) (by omega)
theorem intC_len {zs : List Int} (h : chk zs 0 = 0) : (intC zs).length ≤ 30001 := by
  have h1 := eb_el h (bst zs) (bst_le zs)
  have h2 := el_le h (bst zs)
  simp only [intC, List.length_cons]
  omega

set_option maxRecDepth 100000 in
set_option maxHeartbeats 2000000 in
theorem intsContent_no {w : World} {a : Option Addr} {n c : Nat} {zs : List Int} (h : IntsAt .i64 w a n c zs) (hc : chk zs 0 ≠ 0) :
    Calls Tryd.prog 15 #[.slice a n c] w fun e w' => e = .returned (.tuple #[.slice none 0 0, .int .i64 ((chk zs 0 : Nat) : Int)]) ∧ Below w.heap.size w w' := by
  have HH := Lib.hid h
  have HB0 := Lib.hid (best_any h)
  obtain ⟨q, hq⟩ : ∃ q, q = chk zs 0 := ⟨_, rfl⟩
  rw [← hq] at hc ⊢
  have hq1 : ((q : Int) != 0) = true := by rw [bne_iff_ne]; omega
  have HQ := Lib.hid hq
  clear h hq hc
  go_enter Tryd.func15, Tryd.ntmps15
  go_wp2_with fail
  refine HB0.out.mono ?_
  rintro e w1 ⟨rfl, hb1⟩
  have HB1 := Lib.hid hb1
  have HE := encode_any (HH.out.kept hb1) (bst zs : Int)
  rw [chk_bst, ← HQ.out] at HE
  have HE := Lib.hid HE
  clear hb1
  go_wp2_with fail
  refine HE.out.mono ?_
  rintro e w2 ⟨a2, n2, c2, rfl, _, _, hb2⟩
  have HB2 := Lib.hid (HB1.out.trans (hb2.mono HB1.out.size))
  clear hb2
  go_wp2_with fail
  first | go_ret2 | go_ret
  exact ⟨rfl, HB2.out⟩

set_option maxRecDepth 100000 in
set_option maxHeartbeats 2000000 in
theorem intsContent_ok {w : World} {a : Option Addr} {n c : Nat} {zs : List Int} (h : IntsAt .i64 w a n c zs) (hc : chk zs 0 = 0) :
    Calls Tryd.prog 15 #[.slice a n c] w fun e w' => ∃ v, e = .returned (.tuple #[v, .int .i64 0]) ∧ w'.ownsRow w.heap.size 5 1 v (intC zs).length (bv (intC zs)) ∧ Below w.heap.size w w' := by
  have HH := Lib.hid h
  have HB0 := Lib.hid (best_any h)
  have HC := Lib.hid hc
  have HIL := Lib.hid (intC_len hc)
  obtain ⟨q, hq⟩ : ∃ q, q = bst zs := ⟨_, rfl⟩
  have hq2 : q ≤ 2 := by rw [hq]; exact bst_le zs
  have HQ := Lib.hid hq
  rw [← hq] at HB0
  clear h hc hq
  go_enter Tryd.func15, Tryd.ntmps15
  go_wp2_with fail
  refine HB0.out.mono ?_
  rintro e w1 ⟨rfl, hb1⟩
  have HB1 := Lib.hid hb1
  have HE := encode_any (HH.out.kept hb1) (q : Int)
  rw [show chk zs (q : Int) = 0 from by rw [HQ.out, chk_bst]; exact HC.out] at HE
  have HE := Lib.hid HE
  clear hb1
  go_wp2_with fail
  refine HE.out.mono ?_
  rintro e w2 ⟨a2, n2, c2, rfl, _, h2, hb2⟩
  have HB2 := Lib.hid (HB1.out.trans (hb2.mono HB1.out.size))
  have o3 := World.ownsRow_lit (base := w.heap.size) (e := 5) (size := 1) w2 #[.int .u8 (q : Int)] 1 HB2.out.size (by unfold maxLen; omega) rfl
  have hal : Below w2.heap.size w2 (w2.alloc (.cells #[.int .u8 (q : Int)] 5)) := (Below.refl _ _).alloc (Nat.le_refl _) _
  have HO3 := Lib.hid (show (w2.alloc (.cells #[.int .u8 (q : Int)] 5)).ownsRow w.heap.size 5 1 (.slice (some ⟨w2.heap.size, 0, none⟩) 1 1) 1 (bv [q]) from o3)
  have H3 := Lib.hid (h2.kept hal)
  have HB3 := Lib.hid (HB2.out.alloc HB2.out.size (.cells #[.int .u8 (q : Int)] 5))
  have HS3 := Lib.hid HB3.out.size
  have hn2 : n2 ≤ 30000 := by
    have h9 := HIL.out
    have h8 := h2.len
    simp only [intC, List.length_cons] at h9
    rw [← HQ.out] at h9
    omega
  have HL2 := Lib.hid h2.len
  clear h2 hb2 o3 hal
  go_wp2_with (at_builtin; refine wpList_append_bytes rfl (.tmp 20) (.tmp 21) rfl w.heap.size _ 1 [q] rfl HO3.out _ _ _ (eb zs (q : Int)) rfl H3.out (by omega) HS3.out ?_)
  intro v4 w4 ho4 hg4
  have HB4 := Lib.hid (below_own HB3.out HO3.out hg4 (Nat.le_refl _) HS3.out)
  have HO4 := Lib.hid (show w4.ownsRow w.heap.size 5 1 v4 (intC zs).length (bv (intC zs)) from by
    have e1 : intC zs = [q] ++ eb zs (q : Int) := by unfold intC; rw [HQ.out]; rfl
    have e2 : (intC zs).length = 1 + n2 := by rw [e1, List.length_append, HL2.out]; rfl
    rw [e2, e1]
    exact ho4)
  clear ho4 hg4
  go_wp2_with fail
  first | go_ret2 | go_ret
  exact ⟨_, rfl, HO4.out, HB4.out⟩

set_option maxRecDepth 100000 in
set_option maxHeartbeats 2000000 in
theorem putInts_ok {w : World} (hT : Table w) {a : Option Addr} {n c : Nat} {zs : List Int} (h : IntsAt .i64 w a n c zs) (hn : n ≤ 2048) (hc : chk zs 0 = 0) (hb : ∀ x ∈ intC zs, x < 256) :
    Calls Tryd.prog 6 #[.slice a n c] w fun e w' => ∃ a' m' c', e = .returned (.tuple #[.slice a' m' c', .int .i64 0]) ∧ w'.ownsRow w.heap.size 5 1 (.slice a' m' c') m' (bv (chunk 1 (intC zs))) ∧ BytesAt w' a' m' c' (chunk 1 (intC zs)) ∧ Below w.heap.size w w' := by
  have HP := Lib.hid (putI_any hT (k := 1) hn (by omega) (intsContent_ok h hc) hb (by have := intC_len hc; omega))
  clear hT h hc hb
  go_enter Tryd.func6, Tryd.ntmps6
  go_wp2_with fail
  refine HP.out.mono ?_
  rintro e w1 ⟨a', m', c', rfl, ho, hb, hbl⟩
  have HO := Lib.hid ho
  have HBY := Lib.hid hb
  have HB := Lib.hid hbl
  clear ho hb hbl
  go_wp2_with fail
  first | go_ret2 | go_ret
  exact ⟨a', m', c', rfl, HO.out, HBY.out, HB.out⟩

set_option maxRecDepth 100000 in
set_option maxHeartbeats 2000000 in
theorem putInts_no {w : World} {a : Option Addr} {n c : Nat} {zs : List Int} (h : IntsAt .i64 w a n c zs) (hn : n ≤ 2048) (hc : chk zs 0 ≠ 0) :
    Calls Tryd.prog 6 #[.slice a n c] w fun e w' => e = .returned (.tuple #[.slice none 0 0, .int .i64 ((chk zs 0 : Nat) : Int)]) ∧ Below w.heap.size w w' := by
  have HC := Lib.hid (intsContent_no h hc)
  obtain ⟨q, hq⟩ : ∃ q, q = chk zs 0 := ⟨_, rfl⟩
  rw [← hq] at HC hc ⊢
  have hq1 : ((q : Int) != 0) = true := by rw [bne_iff_ne]; omega
  have hni : ¬ ((2048 : Int) < (n : Int)) := by omega
  have HPP : Calls Tryd.prog 14 #[.int .u8 1, .slice a n c, .func (.func 15) #[] #[]] w fun e w' => e = .returned (.tuple #[.slice none 0 0, .int .i64 (q : Int)]) ∧ Below w.heap.size w w' := by
    clear h hq hc
    go_enter Tryd.func14, Tryd.ntmps14
    go_wp2_with fail
    refine HC.out.mono ?_
    rintro e w1 ⟨rfl, hb1⟩
    have HB1 := Lib.hid hb1
    clear hb1
    go_wp2_with fail
    first | go_ret2 | go_ret
    exact ⟨rfl, HB1.out⟩
  have HP := Lib.hid HPP
  clear h hq hc HPP
  go_enter Tryd.func6, Tryd.ntmps6
  go_wp2_with fail
  refine HP.out.mono ?_
  rintro e w1 ⟨rfl, hb1⟩
  have HB1 := Lib.hid hb1
  clear hb1
  go_wp2_with fail
  first | go_ret2 | go_ret
  exact ⟨rfl, HB1.out⟩

set_option maxRecDepth 100000 in
set_option maxHeartbeats 2000000 in
theorem ints_bad {w : World} (hT : Table w) {a : Option Addr} {n c : Nat} {xs : List Nat} (h : BytesAt w a n c xs) (hn : n ≤ 100000) (ho : op xs = ([], 6)) :
    Calls Tryd.prog 7 #[.slice a n c] w fun e w' => e = .returned (.tuple #[.slice none 0 0, .int .i64 6]) ∧ Below w.heap.size w w' := by
  have HO := open_any hT h hn
  rw [ho] at HO
  have HO := Lib.hid HO
  have HRR : Calls Tryd.prog 16 #[.slice a n c, .func (.func 17) #[] #[], .func (.func 6) #[] #[]] w fun e w' => e = .returned (.tuple #[.slice none 0 0, .int .i64 6]) ∧ Below w.heap.size w w' := by
    clear hT h ho
    go_enter Tryd.func16, Tryd.ntmps16
    go_wp2_with fail
    refine HO.out.mono ?_
    rintro e w1 ⟨a1, m1, c1, rfl, _, hb1, _⟩
    have HB1 := Lib.hid hb1
    clear hb1
    go_wp2_with fail
    first | go_ret2 | go_ret
    exact ⟨rfl, HB1.out⟩
  have HR := Lib.hid HRR
  clear hT h ho HRR
  go_enter Tryd.func7, Tryd.ntmps7
  go_wp2_with fail
  refine HR.out.mono ?_
  rintro e w1 ⟨rfl, hb1⟩
  have HB1 := Lib.hid hb1
  clear hb1
  go_wp2_with fail
  first | go_ret2 | go_ret
  exact ⟨rfl, HB1.out⟩

theorem intC_byte {zs : List Int} (h : chk zs 0 = 0) : ∀ x ∈ intC zs, x < 256 := by
  intro x hx
  unfold intC at hx
  rcases List.mem_cons.1 hx with e | e
  · have := bst_le zs; omega
  · rw [eb_ok (by rw [chk_bst]; exact h)] at e
    obtain ⟨_, _, hl, hb⟩ := DeltaPlain.chk_ok h
    have hf := eb0_full (N := zs.length) (ts := DeltaPlain.tl zs (bst zs : Int)) (k := (DeltaPlain.tl zs (bst zs : Int)).length) (Nat.le_refl _)
    refine eb0_byte (N := zs.length) (k := (DeltaPlain.tl zs (bst zs : Int)).length) (ts := DeltaPlain.tl zs (bst zs : Int)) (by omega) (DeltaPlain.tl_bound hb _) x ?_
    rw [hf]
    exact e
theorem chunk_len {k : Nat} {C : List Nat} (h : C.length ≤ 65536) : (chunk k C).length ≤ C.length + 16 := by
  have hp := pu_ten (n := C.length) (by omega)
  unfold chunk
  split <;> (unfold sealed; simp only [List.length_append, le_len, List.length_cons, List.length_nil]; omega)
theorem chunk_sealed {k : Nat} {C : List Nat} : ∃ Y, chunk k C = sealed Y := by
  unfold chunk
  split
  · exact ⟨_, rfl⟩
  · exact ⟨_, rfl⟩

set_option maxRecDepth 100000 in
set_option maxHeartbeats 4000000 in
theorem columnTurned_walk (a0 : Option Addr) (len0 cap0 : Nat) (z0 : List Int) (a1 a2 : Int) (w : World) (hT : Table w) (w0 : IsRow .i64 8 w a0 len0 cap0 z0) (w1 : (Lit.int .i64 a1).wf = true) (w2 : (Lit.int .u8 a2).wf = true) :
    Calls Tryd.prog 3 #[.slice a0 len0 cap0, .int .i64 a1, .int .u8 a2] w fun e w' => e = .returned (.bool true) ∧ Below w.heap.size w w' := by
  have hz := w0.ints
  obtain ⟨zs, hzs⟩ : ∃ zs, zs = z0.take len0 := ⟨_, rfl⟩
  rw [← hzs] at hz
  have hb2 := byte_of_wf w2
  obtain ⟨y, rfl⟩ : ∃ y : Nat, a2 = (y : Int) := ⟨a2.toNat, by omega⟩
  have hy : y < 256 := by omega
  have HL := Lib.hid (lives10_any hT)
  have HT := Lib.hid (show ∀ w', Below w.heap.size w w' → Table w' from fun w' h => hT.below h)
  have HZ := Lib.hid hz
  clear w0 w1 w2 hz hT hzs hb2
  by_cases hbig : (300 : Int) < (len0 : Int)
  · go_enter Tryd.func3, Tryd.ntmps3
    go_wp2_with fail
    refine HL.out.mono ?_
    rintro e w1 ⟨rfl, hb1⟩
    have HB1 := Lib.hid hb1
    have HL1 := Lib.hid (lives10_any (HT.out w1 hb1))
    clear hb1
    go_wp2_with fail
    refine HL1.out.mono ?_
    rintro e w2 ⟨rfl, hb2⟩
    have HB2 := Lib.hid (HB1.out.trans (hb2.mono HB1.out.size))
    clear hb2
    go_wp2_with fail
    go_ret
    exact ⟨rfl, HB2.out⟩
  · have hbig3 : len0 ≤ 300 := by omega
    have hbigi : ¬ (300 : Int) < (len0 : Int) := hbig
    clear hbig
    by_cases hy0 : y = 0
    · subst hy0
      go_enter Tryd.func3, Tryd.ntmps3
      go_wp2_with fail
      refine HL.out.mono ?_
      rintro e w1 ⟨rfl, hb1⟩
      have HB1 := Lib.hid hb1
      have HL1 := Lib.hid (lives10_any (HT.out w1 hb1))
      clear hb1
      go_wp2_with fail
      refine HL1.out.mono ?_
      rintro e w2 ⟨rfl, hb2⟩
      have HB2 := Lib.hid (HB1.out.trans (hb2.mono HB1.out.size))
      clear hb2
      go_wp2_with fail
      go_ret
      exact ⟨rfl, HB2.out⟩
    · have hyb : ((y : Int) == 0) = false := by rw [beq_eq_false_iff_ne]; omega
      by_cases hc : chk zs 0 = 0
      · obtain ⟨U, hU⟩ : ∃ U : Nat, IntKind.u64.wrap a1 = (U : Int) := ⟨(a1 % 18446744073709551616).toNat, by rw [IntKind.wrap_u64]; omega⟩
        have HC := Lib.hid hc
        have HY0 := Lib.hid hy0
        clear hc hy0
        go_enter Tryd.func3, Tryd.ntmps3
        go_wp2_with fail
        refine HL.out.mono ?_
        rintro e w1 ⟨rfl, hb1⟩
        have HB1 := Lib.hid hb1
        have HP := Lib.hid (putInts_ok (HT.out w1 hb1) (HZ.out.kept hb1) (by omega) HC.out (intC_byte HC.out))
        clear hb1
        go_wp2_with fail
        refine HP.out.mono ?_
        rintro e w2 ⟨a2, m2, c2, rfl, ho2, h2, hb2⟩
        obtain ⟨Y, hY⟩ := chunk_sealed (k := 1) (C := intC zs)
        rw [hY] at ho2 h2
        have hlen := h2.len
        have hsl : 4 ≤ (sealed Y).length := by simp [sealed, le_len]
        obtain ⟨g, c3, he, hgb, hgl, _⟩ := BytesAt.own ho2 h2.byte (by omega) h2.reach
        simp only [Value.slice.injEq, true_and] at he
        obtain ⟨rfl, rfl⟩ := he
        have hm2 : 0 < m2 := by omega
        have hmr : m2 ≤ 100000 := by
          have h9 := intC_len HC.out
          have h10 := chunk_len (k := 1) (C := intC zs) (by omega)
          rw [hY] at h10
          omega
        have hcapm := h2.capm
        have hcap := h2.cap
        obtain ⟨J, hJ⟩ : ∃ J : Nat, (U : Int) % (m2 : Int) = (J : Int) := ⟨U % m2, by push_cast; rfl⟩
        have hJ2 : (U : Int).tmod (m2 : Int) = (J : Int) := by rw [Int.tmod_eq_emod_of_nonneg (by omega)]; exact hJ
        have hJm : J < m2 := by
          have := Int.emod_lt_of_pos (U : Int) (show (0 : Int) < (m2 : Int) by omega)
          omega
        have hJi : (J : Int) < (m2 : Int) := by omega
        have hm0 : ¬ ((m2 : Int) = 0) := by omega
        obtain ⟨x, hx⟩ : ∃ x, x = (sealed Y).getD J 0 := ⟨_, rfl⟩
        have hcell : w2.cell? ⟨g, J, none⟩ = some (.int .u8 (x : Int)) := by
          rw [ho2.cellAt J (by omega), bv_get _ _ (by rw [hlen]; exact hJm), hx]
        have hfr := ho2.frozenAt J
        have hx256 : x < 256 := by
          rw [hx]
          have h1 : J < (sealed Y).length := by omega
          have : (sealed Y).getD J 0 = (sealed Y)[J] := by simp [h1]
          rw [this]
          exact h2.byte _ (List.getElem_mem h1)
        have hxor : bits .xor .u8 (x : Int) (y : Int) = ((x ^^^ y : Nat) : Int) := u8_xor_nat x y hx256 hy
        obtain ⟨v, hv⟩ : ∃ v, v = x ^^^ y := ⟨_, rfl⟩
        rw [← hv] at hxor
        have hst := ho2.stored J (.int .u8 (v : Int))
        have hbv : (bv (sealed Y)).set J (.int .u8 (v : Int)) = bv ((sealed Y).set J v) := by simp [bv, List.map_set]
        rw [hbv] at hst
        have hset := set_byte (sealed Y) J v h2.byte (by rw [hv]; exact Nat.xor_lt_two_pow (n := 8) hx256 hy)
        have hop : op ((sealed Y).set J v) = ([], 6) := by
          have hvs := val_setB (sealed Y) J y h2.byte (by omega) hy
          rw [← hx, ← hv] at hvs
          exact turned_open Y _ (8 * J) y (fun z hz => h2.byte z (by unfold sealed; exact List.mem_append_left _ hz)) hset (List.length_set ..) (by omega) HY0.out (by rw [List.length_set]; omega) hvs
        obtain ⟨w3, hw3⟩ : ∃ w3, w3 = w2.setCell ⟨g, J, none⟩ (.int .u8 (v : Int)) := ⟨_, rfl⟩
        rw [← hw3] at hst
        have HB2 := Lib.hid (HB1.out.trans (hb2.mono HB1.out.size))
        have HB3 := Lib.hid (HB2.out.grown hst.2 HB2.out.size (fun k hk => by cases hk; exact Nat.le_trans HB1.out.size hgb))
        obtain ⟨a9, c9, he9, h9, _⟩ := BytesAt.ofOwn hst.1 hset (by omega)
        simp only [Value.slice.injEq, true_and] at he9
        obtain ⟨rfl, rfl⟩ := he9
        have HI := Lib.hid (ints_bad (HT.out w3 HB3.out) h9 hmr hop)
        have HW3 := Lib.hid hw3
        clear ho2 h2 hlen hsl hgb hgl hst hbv hset hop hw3 hb2 hx hv hY h9
        go_wp2_with fail
        try rw [← HW3.out]
        refine HI.out.mono ?_
        rintro e w4 ⟨rfl, hb4⟩
        have HB4 := Lib.hid (HB3.out.trans (hb4.mono HB3.out.size))
        clear hb4
        go_wp2_with fail
        go_ret
        exact ⟨rfl, HB4.out⟩
      · have HP := fun (w1 : World) (hb1 : Below w.heap.size w w1) => putInts_no (HZ.out.kept hb1) (by omega) hc
        obtain ⟨q, hq⟩ : ∃ q, q = chk zs 0 := ⟨_, rfl⟩
        rw [← hq] at HP
        have hq0 : q ≠ 0 := by rw [hq]; exact hc
        have hq1 : ((q : Int) != 0) = true := by rw [bne_iff_ne]; omega
        have HPP := Lib.hid HP
        clear hc hq HP hq0 hy0
        go_enter Tryd.func3, Tryd.ntmps3
        go_wp2_with fail
        refine HL.out.mono ?_
        rintro e w1 ⟨rfl, hb1⟩
        have HB1 := Lib.hid hb1
        have HP1 := Lib.hid (HPP.out w1 hb1)
        clear hb1
        go_wp2_with fail
        refine HP1.out.mono ?_
        rintro e w2 ⟨rfl, hb2⟩
        have HB2 := Lib.hid (HB1.out.trans (hb2.mono HB1.out.size))
        clear hb2
        go_wp2_with fail
        go_ret
        exact ⟨rfl, HB2.out⟩
end Go.Proofs.YteggmbfhfoijoaaDoor
