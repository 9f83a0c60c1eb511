/- Stats of columns: Of and May, of integers and of texts. (Written by genof.py.) -/
import Derived.Test.YteggmbfhfoijoaaDoorColLives
import Derived.Test.YteggmbfhfoijoaaDoorInts
import Derived.Test.YteggmbfhfoijoaaDoorLabPlain
import Derived.Laws.Cover1
import Derived.SliceStrings
namespace Go.Proofs.YteggmbfhfoijoaaDoor
open Go.RowKit LabPlain
set_option linter.unusedVariables false

structure StrsAt (w : World) (a : Option Addr) (n c : Nat) (ss : List ByteArray) : Prop where
  len : ss.length = n
  cap : n ≤ c
  capm : c ≤ 9223372036854775807
  nl : a = none → c = 0
  cells : 0 < n → ∃ b off, a = some ⟨b, off, none⟩ ∧ b < w.heap.size ∧ ∀ i, i < n → w.cell? ⟨b, off + i, none⟩ = some (.string (ss.getD i ByteArray.empty))
theorem StrsAt.keep {w w' : World} {a : Option Addr} {n c : Nat} {ss : List ByteArray} (h : StrsAt w a n c ss) {B : Nat} (hb : Below B w w') (hB : w.heap.size ≤ B) : StrsAt w' a n c ss :=
  ⟨h.len, h.cap, h.capm, h.nl, fun hn => by
    obtain ⟨b, off, ha, hlt, hc⟩ := h.cells hn
    exact ⟨b, off, ha, Nat.lt_of_lt_of_le hlt hb.size, fun i hi => (hb.cell (p := ⟨b, off + i, none⟩) (Nat.lt_of_lt_of_le hlt hB)).trans (hc i hi)⟩⟩
theorem StrsAt.kept {w w' : World} {a : Option Addr} {n c : Nat} {ss : List ByteArray} (h : StrsAt w a n c ss) (hb : Below w.heap.size w w') : StrsAt w' a n c ss := h.keep hb (Nat.le_refl _)
theorem StrsAt.empty (w : World) (a : Option Addr) (c : Nat) (hc : c ≤ 9223372036854775807) (ha : a = none → c = 0) : StrsAt w a 0 c [] :=
  ⟨rfl, Nat.zero_le _, hc, ha, fun h => absurd h (Nat.lt_irrefl 0)⟩
open Go.ChangeShapes Go.WideShapes in
theorem open_strs {H : Type} {enc : TypeId × Value → H} {W : World} {fuel : Nat} {a : Option Addr} {len cap : Nat} {x : DataW H × List MemPlace}
    (hf : DataW.trod enc Tryd.prog W 0 (fun _ => true) true fuel 32 [.slice a len cap] = some x) : ∃ z : List ByteArray, StrsAt W a len cap z := by
  rcases open_strings Tryd.underlying32 Tryd.underlying9 (by kernel_rfl) hf with ⟨hcs, _⟩ | ⟨x0, l, c, ss, hcs, _, hl, hm, hlen, _, hc, _⟩
  · simp at hcs
    obtain ⟨rfl, rfl, rfl⟩ := hcs
    exact ⟨[], StrsAt.empty W none 0 (by omega) (fun _ => rfl)⟩
  · simp at hcs
    obtain ⟨rfl, rfl, rfl⟩ := hcs
    have hlen2 : ss.length = cap := by simpa using hlen
    refine ⟨ss.take len, by rw [List.length_take]; omega, hl, by unfold maxLen at hm; exact hm, (fun e => by cases e), fun hp => ?_⟩
    obtain ⟨b, off, spot⟩ := x0
    have hc0 := hc 0 (by omega)
    have hspot : spot = none := by simpa [Addr.add] using World.cell?_spot hc0
    subst hspot
    have h4 : ∀ (b off j : Nat), (⟨b, off, none⟩ : Addr).add j = ⟨b, off + j, none⟩ := by intro b off j; unfold Addr.add; split <;> simp_all
    refine ⟨b, off, rfl, ?_, fun i hi => ?_⟩
    · have := World.block_lt_of_cell? W _ hc0
      simpa [Addr.add] using this
    · have h1 := hc i (by omega)
      rw [h4] at h1
      rw [h1, List.getD_eq_getElem?_getD, List.getD_eq_getElem?_getD, List.getElem?_take_of_lt hi]

theorem nanI_any (x : Int) (w : World) : Calls Tryd.prog 33 #[.int .i64 x] w fun e w' => e = .returned (.bool false) ∧ w = w' := by
  have z : (x != x) = false := by simp
  go_enter Tryd.func33, Tryd.ntmps33
  go_wp2_with fail
  go_ret
  exact ⟨rfl, rfl⟩
theorem lessI_any (x y : Int) (w : World) : Calls Tryd.prog 18 #[.int .i64 x, .int .i64 y] w fun e w' => e = .returned (.bool (decide (x < y))) ∧ w = w' := by
  go_enter Tryd.func18, Tryd.ntmps18
  go_wp2_with fail
  refine (nanI_any x w).mono ?_
  rintro e w2 ⟨rfl, rfl⟩
  go_wp2_with fail
  go_ret
  exact ⟨rfl, rfl⟩
theorem nanS_any (x : ByteArray) (w : World) : Calls Tryd.prog 34 #[.string x] w fun e w' => e = .returned (.bool false) ∧ w = w' := by
  have z : (x.toList == x.toList) = true := by simp
  go_enter Tryd.func34, Tryd.ntmps34
  go_wp2_with fail
  go_ret
  exact ⟨rfl, rfl⟩
theorem lessS_any (x y : ByteArray) (w : World) : Calls Tryd.prog 19 #[.string x, .string y] w fun e w' => e = .returned (.bool (ltB x y)) ∧ w = w' := by
  go_enter Tryd.func19, Tryd.ntmps19
  go_wp2_with fail
  refine (nanS_any x w).mono ?_
  rintro e w2 ⟨rfl, rfl⟩
  go_wp2_with fail
  go_ret
  exact ⟨rfl, rfl⟩

theorem setI {v : World} {R : Nat} {c0 c1 c2 : Value} {t : TypeId} (g : v.heap[R]? = some (.cells #[c0, c1, c2] t (0, 0))) (x : Value) : (v.setCell ⟨R, 1, none⟩ x).heap[R]? = some (.cells #[c0, x, c2] t (0, 0)) := by
  rw [heap_setCell_same _ R 1 _ _ _ g]; rfl
theorem setII {v : World} {R : Nat} {c0 c1 c2 : Value} {t : TypeId} (g : v.heap[R]? = some (.cells #[c0, c1, c2] t (0, 0))) (x : Value) : (v.setCell ⟨R, 2, none⟩ x).heap[R]? = some (.cells #[c0, c1, x] t (0, 0)) := by
  rw [heap_setCell_same _ R 2 _ _ _ g]; rfl

/-- of the first k: none is less than lo, hi less than none; both are there -/
structure BndI (l : List Int) (n k : Nat) (lo hi : Int) : Prop where
  all : ∀ i, i < k → ¬ ((l.getD i 0) < lo) ∧ ¬ (hi < (l.getD i 0))
  lo : ∃ i, i < n ∧ (l.getD i 0) = lo
  hi : ∃ i, i < n ∧ (l.getD i 0) = hi
def OfI (l : List Int) (n : Nat) (lo hi : Int) : Prop := (n = 0 → lo = 0 ∧ hi = 0) ∧ (0 < n → BndI l n n lo hi)
theorem BndI.step {l : List Int} {n k : Nat} {lo hi x lo' hi' : Int} (h : BndI l n k lo hi) (hk : k < n) (hx : x = (l.getD k 0)) (h1 : ((x < lo) ∧ lo' = x) ∨ (¬ (x < lo) ∧ lo' = lo)) (h2 : ((hi < x) ∧ hi' = x) ∨ (¬ (hi < x) ∧ hi' = hi)) : BndI l n (k + 1) lo' hi' := by
  refine ⟨fun i hi0 => ?_, ?_, ?_⟩
  · rcases Nat.lt_or_ge i k with g | g
    · obtain ⟨a1, a2⟩ := h.all i g
      refine ⟨fun e => ?_, fun e => ?_⟩
      · rcases h1 with ⟨q1, q2⟩ | ⟨q1, q2⟩
        · rw [q2] at e; exact a1 (Int.lt_trans e q1)
        · rw [q2] at e; exact a1 e
      · rcases h2 with ⟨q1, q2⟩ | ⟨q1, q2⟩
        · rw [q2] at e; exact a2 (Int.lt_trans q1 e)
        · rw [q2] at e; exact a2 e
    · obtain rfl : i = k := by omega
      rw [← hx]
      refine ⟨fun e => ?_, fun e => ?_⟩
      · rcases h1 with ⟨q1, q2⟩ | ⟨q1, q2⟩
        · rw [q2] at e; exact absurd e (Int.lt_irrefl _)
        · rw [q2] at e; exact q1 e
      · rcases h2 with ⟨q1, q2⟩ | ⟨q1, q2⟩
        · rw [q2] at e; exact absurd e (Int.lt_irrefl _)
        · rw [q2] at e; exact q1 e
  · rcases h1 with ⟨_, q2⟩ | ⟨_, q2⟩
    · exact ⟨k, hk, by rw [q2, hx]⟩
    · rw [q2]; exact h.lo
  · rcases h2 with ⟨_, q2⟩ | ⟨_, q2⟩
    · exact ⟨k, hk, by rw [q2, hx]⟩
    · rw [q2]; exact h.hi

set_option maxRecDepth 100000 in
set_option maxHeartbeats 4000000 in
theorem ofI_any {w : World} {a : Option Addr} {n c : Nat} {l : List Int} (h : IntsAt .i64 w a n c l) :
    Calls Tryd.prog 8 #[.slice a n c] w fun e w' => ∃ lo hi, e = .returned (.agg #[.int .i64 (n : Int), .int .i64 lo, .int .i64 hi]) ∧ OfI l n lo hi ∧ Below w.heap.size w w' := by
  have hcap := h.cap
  have hcm := h.capm
  have HH := Lib.hid h
  obtain ⟨w1, hw1⟩ : ∃ w1, w1 = w.alloc (.cells #[.int .i64 0, .int .i64 0, .int .i64 0] 34) := ⟨_, rfl⟩
  have b1 : Below w.heap.size w w1 := by rw [hw1]; exact (Below.refl _ _).alloc (Nat.le_refl _) _
  have s1 : w1.heap.size = w.heap.size + 1 := by rw [hw1]; show (w.heap.push _).size = _; exact Array.size_push ..
  have gR1 : w1.heap[w.heap.size]? = some (.cells #[.int .i64 0, .int .i64 0, .int .i64 0] 34 (0, 0)) := by rw [hw1]; exact heap_alloc_new _ _
  have HW1 := Lib.hid hw1
  by_cases hn : n = 0
  · subst hn
    have HB1 := Lib.hid b1
    have HG1 := Lib.hid gR1
    clear h b1 gR1 hw1 s1
    go_enter Tryd.func8, Tryd.ntmps8
    go_wp2_with fail
    refine bodyPost_ret (results_cell_row rfl _ _ w.heap.size 34 #[.int .i64 0, .int .i64 0, .int .i64 0] _ _ rfl (by rw [← HW1.out]; exact HG1.out) Tryd.underlying34 rfl (by kernel_rfl)) rfl ?_
    exact ⟨0, 0, rfl, ⟨fun _ => ⟨rfl, rfl⟩, fun h => absurd h (Nat.lt_irrefl 0)⟩, by rw [← HW1.out]; exact HB1.out⟩
  · obtain ⟨g, off, rfl, hlt, hcell⟩ := h.cells (by omega)
    have x0 := hcell 0 (by omega)
    obtain ⟨x, hx⟩ : ∃ x, x = (l.getD 0 0) := ⟨_, rfl⟩
    rw [← hx, Nat.add_zero] at x0
    have HX := Lib.hid hx
    have hnz : ((n : Int) == 0) = false := by rw [beq_eq_false_iff_ne]; omega
    have hnp : (0 : Int) < (n : Int) := by omega
    have HB1 := Lib.hid b1
    have HG1 := Lib.hid gR1
    have x01 : w1.cell? ⟨g, off, none⟩ = some (.int .i64 x) := (b1.cell (p := ⟨g, off, none⟩) hlt).trans x0
    have HS1 := Lib.hid s1
    clear h b1 gR1 hcell hx s1 x0
    subst hw1
    go_enter Tryd.func8, Tryd.ntmps8
    go_wp2_with fail
    go_region
    go_wp2_with fail
    obtain ⟨w2, hw2⟩ : ∃ w2, w2 = ((w.alloc (.cells #[.int .i64 0, .int .i64 0, .int .i64 0] 34)).alloc (.cells #[.int .i64 (n : Int), .int .i64 x, .int .i64 x] 34)).drew := ⟨_, rfl⟩
    rw [← hw2]
    have gS : w2.heap[w.heap.size + 1]? = some (.cells #[.int .i64 (n : Int), .int .i64 x, .int .i64 x] 34 (0, 0)) := by
      rw [hw2, ← HS1.out]
      exact heap_alloc_new _ _
    have gR : w2.heap[w.heap.size]? = some (.cells #[.int .i64 0, .int .i64 0, .int .i64 0] 34 (0, 0)) := by
      rw [hw2]
      show ((w.alloc (.cells #[.int .i64 0, .int .i64 0, .int .i64 0] 34)).alloc (.cells #[.int .i64 (n : Int), .int .i64 x, .int .i64 x] 34)).heap[w.heap.size]? = _
      rw [heap_alloc_old _ _ (by rw [HS1.out]; omega)]
      exact heap_alloc_new _ _
    have HB2 := Lib.hid (show Below w.heap.size w w2 from by rw [hw2]; exact (HB1.out.alloc HB1.out.size _).drew)
    have HBN := Lib.hid (show BndI l n 0 x x from ⟨fun i hi => absurd hi (Nat.not_lt_zero _), ⟨0, by omega, HX.out.symm⟩, ⟨0, by omega, HX.out.symm⟩⟩)
    have HGS := Lib.hid gS
    have HGR := Lib.hid gR
    clear gS gR hw2 x01
    go_loopw [5, 21] (fun _ s21 wr => ∃ (k : Nat) (lo hi : Int), k ≤ n ∧ s21 = .int .i64 (k : Int) ∧ Hid (wr.heap[w.heap.size]? = some (.cells #[.int .i64 0, .int .i64 0, .int .i64 0] 34 (0, 0))) ∧ Hid (wr.heap[w.heap.size + 1]? = some (.cells #[.int .i64 (n : Int), .int .i64 lo, .int .i64 hi] 34 (0, 0))) ∧ Hid (Below w.heap.size w wr) ∧ Hid (BndI l n k lo hi)) (fun _ s21 _ => n - (intOf s21).toNat)
    case atStart => exact ⟨0, x, x, by omega, rfl, HGR, HGS, HB2, HBN⟩
    case round =>
      obtain ⟨k, lo, hi, hk, rfl, GR, GS, HB, HN⟩ := hrel
      rename World => wr
      by_cases hkn : k < n
      · have hki : (k : Int) < (n : Int) := by omega
        obtain ⟨g', off', hE, hlt', hcell'⟩ := (HH.out.keep HB.out (Nat.le_refl _)).cells (by omega)
        cases hE
        have x1 := hcell' k hkn
        obtain ⟨y, hy⟩ : ∃ y, y = (l.getD k 0) := ⟨_, rfl⟩
        rw [← hy] at x1
        have HY := Lib.hid hy
        have hgs := GS.out
        have m1 := cell_of hgs (i := 1) (u := .int .i64 lo) rfl
        have m2 := cell_of hgs (i := 2) (u := .int .i64 hi) rfl
        have q1 := fro_of hgs 1
        have q2 := fro_of hgs 2
        have lS := (Array.getElem?_eq_some_iff.1 hgs).1
        have HLS := Lib.hid lS
        have HL1 := Lib.hid (lessI_any y lo wr)
        clear hcell' hy hgs
        have c1 : (y < lo) ∨ ¬ (y < lo) := Classical.em _
        have c2 : (hi < y) ∨ ¬ (hi < y) := Classical.em _
        rcases c1 with c1 | c1 <;> rcases c2 with c2 | c2
        · have HNN := Lib.hid (HN.out.step (x := y) (lo' := y) (hi' := y) hkn HY.out (.inl ⟨c1, rfl⟩) (.inl ⟨c2, rfl⟩))
          have d1 : decide (y < lo) = true := decide_eq_true c1
          have d2 : decide (hi < y) = true := decide_eq_true c2
          rw [d1] at HL1
          have HL2 := lessI_any hi y (wr.setCell ⟨w.heap.size + 1, 1, none⟩ (.int .i64 y))
          rw [d2] at HL2
          have HL2 := Lib.hid HL2
          have HRR := Lib.hid (show ((wr.setCell ⟨w.heap.size + 1, 1, none⟩ (.int .i64 y)).setCell ⟨w.heap.size + 1, 2, none⟩ (.int .i64 y)).heap[w.heap.size]? = some (.cells #[.int .i64 0, .int .i64 0, .int .i64 0] 34 (0, 0)) from ((heap_setCell_other _ _ _ _ (by simp)).trans ((heap_setCell_other _ _ _ _ (by simp)).trans GR.out)))
          have HSS := Lib.hid (show ((wr.setCell ⟨w.heap.size + 1, 1, none⟩ (.int .i64 y)).setCell ⟨w.heap.size + 1, 2, none⟩ (.int .i64 y)).heap[w.heap.size + 1]? = some (.cells #[.int .i64 (n : Int), .int .i64 y, .int .i64 y] 34 (0, 0)) from (setII (setI GS.out _) _))
          have HBX := Lib.hid (show Below w.heap.size w ((wr.setCell ⟨w.heap.size + 1, 1, none⟩ (.int .i64 y)).setCell ⟨w.heap.size + 1, 2, none⟩ (.int .i64 y)) from ((HB.out.setCell (p := ⟨w.heap.size + 1, 1, none⟩) (Nat.le_succ _) _).setCell (p := ⟨w.heap.size + 1, 2, none⟩) (Nat.le_succ _) _))
          clear d1 d2
          clear c1 c2
          go_wp2_with fail
          refine HL1.out.mono ?_
          rintro e wx ⟨rfl, hwx⟩
          subst hwx
          go_wp2_with fail
          refine HL2.out.mono ?_
          rintro e wy ⟨rfl, hwy⟩
          subst hwy
          go_wp2_with fail
          go_roundw
          case rel => exact ⟨k + 1, y, y, by omega, by go_num, HRR, HSS, HBX, HNN⟩
          case measure => simp [intOf]; omega
        · have HNN := Lib.hid (HN.out.step (x := y) (lo' := y) (hi' := hi) hkn HY.out (.inl ⟨c1, rfl⟩) (.inr ⟨c2, rfl⟩))
          have d1 : decide (y < lo) = true := decide_eq_true c1
          have d2 : decide (hi < y) = false := decide_eq_false c2
          rw [d1] at HL1
          have HL2 := lessI_any hi y (wr.setCell ⟨w.heap.size + 1, 1, none⟩ (.int .i64 y))
          rw [d2] at HL2
          have HL2 := Lib.hid HL2
          have HRR := Lib.hid (show (wr.setCell ⟨w.heap.size + 1, 1, none⟩ (.int .i64 y)).heap[w.heap.size]? = some (.cells #[.int .i64 0, .int .i64 0, .int .i64 0] 34 (0, 0)) from ((heap_setCell_other _ _ _ _ (by simp)).trans GR.out))
          have HSS := Lib.hid (show (wr.setCell ⟨w.heap.size + 1, 1, none⟩ (.int .i64 y)).heap[w.heap.size + 1]? = some (.cells #[.int .i64 (n : Int), .int .i64 y, .int .i64 hi] 34 (0, 0)) from (setI GS.out _))
          have HBX := Lib.hid (show Below w.heap.size w (wr.setCell ⟨w.heap.size + 1, 1, none⟩ (.int .i64 y)) from (HB.out.setCell (p := ⟨w.heap.size + 1, 1, none⟩) (Nat.le_succ _) _))
          clear d1 d2
          clear c1 c2
          go_wp2_with fail
          refine HL1.out.mono ?_
          rintro e wx ⟨rfl, hwx⟩
          subst hwx
          go_wp2_with fail
          refine HL2.out.mono ?_
          rintro e wy ⟨rfl, hwy⟩
          subst hwy
          go_wp2_with fail
          go_roundw
          case rel => exact ⟨k + 1, y, hi, by omega, by go_num, HRR, HSS, HBX, HNN⟩
          case measure => simp [intOf]; omega
        · have HNN := Lib.hid (HN.out.step (x := y) (lo' := lo) (hi' := y) hkn HY.out (.inr ⟨c1, rfl⟩) (.inl ⟨c2, rfl⟩))
          have d1 : decide (y < lo) = false := decide_eq_false c1
          have d2 : decide (hi < y) = true := decide_eq_true c2
          rw [d1] at HL1
          have HL2 := lessI_any hi y wr
          rw [d2] at HL2
          have HL2 := Lib.hid HL2
          have HRR := Lib.hid (show (wr.setCell ⟨w.heap.size + 1, 2, none⟩ (.int .i64 y)).heap[w.heap.size]? = some (.cells #[.int .i64 0, .int .i64 0, .int .i64 0] 34 (0, 0)) from ((heap_setCell_other _ _ _ _ (by simp)).trans GR.out))
          have HSS := Lib.hid (show (wr.setCell ⟨w.heap.size + 1, 2, none⟩ (.int .i64 y)).heap[w.heap.size + 1]? = some (.cells #[.int .i64 (n : Int), .int .i64 lo, .int .i64 y] 34 (0, 0)) from (setII GS.out _))
          have HBX := Lib.hid (show Below w.heap.size w (wr.setCell ⟨w.heap.size + 1, 2, none⟩ (.int .i64 y)) from (HB.out.setCell (p := ⟨w.heap.size + 1, 2, none⟩) (Nat.le_succ _) _))
          clear d1 d2
          clear c1 c2
          go_wp2_with fail
          refine HL1.out.mono ?_
          rintro e wx ⟨rfl, hwx⟩
          subst hwx
          go_wp2_with fail
          refine HL2.out.mono ?_
          rintro e wy ⟨rfl, hwy⟩
          subst hwy
          go_wp2_with fail
          go_roundw
          case rel => exact ⟨k + 1, lo, y, by omega, by go_num, HRR, HSS, HBX, HNN⟩
          case measure => simp [intOf]; omega
        · have HNN := Lib.hid (HN.out.step (x := y) (lo' := lo) (hi' := hi) hkn HY.out (.inr ⟨c1, rfl⟩) (.inr ⟨c2, rfl⟩))
          have d1 : decide (y < lo) = false := decide_eq_false c1
          have d2 : decide (hi < y) = false := decide_eq_false c2
          rw [d1] at HL1
          have HL2 := lessI_any hi y wr
          rw [d2] at HL2
          have HL2 := Lib.hid HL2
          have HRR := Lib.hid (show wr.heap[w.heap.size]? = some (.cells #[.int .i64 0, .int .i64 0, .int .i64 0] 34 (0, 0)) from GR.out)
          have HSS := Lib.hid (show wr.heap[w.heap.size + 1]? = some (.cells #[.int .i64 (n : Int), .int .i64 lo, .int .i64 hi] 34 (0, 0)) from GS.out)
          have HBX := Lib.hid (show Below w.heap.size w wr from HB.out)
          clear d1 d2
          clear c1 c2
          go_wp2_with fail
          refine HL1.out.mono ?_
          rintro e wx ⟨rfl, hwx⟩
          subst hwx
          go_wp2_with fail
          refine HL2.out.mono ?_
          rintro e wy ⟨rfl, hwy⟩
          subst hwy
          go_wp2_with fail
          go_roundw
          case rel => exact ⟨k + 1, lo, hi, by omega, by go_num, HRR, HSS, HBX, HNN⟩
          case measure => simp [intOf]; omega
      · have hkn2 : k = n := by omega
        have hnn : ¬ ((k : Int) < (n : Int)) := by omega
        have HN2 := Lib.hid (show BndI l n n lo hi from by have := HN.out; rw [hkn2] at this; exact this)
        have hgs := GS.out
        have m0 := cell_of hgs (i := 0) (u := .int .i64 (n : Int)) rfl
        have m1 := cell_of hgs (i := 1) (u := .int .i64 lo) rfl
        have m2 := cell_of hgs (i := 2) (u := .int .i64 hi) rfl
        have hgr := GR.out
        have r0 := cell_of hgr (i := 0) (u := .int .i64 0) rfl
        have r1 := cell_of hgr (i := 1) (u := .int .i64 0) rfl
        have r2 := cell_of hgr (i := 2) (u := .int .i64 0) rfl
        have q0 := fro_of hgr 0
        have q1 := fro_of hgr 1
        have q2 := fro_of hgr 2
        have lS := (Array.getElem?_eq_some_iff.1 hgs).1
        have lR := (Array.getElem?_eq_some_iff.1 hgr).1
        clear hgs hgr hkn hkn2
        go_wp2_with fail
        refine bodyPost_ret (results_cell_row rfl _ _ w.heap.size 34 #[.int .i64 (n : Int), .int .i64 lo, .int .i64 hi] _ _ rfl (set3 GR.out _ _ _) Tryd.underlying34 rfl (by kernel_rfl)) rfl ?_
        exact ⟨lo, hi, rfl, ⟨fun h => absurd h hn, fun _ => HN2.out⟩, below3 HB.out (Nat.le_refl _) _ _ _⟩
/-- of the first k: none is less than lo, hi less than none; both are there -/
structure BndS (l : List ByteArray) (n k : Nat) (lo hi : ByteArray) : Prop where
  all : ∀ i, i < k → ¬ (ltB (l.getD i ByteArray.empty) lo = true) ∧ ¬ (ltB hi (l.getD i ByteArray.empty) = true)
  lo : ∃ i, i < n ∧ (l.getD i ByteArray.empty) = lo
  hi : ∃ i, i < n ∧ (l.getD i ByteArray.empty) = hi
def OfS (l : List ByteArray) (n : Nat) (lo hi : ByteArray) : Prop := (n = 0 → lo = ByteArray.empty ∧ hi = ByteArray.empty) ∧ (0 < n → BndS l n n lo hi)
theorem BndS.step {l : List ByteArray} {n k : Nat} {lo hi x lo' hi' : ByteArray} (h : BndS l n k lo hi) (hk : k < n) (hx : x = (l.getD k ByteArray.empty)) (h1 : ((ltB x lo = true) ∧ lo' = x) ∨ (¬ (ltB x lo = true) ∧ lo' = lo)) (h2 : ((ltB hi x = true) ∧ hi' = x) ∨ (¬ (ltB hi x = true) ∧ hi' = hi)) : BndS l n (k + 1) lo' hi' := by
  refine ⟨fun i hi0 => ?_, ?_, ?_⟩
  · rcases Nat.lt_or_ge i k with g | g
    · obtain ⟨a1, a2⟩ := h.all i g
      refine ⟨fun e => ?_, fun e => ?_⟩
      · rcases h1 with ⟨q1, q2⟩ | ⟨q1, q2⟩
        · rw [q2] at e; exact a1 (ltB_trans e q1)
        · rw [q2] at e; exact a1 e
      · rcases h2 with ⟨q1, q2⟩ | ⟨q1, q2⟩
        · rw [q2] at e; exact a2 (ltB_trans q1 e)
        · rw [q2] at e; exact a2 e
    · obtain rfl : i = k := by omega
      rw [← hx]
      refine ⟨fun e => ?_, fun e => ?_⟩
      · rcases h1 with ⟨q1, q2⟩ | ⟨q1, q2⟩
        · rw [q2] at e; exact absurd e (by rw [ltB_irrefl]; simp)
        · rw [q2] at e; exact q1 e
      · rcases h2 with ⟨q1, q2⟩ | ⟨q1, q2⟩
        · rw [q2] at e; exact absurd e (by rw [ltB_irrefl]; simp)
        · rw [q2] at e; exact q1 e
  · rcases h1 with ⟨_, q2⟩ | ⟨_, q2⟩
    · exact ⟨k, hk, by rw [q2, hx]⟩
    · rw [q2]; exact h.lo
  · rcases h2 with ⟨_, q2⟩ | ⟨_, q2⟩
    · exact ⟨k, hk, by rw [q2, hx]⟩
    · rw [q2]; exact h.hi

set_option maxRecDepth 100000 in
set_option maxHeartbeats 4000000 in
theorem ofS_any {w : World} {a : Option Addr} {n c : Nat} {l : List ByteArray} (h : StrsAt w a n c l) :
    Calls Tryd.prog 9 #[.slice a n c] w fun e w' => ∃ lo hi, e = .returned (.agg #[.int .i64 (n : Int), .string lo, .string hi]) ∧ OfS l n lo hi ∧ Below w.heap.size w w' := by
  have hcap := h.cap
  have hcm := h.capm
  have HH := Lib.hid h
  obtain ⟨w1, hw1⟩ : ∃ w1, w1 = w.alloc (.cells #[.int .i64 0, .string { data := #[] }, .string { data := #[] }] 37) := ⟨_, rfl⟩
  have b1 : Below w.heap.size w w1 := by rw [hw1]; exact (Below.refl _ _).alloc (Nat.le_refl _) _
  have s1 : w1.heap.size = w.heap.size + 1 := by rw [hw1]; show (w.heap.push _).size = _; exact Array.size_push ..
  have gR1 : w1.heap[w.heap.size]? = some (.cells #[.int .i64 0, .string { data := #[] }, .string { data := #[] }] 37 (0, 0)) := by rw [hw1]; exact heap_alloc_new _ _
  have HW1 := Lib.hid hw1
  by_cases hn : n = 0
  · subst hn
    have HB1 := Lib.hid b1
    have HG1 := Lib.hid gR1
    clear h b1 gR1 hw1 s1
    go_enter Tryd.func9, Tryd.ntmps9
    go_wp2_with fail
    refine bodyPost_ret (results_cell_row rfl _ _ w.heap.size 37 #[.int .i64 0, .string { data := #[] }, .string { data := #[] }] _ _ rfl (by rw [← HW1.out]; exact HG1.out) Tryd.underlying37 rfl (by kernel_rfl)) rfl ?_
    exact ⟨ByteArray.empty, ByteArray.empty, rfl, ⟨fun _ => ⟨rfl, rfl⟩, fun h => absurd h (Nat.lt_irrefl 0)⟩, by rw [← HW1.out]; exact HB1.out⟩
  · obtain ⟨g, off, rfl, hlt, hcell⟩ := h.cells (by omega)
    have x0 := hcell 0 (by omega)
    obtain ⟨x, hx⟩ : ∃ x, x = (l.getD 0 ByteArray.empty) := ⟨_, rfl⟩
    rw [← hx, Nat.add_zero] at x0
    have HX := Lib.hid hx
    have hnz : ((n : Int) == 0) = false := by rw [beq_eq_false_iff_ne]; omega
    have hnp : (0 : Int) < (n : Int) := by omega
    have HB1 := Lib.hid b1
    have HG1 := Lib.hid gR1
    have x01 : w1.cell? ⟨g, off, none⟩ = some (.string x) := (b1.cell (p := ⟨g, off, none⟩) hlt).trans x0
    have HS1 := Lib.hid s1
    clear h b1 gR1 hcell hx s1 x0
    subst hw1
    go_enter Tryd.func9, Tryd.ntmps9
    go_wp2_with fail
    go_region
    go_wp2_with fail
    obtain ⟨w2, hw2⟩ : ∃ w2, w2 = ((w.alloc (.cells #[.int .i64 0, .string { data := #[] }, .string { data := #[] }] 37)).alloc (.cells #[.int .i64 (n : Int), .string x, .string x] 37)).drew := ⟨_, rfl⟩
    rw [← hw2]
    have gS : w2.heap[w.heap.size + 1]? = some (.cells #[.int .i64 (n : Int), .string x, .string x] 37 (0, 0)) := by
      rw [hw2, ← HS1.out]
      exact heap_alloc_new _ _
    have gR : w2.heap[w.heap.size]? = some (.cells #[.int .i64 0, .string { data := #[] }, .string { data := #[] }] 37 (0, 0)) := by
      rw [hw2]
      show ((w.alloc (.cells #[.int .i64 0, .string { data := #[] }, .string { data := #[] }] 37)).alloc (.cells #[.int .i64 (n : Int), .string x, .string x] 37)).heap[w.heap.size]? = _
      rw [heap_alloc_old _ _ (by rw [HS1.out]; omega)]
      exact heap_alloc_new _ _
    have HB2 := Lib.hid (show Below w.heap.size w w2 from by rw [hw2]; exact (HB1.out.alloc HB1.out.size _).drew)
    have HBN := Lib.hid (show BndS l n 0 x x from ⟨fun i hi => absurd hi (Nat.not_lt_zero _), ⟨0, by omega, HX.out.symm⟩, ⟨0, by omega, HX.out.symm⟩⟩)
    have HGS := Lib.hid gS
    have HGR := Lib.hid gR
    clear gS gR hw2 x01
    go_loopw [5, 21] (fun _ s21 wr => ∃ (k : Nat) (lo hi : ByteArray), k ≤ n ∧ s21 = .int .i64 (k : Int) ∧ Hid (wr.heap[w.heap.size]? = some (.cells #[.int .i64 0, .string { data := #[] }, .string { data := #[] }] 37 (0, 0))) ∧ Hid (wr.heap[w.heap.size + 1]? = some (.cells #[.int .i64 (n : Int), .string lo, .string hi] 37 (0, 0))) ∧ Hid (Below w.heap.size w wr) ∧ Hid (BndS l n k lo hi)) (fun _ s21 _ => n - (intOf s21).toNat)
    case atStart => exact ⟨0, x, x, by omega, rfl, HGR, HGS, HB2, HBN⟩
    case round =>
      obtain ⟨k, lo, hi, hk, rfl, GR, GS, HB, HN⟩ := hrel
      rename World => wr
      by_cases hkn : k < n
      · have hki : (k : Int) < (n : Int) := by omega
        obtain ⟨g', off', hE, hlt', hcell'⟩ := (HH.out.keep HB.out (Nat.le_refl _)).cells (by omega)
        cases hE
        have x1 := hcell' k hkn
        obtain ⟨y, hy⟩ : ∃ y, y = (l.getD k ByteArray.empty) := ⟨_, rfl⟩
        rw [← hy] at x1
        have HY := Lib.hid hy
        have hgs := GS.out
        have m1 := cell_of hgs (i := 1) (u := .string lo) rfl
        have m2 := cell_of hgs (i := 2) (u := .string hi) rfl
        have q1 := fro_of hgs 1
        have q2 := fro_of hgs 2
        have lS := (Array.getElem?_eq_some_iff.1 hgs).1
        have HLS := Lib.hid lS
        have HL1 := Lib.hid (lessS_any y lo wr)
        clear hcell' hy hgs
        have c1 : (ltB y lo = true) ∨ ¬ (ltB y lo = true) := Classical.em _
        have c2 : (ltB hi y = true) ∨ ¬ (ltB hi y = true) := Classical.em _
        rcases c1 with c1 | c1 <;> rcases c2 with c2 | c2
        · have HNN := Lib.hid (HN.out.step (x := y) (lo' := y) (hi' := y) hkn HY.out (.inl ⟨c1, rfl⟩) (.inl ⟨c2, rfl⟩))
          have d1 : ltB y lo = true := c1
          have d2 : ltB hi y = true := c2
          rw [d1] at HL1
          have HL2 := lessS_any hi y (wr.setCell ⟨w.heap.size + 1, 1, none⟩ (.string y))
          rw [d2] at HL2
          have HL2 := Lib.hid HL2
          have HRR := Lib.hid (show ((wr.setCell ⟨w.heap.size + 1, 1, none⟩ (.string y)).setCell ⟨w.heap.size + 1, 2, none⟩ (.string y)).heap[w.heap.size]? = some (.cells #[.int .i64 0, .string { data := #[] }, .string { data := #[] }] 37 (0, 0)) from ((heap_setCell_other _ _ _ _ (by simp)).trans ((heap_setCell_other _ _ _ _ (by simp)).trans GR.out)))
          have HSS := Lib.hid (show ((wr.setCell ⟨w.heap.size + 1, 1, none⟩ (.string y)).setCell ⟨w.heap.size + 1, 2, none⟩ (.string y)).heap[w.heap.size + 1]? = some (.cells #[.int .i64 (n : Int), .string y, .string y] 37 (0, 0)) from (setII (setI GS.out _) _))
          have HBX := Lib.hid (show Below w.heap.size w ((wr.setCell ⟨w.heap.size + 1, 1, none⟩ (.string y)).setCell ⟨w.heap.size + 1, 2, none⟩ (.string y)) from ((HB.out.setCell (p := ⟨w.heap.size + 1, 1, none⟩) (Nat.le_succ _) _).setCell (p := ⟨w.heap.size + 1, 2, none⟩) (Nat.le_succ _) _))
          clear d1 d2
          clear c1 c2
          go_wp2_with fail
          refine HL1.out.mono ?_
          rintro e wx ⟨rfl, hwx⟩
          subst hwx
          go_wp2_with fail
          refine HL2.out.mono ?_
          rintro e wy ⟨rfl, hwy⟩
          subst hwy
          go_wp2_with fail
          go_roundw
          case rel => exact ⟨k + 1, y, y, by omega, by go_num, HRR, HSS, HBX, HNN⟩
          case measure => simp [intOf]; omega
        · have HNN := Lib.hid (HN.out.step (x := y) (lo' := y) (hi' := hi) hkn HY.out (.inl ⟨c1, rfl⟩) (.inr ⟨c2, rfl⟩))
          have d1 : ltB y lo = true := c1
          have d2 : ltB hi y = false := by simpa using c2
          rw [d1] at HL1
          have HL2 := lessS_any hi y (wr.setCell ⟨w.heap.size + 1, 1, none⟩ (.string y))
          rw [d2] at HL2
          have HL2 := Lib.hid HL2
          have HRR := Lib.hid (show (wr.setCell ⟨w.heap.size + 1, 1, none⟩ (.string y)).heap[w.heap.size]? = some (.cells #[.int .i64 0, .string { data := #[] }, .string { data := #[] }] 37 (0, 0)) from ((heap_setCell_other _ _ _ _ (by simp)).trans GR.out))
          have HSS := Lib.hid (show (wr.setCell ⟨w.heap.size + 1, 1, none⟩ (.string y)).heap[w.heap.size + 1]? = some (.cells #[.int .i64 (n : Int), .string y, .string hi] 37 (0, 0)) from (setI GS.out _))
          have HBX := Lib.hid (show Below w.heap.size w (wr.setCell ⟨w.heap.size + 1, 1, none⟩ (.string y)) from (HB.out.setCell (p := ⟨w.heap.size + 1, 1, none⟩) (Nat.le_succ _) _))
          clear d1 d2
          clear c1 c2
          go_wp2_with fail
          refine HL1.out.mono ?_
          rintro e wx ⟨rfl, hwx⟩
          subst hwx
          go_wp2_with fail
          refine HL2.out.mono ?_
          rintro e wy ⟨rfl, hwy⟩
          subst hwy
          go_wp2_with fail
          go_roundw
          case rel => exact ⟨k + 1, y, hi, by omega, by go_num, HRR, HSS, HBX, HNN⟩
          case measure => simp [intOf]; omega
        · have HNN := Lib.hid (HN.out.step (x := y) (lo' := lo) (hi' := y) hkn HY.out (.inr ⟨c1, rfl⟩) (.inl ⟨c2, rfl⟩))
          have d1 : ltB y lo = false := by simpa using c1
          have d2 : ltB hi y = true := c2
          rw [d1] at HL1
          have HL2 := lessS_any hi y wr
          rw [d2] at HL2
          have HL2 := Lib.hid HL2
          have HRR := Lib.hid (show (wr.setCell ⟨w.heap.size + 1, 2, none⟩ (.string y)).heap[w.heap.size]? = some (.cells #[.int .i64 0, .string { data := #[] }, .string { data := #[] }] 37 (0, 0)) from ((heap_setCell_other _ _ _ _ (by simp)).trans GR.out))
          have HSS := Lib.hid (show (wr.setCell ⟨w.heap.size + 1, 2, none⟩ (.string y)).heap[w.heap.size + 1]? = some (.cells #[.int .i64 (n : Int), .string lo, .string y] 37 (0, 0)) from (setII GS.out _))
          have HBX := Lib.hid (show Below w.heap.size w (wr.setCell ⟨w.heap.size + 1, 2, none⟩ (.string y)) from (HB.out.setCell (p := ⟨w.heap.size + 1, 2, none⟩) (Nat.le_succ _) _))
          clear d1 d2
          clear c1 c2
          go_wp2_with fail
          refine HL1.out.mono ?_
          rintro e wx ⟨rfl, hwx⟩
          subst hwx
          go_wp2_with fail
          refine HL2.out.mono ?_
          rintro e wy ⟨rfl, hwy⟩
          subst hwy
          go_wp2_with fail
          go_roundw
          case rel => exact ⟨k + 1, lo, y, by omega, by go_num, HRR, HSS, HBX, HNN⟩
          case measure => simp [intOf]; omega
        · have HNN := Lib.hid (HN.out.step (x := y) (lo' := lo) (hi' := hi) hkn HY.out (.inr ⟨c1, rfl⟩) (.inr ⟨c2, rfl⟩))
          have d1 : ltB y lo = false := by simpa using c1
          have d2 : ltB hi y = false := by simpa using c2
          rw [d1] at HL1
          have HL2 := lessS_any hi y wr
          rw [d2] at HL2
          have HL2 := Lib.hid HL2
          have HRR := Lib.hid (show wr.heap[w.heap.size]? = some (.cells #[.int .i64 0, .string { data := #[] }, .string { data := #[] }] 37 (0, 0)) from GR.out)
          have HSS := Lib.hid (show wr.heap[w.heap.size + 1]? = some (.cells #[.int .i64 (n : Int), .string lo, .string hi] 37 (0, 0)) from GS.out)
          have HBX := Lib.hid (show Below w.heap.size w wr from HB.out)
          clear d1 d2
          clear c1 c2
          go_wp2_with fail
          refine HL1.out.mono ?_
          rintro e wx ⟨rfl, hwx⟩
          subst hwx
          go_wp2_with fail
          refine HL2.out.mono ?_
          rintro e wy ⟨rfl, hwy⟩
          subst hwy
          go_wp2_with fail
          go_roundw
          case rel => exact ⟨k + 1, lo, hi, by omega, by go_num, HRR, HSS, HBX, HNN⟩
          case measure => simp [intOf]; omega
      · have hkn2 : k = n := by omega
        have hnn : ¬ ((k : Int) < (n : Int)) := by omega
        have HN2 := Lib.hid (show BndS l n n lo hi from by have := HN.out; rw [hkn2] at this; exact this)
        have hgs := GS.out
        have m0 := cell_of hgs (i := 0) (u := .int .i64 (n : Int)) rfl
        have m1 := cell_of hgs (i := 1) (u := .string lo) rfl
        have m2 := cell_of hgs (i := 2) (u := .string hi) rfl
        have hgr := GR.out
        have r0 := cell_of hgr (i := 0) (u := .int .i64 0) rfl
        have r1 := cell_of hgr (i := 1) (u := .string { data := #[] }) rfl
        have r2 := cell_of hgr (i := 2) (u := .string { data := #[] }) rfl
        have q0 := fro_of hgr 0
        have q1 := fro_of hgr 1
        have q2 := fro_of hgr 2
        have lS := (Array.getElem?_eq_some_iff.1 hgs).1
        have lR := (Array.getElem?_eq_some_iff.1 hgr).1
        clear hgs hgr hkn hkn2
        go_wp2_with fail
        refine bodyPost_ret (results_cell_row rfl _ _ w.heap.size 37 #[.int .i64 (n : Int), .string lo, .string hi] _ _ rfl (set3 GR.out _ _ _) Tryd.underlying37 rfl (by kernel_rfl)) rfl ?_
        exact ⟨lo, hi, rfl, ⟨fun h => absurd h hn, fun _ => HN2.out⟩, below3 HB.out (Nat.le_refl _) _ _ _⟩
end Go.Proofs.YteggmbfhfoijoaaDoor
