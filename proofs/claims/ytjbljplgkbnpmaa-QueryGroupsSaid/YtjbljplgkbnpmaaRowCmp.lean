/- Rows compared, and held against each other, by the document's answer: walked. Written by genrowcmp.py. -/
import Derived.Test.YtjbljplgkbnpmaaRowAt
import Derived.Test.YtjbljplgkbnpmaaRecRight
namespace Go.Proofs.Ytjbljplgkbnpmaa
open Go.RowKit LabPlain RecPlain
set_option linter.unusedVariables false

def cmpL : List Int → List Int → Int
  | x :: xs, y :: ys => if x < y then -1 else if y < x then 1 else cmpL xs ys
  | _, _ => 0
/-- a row's place in the order -/
def RowV.key (x : RowV) : List Int := [x.r.time, x.who, x.sq, x.pl]
def cmpRow (x y : RowV) : Int := cmpL x.key y.key
theorem cmpL_skip : ∀ (k : Nat) (x y : List Int), k ≤ x.length → x.length = y.length → (∀ i, i < k → x.getD i 0 = y.getD i 0) → cmpL x y = cmpL (x.drop k) (y.drop k)
  | 0, x, y, _, _, _ => rfl
  | k + 1, [], y, h, _, _ => by simp at h
  | k + 1, x :: xs, [], _, h, _ => by simp at h
  | k + 1, x :: xs, y :: ys, h, hl, he => by
    have h0 : x = y := he 0 (by omega)
    subst h0
    rw [cmpL, if_neg (by omega), if_neg (by omega), cmpL_skip k xs ys (by simpa using h) (by simpa using hl) (fun i hi => he (i + 1) (by omega))]
    rfl
theorem cmpL_at {x y : List Int} {k : Nat} (hk : k < x.length) (hl : x.length = y.length) (he : ∀ i, i < k → x.getD i 0 = y.getD i 0) :
    (x.getD k 0 < y.getD k 0 → cmpL x y = -1) ∧ (y.getD k 0 < x.getD k 0 → cmpL x y = 1) := by
  rw [cmpL_skip k x y (by omega) hl he]
  rw [List.drop_eq_getElem_cons hk, List.drop_eq_getElem_cons (show k < y.length by omega), cmpL]
  have h1 : x.getD k 0 = x[k] := by simp [hk]
  have h2 : y.getD k 0 = y[k]'(by omega) := by simp [show k < y.length by omega]
  rw [h1, h2]
  refine ⟨fun h => by rw [if_pos h], fun h => by rw [if_neg (by omega), if_pos h]⟩
theorem cmpL_all {x y : List Int} (hl : x.length = y.length) (he : ∀ i, i < x.length → x.getD i 0 = y.getD i 0) : cmpL x y = 0 := by
  rw [cmpL_skip x.length x y (Nat.le_refl _) hl he, List.drop_length, hl, List.drop_length]; rfl
theorem cmpL_zero : ∀ {x y : List Int}, x.length = y.length → cmpL x y = 0 → x = y
  | [], [], _, _ => rfl
  | x :: xs, y :: ys, hl, h => by
    rw [cmpL] at h
    split at h
    · omega
    · split at h
      · omega
      · obtain rfl : x = y := by omega
        rw [cmpL_zero (by simpa using hl) h]
  | [], y :: ys, hl, _ => by simp at hl
  | x :: xs, [], hl, _ => by simp at hl

/-- do two rows say the same? -/
def sameB (x y : RowV) : Bool := decide (x.r.kind = y.r.kind) && decide (x.r.time = y.r.time) && decide (x.r.labs = y.r.labs) && decide (x.r.text = y.r.text) && decide (x.r.value = y.r.value) && decide (x.r.null = y.r.null) && decide (x.who = y.who) && decide (x.sq = y.sq) && decide (x.pl = y.pl)
theorem sameB_iff {x y : RowV} : sameB x y = true ↔ x.says = y.says := by
  unfold sameB RowV.says
  simp only [Bool.and_eq_true, decide_eq_true_eq, Prod.mk.injEq]
  constructor
  · rintro ⟨⟨⟨⟨⟨⟨⟨⟨h1, h2⟩, h3⟩, h4⟩, h5⟩, h6⟩, h7⟩, h8⟩, h9⟩; exact ⟨h1, h2, h3, h4, h5, h6, h7, h8, h9⟩
  · rintro ⟨h1, h2, h3, h4, h5, h6, h7, h8, h9⟩; exact ⟨⟨⟨⟨⟨⟨⟨⟨h1, h2⟩, h3⟩, h4⟩, h5⟩, h6⟩, h7⟩, h8⟩, h9⟩
theorem sameB_no {x y : RowV} (h : ¬ x.says = y.says) : sameB x y = false := by
  cases hb : sameB x y with
  | false => rfl
  | true => exact absurd (sameB_iff.1 hb) h

set_option maxRecDepth 100000 in
set_option maxHeartbeats 4000000 in
theorem rcompare_any (x y : RowV) (w : World) :
    Calls Try.prog 44 #[.agg #[.int .i64 x.r.kind, .int .i64 x.r.time, .slice x.r.la x.r.ln x.r.lc, .string x.r.text, .int .i64 x.r.value, .bool x.r.null, .int .i64 x.who, .int .i64 x.sq, .int .i64 x.pl], .agg #[.int .i64 y.r.kind, .int .i64 y.r.time, .slice y.r.la y.r.ln y.r.lc, .string y.r.text, .int .i64 y.r.value, .bool y.r.null, .int .i64 y.who, .int .i64 y.sq, .int .i64 y.pl]] w fun e w' => e = .returned (.int .i64 (cmpRow x y)) ∧ Below w.heap.size w w' := by
  obtain ⟨w1, hw1⟩ : ∃ w1, w1 = w.alloc (.cells #[.int .i64 x.r.kind, .int .i64 x.r.time, .slice x.r.la x.r.ln x.r.lc, .string x.r.text, .int .i64 x.r.value, .bool x.r.null, .int .i64 x.who, .int .i64 x.sq, .int .i64 x.pl] 62) := ⟨_, rfl⟩
  obtain ⟨w2, hw2⟩ : ∃ w2, w2 = w1.alloc (.cells #[.int .i64 y.r.kind, .int .i64 y.r.time, .slice y.r.la y.r.ln y.r.lc, .string y.r.text, .int .i64 y.r.value, .bool y.r.null, .int .i64 y.who, .int .i64 y.sq, .int .i64 y.pl] 62) := ⟨_, rfl⟩
  obtain ⟨w3, hw3⟩ : ∃ w3, w3 = w2.alloc (.cells #[.int .i64 x.r.time, .int .i64 x.who, .int .i64 x.sq, .int .i64 x.pl] 120) := ⟨_, rfl⟩
  obtain ⟨w4, hw4⟩ : ∃ w4, w4 = w3.alloc (.cells #[.int .i64 y.r.time, .int .i64 y.who, .int .i64 y.sq, .int .i64 y.pl] 120) := ⟨_, rfl⟩
  have s1 : w1.heap.size = w.heap.size + 1 := by rw [hw1]; exact Array.size_push _
  have s2 : w2.heap.size = w.heap.size + 2 := by rw [hw2]; exact (Array.size_push _).trans (by rw [s1])
  have s3 : w3.heap.size = w.heap.size + 3 := by rw [hw3]; exact (Array.size_push _).trans (by rw [s2])
  have s4 : w4.heap.size = w.heap.size + 4 := by rw [hw4]; exact (Array.size_push _).trans (by rw [s3])
  have hb1 : Below w.heap.size w w1 := by rw [hw1]; exact (Below.refl _ _).alloc (Nat.le_refl _) _
  have hb2 : Below w1.heap.size w1 w2 := by rw [hw2]; exact (Below.refl _ _).alloc (Nat.le_refl _) _
  have hb3 : Below w2.heap.size w2 w3 := by rw [hw3]; exact (Below.refl _ _).alloc (Nat.le_refl _) _
  have hb4 : Below w3.heap.size w3 w4 := by rw [hw4]; exact (Below.refl _ _).alloc (Nat.le_refl _) _
  have g0 : w1.heap[w.heap.size]? = some (.cells #[.int .i64 x.r.kind, .int .i64 x.r.time, .slice x.r.la x.r.ln x.r.lc, .string x.r.text, .int .i64 x.r.value, .bool x.r.null, .int .i64 x.who, .int .i64 x.sq, .int .i64 x.pl] 62 (0, 0)) := by rw [hw1]; exact heap_alloc_new w _
  have g1 : w2.heap[w.heap.size + 1]? = some (.cells #[.int .i64 y.r.kind, .int .i64 y.r.time, .slice y.r.la y.r.ln y.r.lc, .string y.r.text, .int .i64 y.r.value, .bool y.r.null, .int .i64 y.who, .int .i64 y.sq, .int .i64 y.pl] 62 (0, 0)) := by rw [← s1, hw2]; exact heap_alloc_new w1 _
  have g2 : w3.heap[w.heap.size + 2]? = some (.cells #[.int .i64 x.r.time, .int .i64 x.who, .int .i64 x.sq, .int .i64 x.pl] 120 (0, 0)) := by rw [← s2, hw3]; exact heap_alloc_new w2 _
  have g3 : w4.heap[w.heap.size + 3]? = some (.cells #[.int .i64 y.r.time, .int .i64 y.who, .int .i64 y.sq, .int .i64 y.pl] 120 (0, 0)) := by rw [← s3, hw4]; exact heap_alloc_new w3 _
  have HX := Lib.hid (fun (wr : World) (h : Below w4.heap.size w4 wr) (k : Nat) (hk : k < 4) => show wr.cell? ⟨w.heap.size + 2, k, none⟩ = some (.int .i64 (x.key.getD k 0)) from by
    rw [cell_of_row wr _ _ _ _ (0, 0) (((h.block _ (by omega)).trans (hb4.block _ (by omega))).trans g2)]
    match k, hk with
    | 0, _ => rfl
    | 1, _ => rfl
    | 2, _ => rfl
    | 3, _ => rfl)
  have HY := Lib.hid (fun (wr : World) (h : Below w4.heap.size w4 wr) (k : Nat) (hk : k < 4) => show wr.cell? ⟨w.heap.size + 3, k, none⟩ = some (.int .i64 (y.key.getD k 0)) from by
    rw [cell_of_row wr _ _ _ _ (0, 0) ((h.block _ (by omega)).trans g3)]
    match k, hk with
    | 0, _ => rfl
    | 1, _ => rfl
    | 2, _ => rfl
    | 3, _ => rfl)
  have HB4 := Lib.hid (((hb1.trans (hb2.mono (by omega))).trans (hb3.mono (by omega))).trans (hb4.mono (by omega)))
  have HW := Lib.hid (show w4 = (((w.alloc (.cells #[.int .i64 x.r.kind, .int .i64 x.r.time, .slice x.r.la x.r.ln x.r.lc, .string x.r.text, .int .i64 x.r.value, .bool x.r.null, .int .i64 x.who, .int .i64 x.sq, .int .i64 x.pl] 62)).alloc (.cells #[.int .i64 y.r.kind, .int .i64 y.r.time, .slice y.r.la y.r.ln y.r.lc, .string y.r.text, .int .i64 y.r.value, .bool y.r.null, .int .i64 y.who, .int .i64 y.sq, .int .i64 y.pl] 62)).alloc (.cells #[.int .i64 x.r.time, .int .i64 x.who, .int .i64 x.sq, .int .i64 x.pl] 120)).alloc (.cells #[.int .i64 y.r.time, .int .i64 y.who, .int .i64 y.sq, .int .i64 y.pl] 120) by rw [hw4, hw3, hw2, hw1])
  have c3 : ∀ k v, #[.int .i64 y.r.kind, .int .i64 y.r.time, .slice y.r.la y.r.ln y.r.lc, .string y.r.text, .int .i64 y.r.value, .bool y.r.null, .int .i64 y.who, .int .i64 y.sq, .int .i64 y.pl][k]? = some v → ∀ wr, wr = w2 ∨ wr = w3 → wr.cell? ⟨w.heap.size + 1, k, none⟩ = some v := by
    intro k v hv wr hwr
    rcases hwr with rfl | rfl
    · rw [cell_of_row _ _ _ _ _ (0, 0) g1]; exact hv
    · rw [cell_of_row _ _ _ _ _ (0, 0) ((hb3.block _ (by omega)).trans g1)]; exact hv
  have c2 : ∀ k v, #[.int .i64 x.r.kind, .int .i64 x.r.time, .slice x.r.la x.r.ln x.r.lc, .string x.r.text, .int .i64 x.r.value, .bool x.r.null, .int .i64 x.who, .int .i64 x.sq, .int .i64 x.pl][k]? = some v → w2.cell? ⟨w.heap.size, k, none⟩ = some v := by
    intro k v hv
    rw [cell_of_row _ _ _ _ _ (0, 0) ((hb2.block _ (by omega)).trans g0)]; exact hv
  have a1 := c2 1 _ rfl
  have a6 := c2 6 _ rfl
  have a7 := c2 7 _ rfl
  have a8 := c2 8 _ rfl
  have b1 := c3 1 _ rfl w3 (.inr rfl)
  have b6 := c3 6 _ rfl w3 (.inr rfl)
  have b7 := c3 7 _ rfl w3 (.inr rfl)
  have b8 := c3 8 _ rfl w3 (.inr rfl)
  rw [hw3] at b1 b6 b7 b8
  rw [hw2] at a1 a6 a7 a8 b1 b6 b7 b8
  rw [hw1] at a1 a6 a7 a8 b1 b6 b7 b8
  clear hb1 hb2 hb3 hb4 g0 g1 g2 g3 s1 s2 s3 c2 c3 hw4 hw3 hw2 hw1
  have HS4 := Lib.hid s4
  clear s4
  go_enter Try.func44, Try.ntmps44
  go_wp2_with fail
  go_loopw [28] (fun s28 wr => ∃ k : Nat, k ≤ 4 ∧ s28 = .int .i64 (k : Int) ∧ Hid (∀ i, i < k → x.key.getD i 0 = y.key.getD i 0) ∧ Hid (Below w4.heap.size w4 wr)) (fun s28 _ => 4 - (intOf s28).toNat)
  case atStart => exact ⟨0, by omega, rfl, Lib.hid (fun i hi => absurd hi (Nat.not_lt_zero _)), Lib.hid (by rw [← HW.out]; exact Below.refl _ _)⟩
  case round =>
    clear a1 a6 a7 a8 b1 b6 b7 b8
    obtain ⟨k, hk, rfl, HU, HB⟩ := hrel
    rename World => wr
    by_cases hk4 : k < 4
    · have cx := HX.out wr HB.out k hk4
      have cy := HY.out wr HB.out k hk4
      obtain ⟨p, hp⟩ : ∃ p, p = x.key.getD k 0 := ⟨_, rfl⟩
      obtain ⟨q, hq⟩ : ∃ q, q = y.key.getD k 0 := ⟨_, rfl⟩
      rw [← hp] at cx
      rw [← hq] at cy
      have hk4i : (k : Int) < 4 := by omega
      have hat := cmpL_at (x := x.key) (y := y.key) (k := k) hk4 rfl HU.out
      rw [← hp, ← hq] at hat
      have HAT := Lib.hid hat
      have HP := Lib.hid hp
      have HQ := Lib.hid hq
      clear hp hq hat
      rcases Int.lt_trichotomy p q with h | h | h
      · have HF := Lib.hid (show cmpRow x y = -1 from HAT.out.1 h)
        go_wp2_with fail
        go_quiet (fail)
        rename Nat => nq
        go_wp2_with fail
        go_ret
        rw [HF.out]; exact ⟨rfl, HB4.out.trans ((below_drewN HB.out nq).mono HB4.out.size)⟩
      · subst h
        have HU2 := Lib.hid (show ∀ i, i < k + 1 → x.key.getD i 0 = y.key.getD i 0 from fun i hi => by
          rcases Nat.lt_or_ge i k with g | g
          · exact HU.out i g
          · obtain rfl : i = k := by omega
            rw [← HP.out, ← HQ.out])
        go_wp2_with fail
        go_quiet (fail)
        rename Nat => nq
        go_wp2_with fail
        go_quiet (fail)
        rename Nat => nr
        go_wp2_with fail
        go_roundw
        case rel => exact ⟨k + 1, by omega, by go_num, HU2, Lib.hid (below_drewN HB.out (nq + nr))⟩
        case measure => simp [intOf]; omega
      · have HF := Lib.hid (show cmpRow x y = 1 from HAT.out.2 h)
        go_wp2_with fail
        go_quiet (fail)
        rename Nat => nq
        go_wp2_with fail
        go_quiet (fail)
        rename Nat => nr
        go_wp2_with fail
        go_ret
        rw [HF.out]; exact ⟨rfl, HB4.out.trans ((below_drewN (below_drewN HB.out nq) nr).mono HB4.out.size)⟩
    · obtain rfl : k = 4 := by omega
      have HF := Lib.hid (show cmpRow x y = 0 from cmpL_all rfl HU.out)
      clear hk4
      go_wp2_with fail
      go_ret
      rw [HF.out]; exact ⟨rfl, HB4.out.trans (HB.out.mono HB4.out.size)⟩

set_option maxRecDepth 100000 in
set_option maxHeartbeats 4000000 in
theorem rsame_any {w : World} (x y : RowV) (hx : LabsAt w x.r.la x.r.ln x.r.lc x.r.labs) (hy : LabsAt w y.r.la y.r.ln y.r.lc y.r.labs) :
    Calls Try.prog 46 #[.agg #[.int .i64 x.r.kind, .int .i64 x.r.time, .slice x.r.la x.r.ln x.r.lc, .string x.r.text, .int .i64 x.r.value, .bool x.r.null, .int .i64 x.who, .int .i64 x.sq, .int .i64 x.pl], .agg #[.int .i64 y.r.kind, .int .i64 y.r.time, .slice y.r.la y.r.ln y.r.lc, .string y.r.text, .int .i64 y.r.value, .bool y.r.null, .int .i64 y.who, .int .i64 y.sq, .int .i64 y.pl]] w fun e w' => e = .returned (.bool (sameB x y)) ∧ Below w.heap.size w w' := by
  obtain ⟨w1, hw1⟩ : ∃ w1, w1 = w.alloc (.cells #[.int .i64 x.r.kind, .int .i64 x.r.time, .slice x.r.la x.r.ln x.r.lc, .string x.r.text, .int .i64 x.r.value, .bool x.r.null, .int .i64 x.who, .int .i64 x.sq, .int .i64 x.pl] 62) := ⟨_, rfl⟩
  obtain ⟨w2, hw2⟩ : ∃ w2, w2 = w1.alloc (.cells #[.int .i64 y.r.kind, .int .i64 y.r.time, .slice y.r.la y.r.ln y.r.lc, .string y.r.text, .int .i64 y.r.value, .bool y.r.null, .int .i64 y.who, .int .i64 y.sq, .int .i64 y.pl] 62) := ⟨_, rfl⟩
  have s1 : w1.heap.size = w.heap.size + 1 := by rw [hw1]; exact Array.size_push _
  have s2 : w2.heap.size = w.heap.size + 2 := by rw [hw2]; exact (Array.size_push _).trans (by rw [s1])
  have hb1 : Below w.heap.size w w1 := by rw [hw1]; exact (Below.refl _ _).alloc (Nat.le_refl _) _
  have hb2 : Below w1.heap.size w1 w2 := by rw [hw2]; exact (Below.refl _ _).alloc (Nat.le_refl _) _
  have g0 : w1.heap[w.heap.size]? = some (.cells #[.int .i64 x.r.kind, .int .i64 x.r.time, .slice x.r.la x.r.ln x.r.lc, .string x.r.text, .int .i64 x.r.value, .bool x.r.null, .int .i64 x.who, .int .i64 x.sq, .int .i64 x.pl] 62 (0, 0)) := by rw [hw1]; exact heap_alloc_new w _
  have g1 : w2.heap[w.heap.size + 1]? = some (.cells #[.int .i64 y.r.kind, .int .i64 y.r.time, .slice y.r.la y.r.ln y.r.lc, .string y.r.text, .int .i64 y.r.value, .bool y.r.null, .int .i64 y.who, .int .i64 y.sq, .int .i64 y.pl] 62 (0, 0)) := by rw [← s1, hw2]; exact heap_alloc_new w1 _
  have cx : ∀ k v, #[.int .i64 x.r.kind, .int .i64 x.r.time, .slice x.r.la x.r.ln x.r.lc, .string x.r.text, .int .i64 x.r.value, .bool x.r.null, .int .i64 x.who, .int .i64 x.sq, .int .i64 x.pl][k]? = some v → ∀ wr, Below w2.heap.size w2 wr → wr.cell? ⟨w.heap.size, k, none⟩ = some v := by
    intro k v hv wr h
    rw [cell_of_row _ _ _ _ _ (0, 0) (((h.block _ (by omega)).trans (hb2.block _ (by omega))).trans g0)]; exact hv
  have cy : ∀ k v, #[.int .i64 y.r.kind, .int .i64 y.r.time, .slice y.r.la y.r.ln y.r.lc, .string y.r.text, .int .i64 y.r.value, .bool y.r.null, .int .i64 y.who, .int .i64 y.sq, .int .i64 y.pl][k]? = some v → ∀ wr, Below w2.heap.size w2 wr → wr.cell? ⟨w.heap.size + 1, k, none⟩ = some v := by
    intro k v hv wr h
    rw [cell_of_row _ _ _ _ _ (0, 0) ((h.block _ (by omega)).trans g1)]; exact hv
  have hb : Below w.heap.size w w2 := hb1.trans (hb2.mono (by omega))
  have a0 := cx 0 _ rfl w2 (Below.refl _ _)
  have b0 := cy 0 _ rfl w2 (Below.refl _ _)
  have a1 := cx 1 _ rfl w2 (Below.refl _ _)
  have b1 := cy 1 _ rfl w2 (Below.refl _ _)
  have a2 := cx 2 _ rfl w2 (Below.refl _ _)
  have b2 := cy 2 _ rfl w2 (Below.refl _ _)
  have a3 := cx 3 _ rfl w2 (Below.refl _ _)
  have b3 := cy 3 _ rfl w2 (Below.refl _ _)
  have a4 := cx 4 _ rfl w2 (Below.refl _ _)
  have b4 := cy 4 _ rfl w2 (Below.refl _ _)
  have a5 := cx 5 _ rfl w2 (Below.refl _ _)
  have b5 := cy 5 _ rfl w2 (Below.refl _ _)
  have a6 := cx 6 _ rfl w2 (Below.refl _ _)
  have b6 := cy 6 _ rfl w2 (Below.refl _ _)
  have a7 := cx 7 _ rfl w2 (Below.refl _ _)
  have b7 := cy 7 _ rfl w2 (Below.refl _ _)
  have a8 := cx 8 _ rfl w2 (Below.refl _ _)
  have b8 := cy 8 _ rfl w2 (Below.refl _ _)
  have HCM := Lib.hid (rcompare_any x y w2)
  have HCX := Lib.hid cx
  have HCY := Lib.hid cy
  have HB := Lib.hid hb
  have HLX := Lib.hid (hx.kept hb)
  have HLY := Lib.hid (hy.kept hb)
  rw [hw2] at HCM HCX HCY HB HLX HLY a0 a1 a2 a3 a4 a5 a6 a7 a8 b0 b1 b2 b3 b4 b5 b6 b7 b8
  rw [hw1] at HCM HCX HCY HB HLX HLY a0 a1 a2 a3 a4 a5 a6 a7 a8 b0 b1 b2 b3 b4 b5 b6 b7 b8
  have HCM := Lib.hid HCM.out
  have HCX := Lib.hid HCX.out
  have HCY := Lib.hid HCY.out
  have HLX := Lib.hid HLX.out
  have HLY := Lib.hid HLY.out
  clear cx cy hb hb1 hb2 g0 g1 s1 s2 hx hy
  subst hw2
  subst hw1
  by_cases hk : x.key = y.key
  case neg =>
    have HF := Lib.hid (show sameB x y = false from sameB_no fun e => hk (by unfold RowV.says at e; simp only [Prod.mk.injEq] at e; simp [RowV.key, e]))
    have hz : (cmpRow x y == 0) = false := by rw [beq_eq_false_iff_ne]; exact fun e => hk (cmpL_zero rfl e)
    clear hk
    go_enter Try.func46, Try.ntmps46
    go_wp2_with fail
    refine HCM.out.mono ?_
    rintro e w3 ⟨rfl, hb3⟩
    clear a0 a1 a2 a3 a4 a5 a6 a7 a8 b0 b1 b2 b3 b4 b5 b6 b7 b8
    have a0 := HCX.out 0 _ rfl w3 hb3
    have b0 := HCY.out 0 _ rfl w3 hb3
    have a2 := HCX.out 2 _ rfl w3 hb3
    have b2 := HCY.out 2 _ rfl w3 hb3
    have a3 := HCX.out 3 _ rfl w3 hb3
    have b3 := HCY.out 3 _ rfl w3 hb3
    have a4 := HCX.out 4 _ rfl w3 hb3
    have b4 := HCY.out 4 _ rfl w3 hb3
    have a5 := HCX.out 5 _ rfl w3 hb3
    have b5 := HCY.out 5 _ rfl w3 hb3
    have HB3 := Lib.hid (HB.out.trans (hb3.mono HB.out.size))
    have HLX3 := Lib.hid (HLX.out.kept hb3)
    have HLY3 := Lib.hid (HLY.out.kept hb3)
    clear hb3
    go_wp2_with fail
    go_ret
    rw [HF.out]; exact ⟨rfl, HB3.out⟩
  case pos =>
    have hz : (cmpRow x y == 0) = true := by rw [beq_iff_eq]; unfold cmpRow; rw [hk]; exact cmpL_all rfl (fun _ _ => rfl)
    have HK := Lib.hid hk
    clear hk
    by_cases hkind : x.r.kind = y.r.kind
    case neg =>
      have HF := Lib.hid (show sameB x y = false from sameB_no fun e => hkind (by unfold RowV.says at e; simp only [Prod.mk.injEq] at e; simp [e]))
      have zkind : (x.r.kind == y.r.kind) = false := by rw [beq_eq_false_iff_ne]; exact hkind
      clear hkind
      go_enter Try.func46, Try.ntmps46
      go_wp2_with fail
      refine HCM.out.mono ?_
      rintro e w3 ⟨rfl, hb3⟩
      clear a0 a1 a2 a3 a4 a5 a6 a7 a8 b0 b1 b2 b3 b4 b5 b6 b7 b8
      have a0 := HCX.out 0 _ rfl w3 hb3
      have b0 := HCY.out 0 _ rfl w3 hb3
      have a2 := HCX.out 2 _ rfl w3 hb3
      have b2 := HCY.out 2 _ rfl w3 hb3
      have a3 := HCX.out 3 _ rfl w3 hb3
      have b3 := HCY.out 3 _ rfl w3 hb3
      have a4 := HCX.out 4 _ rfl w3 hb3
      have b4 := HCY.out 4 _ rfl w3 hb3
      have a5 := HCX.out 5 _ rfl w3 hb3
      have b5 := HCY.out 5 _ rfl w3 hb3
      have HB3 := Lib.hid (HB.out.trans (hb3.mono HB.out.size))
      have HLX3 := Lib.hid (HLX.out.kept hb3)
      have HLY3 := Lib.hid (HLY.out.kept hb3)
      clear hb3
      go_wp2_with fail
      go_ret
      rw [HF.out]; exact ⟨rfl, HB3.out⟩
    case pos =>
      have zkind : (x.r.kind == y.r.kind) = true := by rw [beq_iff_eq]; exact hkind
      have HKIND := Lib.hid hkind
      clear hkind
      by_cases htext : x.r.text.toList = y.r.text.toList
      case neg =>
        have HF := Lib.hid (show sameB x y = false from sameB_no fun e => htext (by unfold RowV.says at e; simp only [Prod.mk.injEq] at e; simp [e]))
        have ztext : (x.r.text.toList == y.r.text.toList) = false := by rw [beq_eq_false_iff_ne]; exact htext
        clear htext
        go_enter Try.func46, Try.ntmps46
        go_wp2_with fail
        refine HCM.out.mono ?_
        rintro e w3 ⟨rfl, hb3⟩
        clear a0 a1 a2 a3 a4 a5 a6 a7 a8 b0 b1 b2 b3 b4 b5 b6 b7 b8
        have a0 := HCX.out 0 _ rfl w3 hb3
        have b0 := HCY.out 0 _ rfl w3 hb3
        have a2 := HCX.out 2 _ rfl w3 hb3
        have b2 := HCY.out 2 _ rfl w3 hb3
        have a3 := HCX.out 3 _ rfl w3 hb3
        have b3 := HCY.out 3 _ rfl w3 hb3
        have a4 := HCX.out 4 _ rfl w3 hb3
        have b4 := HCY.out 4 _ rfl w3 hb3
        have a5 := HCX.out 5 _ rfl w3 hb3
        have b5 := HCY.out 5 _ rfl w3 hb3
        have HB3 := Lib.hid (HB.out.trans (hb3.mono HB.out.size))
        have HLX3 := Lib.hid (HLX.out.kept hb3)
        have HLY3 := Lib.hid (HLY.out.kept hb3)
        clear hb3
        go_wp2_with fail
        go_ret
        rw [HF.out]; exact ⟨rfl, HB3.out⟩
      case pos =>
        have ztext : (x.r.text.toList == y.r.text.toList) = true := by rw [beq_iff_eq]; exact htext
        have HTEXT := Lib.hid htext
        clear htext
        by_cases hvalue : x.r.value = y.r.value
        case neg =>
          have HF := Lib.hid (show sameB x y = false from sameB_no fun e => hvalue (by unfold RowV.says at e; simp only [Prod.mk.injEq] at e; simp [e]))
          have zvalue : (x.r.value == y.r.value) = false := by rw [beq_eq_false_iff_ne]; exact hvalue
          clear hvalue
          go_enter Try.func46, Try.ntmps46
          go_wp2_with fail
          refine HCM.out.mono ?_
          rintro e w3 ⟨rfl, hb3⟩
          clear a0 a1 a2 a3 a4 a5 a6 a7 a8 b0 b1 b2 b3 b4 b5 b6 b7 b8
          have a0 := HCX.out 0 _ rfl w3 hb3
          have b0 := HCY.out 0 _ rfl w3 hb3
          have a2 := HCX.out 2 _ rfl w3 hb3
          have b2 := HCY.out 2 _ rfl w3 hb3
          have a3 := HCX.out 3 _ rfl w3 hb3
          have b3 := HCY.out 3 _ rfl w3 hb3
          have a4 := HCX.out 4 _ rfl w3 hb3
          have b4 := HCY.out 4 _ rfl w3 hb3
          have a5 := HCX.out 5 _ rfl w3 hb3
          have b5 := HCY.out 5 _ rfl w3 hb3
          have HB3 := Lib.hid (HB.out.trans (hb3.mono HB.out.size))
          have HLX3 := Lib.hid (HLX.out.kept hb3)
          have HLY3 := Lib.hid (HLY.out.kept hb3)
          clear hb3
          go_wp2_with fail
          go_ret
          rw [HF.out]; exact ⟨rfl, HB3.out⟩
        case pos =>
          have zvalue : (x.r.value == y.r.value) = true := by rw [beq_iff_eq]; exact hvalue
          have HVALUE := Lib.hid hvalue
          clear hvalue
          by_cases hnull : x.r.null = y.r.null
          case neg =>
            have HF := Lib.hid (show sameB x y = false from sameB_no fun e => hnull (by unfold RowV.says at e; simp only [Prod.mk.injEq] at e; simp [e]))
            have znull : (x.r.null == y.r.null) = false := by rw [beq_eq_false_iff_ne]; exact hnull
            clear hnull
            go_enter Try.func46, Try.ntmps46
            go_wp2_with fail
            refine HCM.out.mono ?_
            rintro e w3 ⟨rfl, hb3⟩
            clear a0 a1 a2 a3 a4 a5 a6 a7 a8 b0 b1 b2 b3 b4 b5 b6 b7 b8
            have a0 := HCX.out 0 _ rfl w3 hb3
            have b0 := HCY.out 0 _ rfl w3 hb3
            have a2 := HCX.out 2 _ rfl w3 hb3
            have b2 := HCY.out 2 _ rfl w3 hb3
            have a3 := HCX.out 3 _ rfl w3 hb3
            have b3 := HCY.out 3 _ rfl w3 hb3
            have a4 := HCX.out 4 _ rfl w3 hb3
            have b4 := HCY.out 4 _ rfl w3 hb3
            have a5 := HCX.out 5 _ rfl w3 hb3
            have b5 := HCY.out 5 _ rfl w3 hb3
            have HB3 := Lib.hid (HB.out.trans (hb3.mono HB.out.size))
            have HLX3 := Lib.hid (HLX.out.kept hb3)
            have HLY3 := Lib.hid (HLY.out.kept hb3)
            clear hb3
            go_wp2_with fail
            go_ret
            rw [HF.out]; exact ⟨rfl, HB3.out⟩
          case pos =>
            have znull : (x.r.null == y.r.null) = true := by rw [beq_iff_eq]; exact hnull
            have HNULL := Lib.hid hnull
            clear hnull
            have HD := Lib.hid (show decide (x.r.labs = y.r.labs) = sameB x y from by
              refine (Bool.eq_iff_iff.2 ((decide_eq_true_iff).trans (Iff.trans ⟨fun e => ?_, fun e => by unfold RowV.says at e; simp only [Prod.mk.injEq] at e; exact e.2.2.1⟩ sameB_iff.symm)))
              have hk := HK.out
              simp only [RowV.key, List.cons.injEq] at hk
              unfold RowV.says
              rw [e, HKIND.out, HVALUE.out, HNULL.out, toList_inj HTEXT.out, hk.1, hk.2.1, hk.2.2.1, hk.2.2.2.1])
            go_enter Try.func46, Try.ntmps46
            go_wp2_with fail
            refine HCM.out.mono ?_
            rintro e w3 ⟨rfl, hb3⟩
            clear a0 a1 a2 a3 a4 a5 a6 a7 a8 b0 b1 b2 b3 b4 b5 b6 b7 b8
            have a0 := HCX.out 0 _ rfl w3 hb3
            have b0 := HCY.out 0 _ rfl w3 hb3
            have a2 := HCX.out 2 _ rfl w3 hb3
            have b2 := HCY.out 2 _ rfl w3 hb3
            have a3 := HCX.out 3 _ rfl w3 hb3
            have b3 := HCY.out 3 _ rfl w3 hb3
            have a4 := HCX.out 4 _ rfl w3 hb3
            have b4 := HCY.out 4 _ rfl w3 hb3
            have a5 := HCX.out 5 _ rfl w3 hb3
            have b5 := HCY.out 5 _ rfl w3 hb3
            have HB3 := Lib.hid (HB.out.trans (hb3.mono HB.out.size))
            have HLX3 := Lib.hid (HLX.out.kept hb3)
            have HLY3 := Lib.hid (HLY.out.kept hb3)
            clear hb3
            go_wp2_with fail
            refine (lsame_any HLX3.out HLY3.out).mono ?_
            rw [HD.out]
            rintro e w4 ⟨rfl, hb4⟩
            have HB4 := Lib.hid (HB3.out.trans (hb4.mono HB3.out.size))
            clear hb4
            go_wp2_with fail
            go_ret
            exact ⟨rfl, HB4.out⟩

/-- do the first k rows say the same? -/
def sameTo (l m : List RowV) : Nat → Bool
  | 0 => true
  | k + 1 => sameTo l m k && sameB (l.getD k row0) (m.getD k row0)
def sameRs (l m : List RowV) : Bool := decide (l.length = m.length) && sameTo l m l.length
theorem sameTo_no {l m : List RowV} {k : Nat} (h : sameB (l.getD k row0) (m.getD k row0) = false) : ∀ d, sameTo l m (k + 1 + d) = false
  | 0 => by rw [sameTo, h, Bool.and_false]
  | d + 1 => by rw [← Nat.add_assoc, sameTo, sameTo_no h d]; rfl
theorem sameTo_yes {l m : List RowV} : ∀ {n : Nat}, (∀ j, j < n → (l.getD j row0).says = (m.getD j row0).says) → sameTo l m n = true
  | 0, _ => rfl
  | n + 1, h => by rw [sameTo, sameTo_yes (fun j hj => h j (by omega)), sameB_iff.2 (h n (by omega))]; rfl

set_option maxRecDepth 100000 in
set_option maxHeartbeats 4000000 in
theorem samerows_any {w : World} {a b : Option Addr} {n c n' c' : Nat} {l m : List RowV} (h : RowsAt w a n c l) (h' : RowsAt w b n' c' m) :
    Calls Try.prog 39 #[.slice a n c, .slice b n' c'] w fun e w' => e = .returned (.bool (sameRs l m)) ∧ Below w.heap.size w w' := by
  have hcap := h.cap
  have hcm := h.capm
  have hcap' := h'.cap
  have hcm' := h'.capm
  have HH := Lib.hid h
  have HH' := Lib.hid h'
  have HL := Lib.hid h.len
  have HL' := Lib.hid h'.len
  clear h h'
  by_cases hn : n = n'
  · subst hn
    have z0 : ((n : Int) != (n : Int)) = false := by simp
    have HR := Lib.hid (show sameRs l m = sameTo l m n by unfold sameRs; rw [decide_eq_true (by rw [HL.out, HL'.out]), HL.out]; rfl)
    go_enter Try.func39, Try.ntmps39
    go_wp2_with fail
    go_loopw [13] (fun s13 wr => ∃ k : Nat, k ≤ n ∧ s13 = .int .i64 (k : Int) ∧ Hid (sameTo l m k = true) ∧ Hid (Below w.heap.size w wr)) (fun s13 _ => n - (intOf s13).toNat)
    case atStart => exact ⟨0, by omega, rfl, Lib.hid rfl, Lib.hid (Below.refl _ _)⟩
    case round =>
      obtain ⟨k, hk, rfl, HU, HB⟩ := hrel
      rename World => wr
      by_cases hkn : k < n
      · have hp1 := HH.out.kept HB.out
        have hp2 := HH'.out.kept HB.out
        obtain ⟨b1, off, rfl, hlt, hcell⟩ := hp1.cells (by omega)
        obtain ⟨b2, off2, rfl, hlt2, hcell2⟩ := hp2.cells (by omega)
        obtain ⟨x, hx⟩ : ∃ x, x = l.getD k row0 := ⟨_, rfl⟩
        obtain ⟨y, hy⟩ : ∃ y, y = m.getD k row0 := ⟨_, rfl⟩
        obtain ⟨c0, c1, c2, c3, c4, c5, c6, c7, c8⟩ := RowsAt.nine hcell hkn hx
        obtain ⟨d0, d1, d2, d3, d4, d5, d6, d7, d8⟩ := RowsAt.nine hcell2 hkn hy
        have hl1 := hp1.labs _ (row_mem (l := l) (i := k) (by have := HL.out; omega))
        have hl2 := hp2.labs _ (row_mem (l := m) (i := k) (by have := HL'.out; omega))
        rw [← hx] at hl1
        rw [← hy] at hl2
        have HL1 := Lib.hid hl1
        have HL2 := Lib.hid hl2
        have HX := Lib.hid hx
        have HY := Lib.hid hy
        have hkni : (k : Int) < (n : Int) := by omega
        have hk0 : (0 : Int) ≤ (k : Int) := by omega
        have HSM := Lib.hid (rsame_any x y (hl1.kept (Below.refl _ _).drew) (hl2.kept (Below.refl _ _).drew))
        clear hx hy hcell hcell2 hl1 hl2 hp1 hp2
        cases hs : sameB x y with
        | true =>
          rw [hs] at HSM
          have HU2 := Lib.hid (show sameTo l m (k + 1) = true by rw [sameTo, HU.out, ← HX.out, ← HY.out, hs]; rfl)
          clear hs
          go_wp2_with fail
          go_region_held3 (fun w' => w'.cell? ⟨b1, off + k * 9, none⟩ = some (.int .i64 x.r.kind) ∧ w'.cell? ⟨b1, off + k * 9 + 1, none⟩ = some (.int .i64 x.r.time) ∧ w'.cell? ⟨b1, off + k * 9 + 2, none⟩ = some (.slice x.r.la x.r.ln x.r.lc) ∧ w'.cell? ⟨b1, off + k * 9 + 3, none⟩ = some (.string x.r.text) ∧ w'.cell? ⟨b1, off + k * 9 + 4, none⟩ = some (.int .i64 x.r.value) ∧ w'.cell? ⟨b1, off + k * 9 + 5, none⟩ = some (.bool x.r.null) ∧ w'.cell? ⟨b1, off + k * 9 + 6, none⟩ = some (.int .i64 x.who) ∧ w'.cell? ⟨b1, off + k * 9 + 7, none⟩ = some (.int .i64 x.sq) ∧ w'.cell? ⟨b1, off + k * 9 + 8, none⟩ = some (.int .i64 x.pl) ∧ w'.cell? ⟨b2, off2 + k * 9, none⟩ = some (.int .i64 y.r.kind) ∧ w'.cell? ⟨b2, off2 + k * 9 + 1, none⟩ = some (.int .i64 y.r.time) ∧ w'.cell? ⟨b2, off2 + k * 9 + 2, none⟩ = some (.slice y.r.la y.r.ln y.r.lc) ∧ w'.cell? ⟨b2, off2 + k * 9 + 3, none⟩ = some (.string y.r.text) ∧ w'.cell? ⟨b2, off2 + k * 9 + 4, none⟩ = some (.int .i64 y.r.value) ∧ w'.cell? ⟨b2, off2 + k * 9 + 5, none⟩ = some (.bool y.r.null) ∧ w'.cell? ⟨b2, off2 + k * 9 + 6, none⟩ = some (.int .i64 y.who) ∧ w'.cell? ⟨b2, off2 + k * 9 + 7, none⟩ = some (.int .i64 y.sq) ∧ w'.cell? ⟨b2, off2 + k * 9 + 8, none⟩ = some (.int .i64 y.pl)) (first | exact ⟨(hbq.cell (p := ⟨b1, off + k * 9, none⟩) hlt).trans c0, (hbq.cell (p := ⟨b1, off + k * 9 + 1, none⟩) hlt).trans c1, (hbq.cell (p := ⟨b1, off + k * 9 + 2, none⟩) hlt).trans c2, (hbq.cell (p := ⟨b1, off + k * 9 + 3, none⟩) hlt).trans c3, (hbq.cell (p := ⟨b1, off + k * 9 + 4, none⟩) hlt).trans c4, (hbq.cell (p := ⟨b1, off + k * 9 + 5, none⟩) hlt).trans c5, (hbq.cell (p := ⟨b1, off + k * 9 + 6, none⟩) hlt).trans c6, (hbq.cell (p := ⟨b1, off + k * 9 + 7, none⟩) hlt).trans c7, (hbq.cell (p := ⟨b1, off + k * 9 + 8, none⟩) hlt).trans c8, (hbq.cell (p := ⟨b2, off2 + k * 9, none⟩) hlt2).trans d0, (hbq.cell (p := ⟨b2, off2 + k * 9 + 1, none⟩) hlt2).trans d1, (hbq.cell (p := ⟨b2, off2 + k * 9 + 2, none⟩) hlt2).trans d2, (hbq.cell (p := ⟨b2, off2 + k * 9 + 3, none⟩) hlt2).trans d3, (hbq.cell (p := ⟨b2, off2 + k * 9 + 4, none⟩) hlt2).trans d4, (hbq.cell (p := ⟨b2, off2 + k * 9 + 5, none⟩) hlt2).trans d5, (hbq.cell (p := ⟨b2, off2 + k * 9 + 6, none⟩) hlt2).trans d6, (hbq.cell (p := ⟨b2, off2 + k * 9 + 7, none⟩) hlt2).trans d7, (hbq.cell (p := ⟨b2, off2 + k * 9 + 8, none⟩) hlt2).trans d8⟩ | go_keep) (first | (go_at_call 46; refine HSM.out.mono ?_; rintro r w3 ⟨rfl, hbq⟩))
          have HB3 := Lib.hid (HB.out.drew.trans (hbq.mono HB.out.size))
          clear hbq
          go_wp2_with fail
          go_roundw
          case rel => exact ⟨k + 1, by omega, by go_num, HU2, HB3⟩
          case measure => simp [intOf]; omega
        | false =>
          rw [hs] at HSM
          have HF := Lib.hid (show sameRs l m = false by
            rw [HR.out]
            have := sameTo_no (l := l) (m := m) (k := k) (by rw [← HX.out, ← HY.out]; exact hs) (n - (k + 1))
            rw [show k + 1 + (n - (k + 1)) = n from by omega] at this
            exact this)
          clear hs
          go_wp2_with fail
          go_region_held3 (fun w' => w'.cell? ⟨b1, off + k * 9, none⟩ = some (.int .i64 x.r.kind) ∧ w'.cell? ⟨b1, off + k * 9 + 1, none⟩ = some (.int .i64 x.r.time) ∧ w'.cell? ⟨b1, off + k * 9 + 2, none⟩ = some (.slice x.r.la x.r.ln x.r.lc) ∧ w'.cell? ⟨b1, off + k * 9 + 3, none⟩ = some (.string x.r.text) ∧ w'.cell? ⟨b1, off + k * 9 + 4, none⟩ = some (.int .i64 x.r.value) ∧ w'.cell? ⟨b1, off + k * 9 + 5, none⟩ = some (.bool x.r.null) ∧ w'.cell? ⟨b1, off + k * 9 + 6, none⟩ = some (.int .i64 x.who) ∧ w'.cell? ⟨b1, off + k * 9 + 7, none⟩ = some (.int .i64 x.sq) ∧ w'.cell? ⟨b1, off + k * 9 + 8, none⟩ = some (.int .i64 x.pl) ∧ w'.cell? ⟨b2, off2 + k * 9, none⟩ = some (.int .i64 y.r.kind) ∧ w'.cell? ⟨b2, off2 + k * 9 + 1, none⟩ = some (.int .i64 y.r.time) ∧ w'.cell? ⟨b2, off2 + k * 9 + 2, none⟩ = some (.slice y.r.la y.r.ln y.r.lc) ∧ w'.cell? ⟨b2, off2 + k * 9 + 3, none⟩ = some (.string y.r.text) ∧ w'.cell? ⟨b2, off2 + k * 9 + 4, none⟩ = some (.int .i64 y.r.value) ∧ w'.cell? ⟨b2, off2 + k * 9 + 5, none⟩ = some (.bool y.r.null) ∧ w'.cell? ⟨b2, off2 + k * 9 + 6, none⟩ = some (.int .i64 y.who) ∧ w'.cell? ⟨b2, off2 + k * 9 + 7, none⟩ = some (.int .i64 y.sq) ∧ w'.cell? ⟨b2, off2 + k * 9 + 8, none⟩ = some (.int .i64 y.pl)) (first | exact ⟨(hbq.cell (p := ⟨b1, off + k * 9, none⟩) hlt).trans c0, (hbq.cell (p := ⟨b1, off + k * 9 + 1, none⟩) hlt).trans c1, (hbq.cell (p := ⟨b1, off + k * 9 + 2, none⟩) hlt).trans c2, (hbq.cell (p := ⟨b1, off + k * 9 + 3, none⟩) hlt).trans c3, (hbq.cell (p := ⟨b1, off + k * 9 + 4, none⟩) hlt).trans c4, (hbq.cell (p := ⟨b1, off + k * 9 + 5, none⟩) hlt).trans c5, (hbq.cell (p := ⟨b1, off + k * 9 + 6, none⟩) hlt).trans c6, (hbq.cell (p := ⟨b1, off + k * 9 + 7, none⟩) hlt).trans c7, (hbq.cell (p := ⟨b1, off + k * 9 + 8, none⟩) hlt).trans c8, (hbq.cell (p := ⟨b2, off2 + k * 9, none⟩) hlt2).trans d0, (hbq.cell (p := ⟨b2, off2 + k * 9 + 1, none⟩) hlt2).trans d1, (hbq.cell (p := ⟨b2, off2 + k * 9 + 2, none⟩) hlt2).trans d2, (hbq.cell (p := ⟨b2, off2 + k * 9 + 3, none⟩) hlt2).trans d3, (hbq.cell (p := ⟨b2, off2 + k * 9 + 4, none⟩) hlt2).trans d4, (hbq.cell (p := ⟨b2, off2 + k * 9 + 5, none⟩) hlt2).trans d5, (hbq.cell (p := ⟨b2, off2 + k * 9 + 6, none⟩) hlt2).trans d6, (hbq.cell (p := ⟨b2, off2 + k * 9 + 7, none⟩) hlt2).trans d7, (hbq.cell (p := ⟨b2, off2 + k * 9 + 8, none⟩) hlt2).trans d8⟩ | go_keep) (first | (go_at_call 46; refine HSM.out.mono ?_; rintro r w3 ⟨rfl, hbq⟩))
          have HB3 := Lib.hid (HB.out.drew.trans (hbq.mono HB.out.size))
          clear hbq
          go_wp2_with fail
          go_ret
          rw [HF.out]; exact ⟨rfl, HB3.out⟩
      · obtain rfl : k = n := by omega
        have HT := Lib.hid (show sameRs l m = true by rw [HR.out]; exact HU.out)
        clear hkn
        go_wp2_with fail
        go_ret
        rw [HT.out]; exact ⟨rfl, HB.out⟩
  · have z0 : ((n : Int) != (n' : Int)) = true := by rw [bne_iff_ne]; omega
    have HF := Lib.hid (show sameRs l m = false by unfold sameRs; rw [decide_eq_false (by rw [HL.out, HL'.out]; exact hn)]; rfl)
    clear hn
    go_enter Try.func39, Try.ntmps39
    go_wp2_with fail
    go_ret
    rw [HF.out]; exact ⟨rfl, Below.refl _ _⟩
end Go.Proofs.Ytjbljplgkbnpmaa
