/- The form Fixed, walked. -/
import Derived.Test.YteggmbfhfoijoaaDoorSqLen
namespace Go.Proofs.YteggmbfhfoijoaaDoor
open Go.RowKit BitsPlain
set_option linter.unusedVariables false

theorem wr_new (w : World) (base : Nat) (hb : base ≤ w.heap.size + 1) : WrAt (w.alloc (.cells #[.slice none 0 0, .int .i64 0] 65)) w.heap.size base (.slice none 0 0) [] :=
  ⟨heap_alloc_new _ _, World.ownsRow_nil _ _ _ _, fun x hx => by cases hx⟩
theorem WrAt.grow {w w' : World} {B base : Nat} {v : Value} {l : List Nat} (h : WrAt w B base v l) (hb : Below w.heap.size w w') : WrAt w' B base v l :=
  ⟨(hb.block B h.lt).trans h.blk, own_below h.own hb, h.bin⟩
theorem WrAt.drewN {w : World} {B base : Nat} {v : Value} {l : List Nat} (h : WrAt w B base v l) (q : Nat) : WrAt (w.drewN q) B base v l := ⟨h.blk, h.own, h.bin⟩

theorem lcode_ge (s : Nat) : 7 ≤ (lcode s).length := by
  unfold lcode
  rw [codeOf_length]
  unfold lw
  split <;> (try split) <;> (try split) <;> simp

/-- a writer under way: its row lies in new memory; a block T beside it -/
structure Wk (w0 w : World) (B base : Nat) (v : Value) (l : List Nat) (T : Nat) (o : Obj) : Prop where
  wr : WrAt w B base v l
  n0 : w0.heap.size ≤ B
  n1 : w0.heap.size ≤ base
  sz : base ≤ w.heap.size
  bel : Below w0.heap.size w0 w
  tb : w.heap[T]? = some o
  tB : T ≠ B
  tv : some T ≠ v.ownBlock
theorem Wk.lt {w0 w : World} {B base : Nat} {v : Value} {l : List Nat} {T : Nat} {o : Obj} (h : Wk w0 w B base v l T o) : T < w.heap.size := (Array.getElem?_eq_some_iff.1 h.tb).1
theorem Wk.step {w0 w w' : World} {B base : Nat} {v v' : Value} {l l' : List Nat} {T : Nat} {o : Obj} (h : Wk w0 w B base v l T o) (h1 : WrAt w' B base v' l') (h2 : Touch w w' B v) (h3 : Went w v v') : Wk w0 w' B base v' l' T o :=
  ⟨h1, h.n0, h.n1, Nat.le_trans h.sz h2.size, Touch.below h.bel h2 h.n0 (fun k hk => Nat.le_trans h.n1 (own_block h.wr.own k hk)), (h2.block T h.lt h.tB h.tv).trans h.tb, h.tB, by
    rcases h3 with e | ⟨g, e, hg⟩
    · rw [e]; exact h.tv
    · rw [e]; intro e2; have := Option.some.inj e2; have := h.lt; omega⟩
theorem Wk.drewN {w0 w : World} {B base : Nat} {v : Value} {l : List Nat} {T : Nat} {o : Obj} (h : Wk w0 w B base v l T o) (q : Nat) : Wk w0 (w.drewN q) B base v l T o := ⟨h.wr.drewN q, h.n0, h.n1, h.sz, bdrewN h.bel q, h.tb, h.tB, h.tv⟩
/-- a new block beside it -/
theorem Wk.beside {w0 w : World} {B base : Nat} {v : Value} {l : List Nat} (h1 : WrAt w B base v l) (hn0 : w0.heap.size ≤ B) (hn1 : w0.heap.size ≤ base) (hs : base ≤ w.heap.size) (hb : Below w0.heap.size w0 w) (cs : Array Value) (ty : TypeId) : Wk w0 (w.alloc (.cells cs ty)) B base v l w.heap.size (.cells cs ty (0, 0)) :=
  ⟨h1.grow ((Below.refl _ _).alloc (Nat.le_refl _) _), hn0, hn1, Nat.le_trans hs ((Below.refl w.heap.size w).alloc (Nat.le_refl _) _).size, hb.alloc hb.size _, heap_alloc_new _ _, fun e => by have := h1.lt; omega, fun e => by have := own_lt h1.own w.heap.size e.symm; omega⟩

set_option maxRecDepth 100000 in
set_option maxHeartbeats 4000000 in
theorem fixed_any {w : World} {a : Option Addr} {n c : Nat} {l : List (Nat × Nat × Nat)} (h : TksAt w a n c l) (hok : ∀ t ∈ l, TokOk t) (hlen : (fxB l).length ≤ 9999990) (hn : n ≤ 100000) :
    Calls Tryd.prog 44 #[.slice a n c] w fun e w' => ∃ a' c', e = .returned (.slice a' (pack (fxB l)).length c') ∧ BytesAt w' a' (pack (fxB l)).length c' (pack (fxB l)) ∧ Below w.heap.size w w' := by
  have hnew := wr_new w w.heap.size (by omega)
  obtain ⟨w1, hw1⟩ : ∃ w1, w1 = w.alloc (.cells #[.slice none 0 0, .int .i64 0] 65) := ⟨_, rfl⟩
  have b1 : Below w.heap.size w w1 := by rw [hw1]; exact (Below.refl _ _).alloc (Nat.le_refl _) _
  rw [← hw1] at hnew
  have h1s := wbits_any hnew b1.size 1 (by omega) 1 (by omega) (by simp)
  have H1 := Lib.hid h1s
  have HH := Lib.hid h
  have HOK := Lib.hid hok
  have HLN := Lib.hid hlen
  have hll := h.len
  have hcap := h.cap
  have hcm := h.capm
  have HW1 := Lib.hid hw1
  have HB1 := Lib.hid b1
  have HNW := Lib.hid hnew
  clear h hok hlen h1s b1 hnew
  go_enter Tryd.func44, Tryd.ntmps44
  go_wp2_with fail
  rw [← HW1.out]
  refine H1.out.mono ?_
  rintro e w2 ⟨rfl, v2, h2, t2, g2⟩
  have s2 : w.heap.size ≤ w2.heap.size := Nat.le_trans HB1.out.size t2.size
  have b2 : Below w.heap.size w w2 := Touch.below HB1.out t2 (Nat.le_refl _) (fun k hk => by cases hk)
  have HB2 := Lib.hid b2
  have H2 := Lib.hid (wbits_any h2 s2 1 (by omega) 2 (by omega) (by simp [bitsOf_length]))
  have O2 := Lib.hid h2.own
  clear h2 t2 g2 b2
  go_wp2_with fail
  refine H2.out.mono ?_
  rintro e w3 ⟨rfl, v3, h3, t3, g3⟩
  have s3 := t3.size
  have HB3 := Lib.hid (show Below w.heap.size w w3 from Touch.below HB2.out t3 (Nat.le_refl _) (own_block O2.out))
  have H3 := Lib.hid (show WrAt w3 w.heap.size w.heap.size v3 (fixTo l 0) from by simpa [fixTo] using h3)
  clear h3 t3 g3
  go_wp2_with fail
  go_loopw [14] (fun s14 wr => ∃ (i : Nat) (v : Value), i ≤ n ∧ s14 = .int .i64 i ∧ Hid (WrAt wr w.heap.size w.heap.size v (fixTo l i)) ∧ Hid (Below w.heap.size w wr)) (fun s14 _ => n - (intOf s14).toNat)
  case atStart => exact ⟨0, v3, by omega, rfl, H3, HB3⟩
  case round =>
    obtain ⟨i, v, hi, rfl, HW, HB⟩ := hrel
    rename World => wr
    have HSZ := Lib.hid HB.out.size
    by_cases hin : i < n
    · obtain ⟨g, off, ha, hg, hc⟩ := (HH.out.kept HB.out).cells (by omega)
      subst ha
      obtain ⟨⟨t1, t2, t3⟩, ht⟩ : ∃ t, t = l.getD i t0 := ⟨_, rfl⟩
      have hto := HOK.out _ (tok_mem (l := l) (i := i) (by omega))
      have x := hc i hin
      have hst := fixTo_step (l := l) (i := i) (by omega)
      have hle := fixTo_le l (i + 1)
      have hln := HLN.out
      unfold fxB at hln
      rw [hst, ← ht] at hle
      rw [← ht] at x hto hst
      obtain ⟨x0, x1, x2⟩ := x
      simp only at x0 x1 x2
      clear hc ht
      have h256 := lcode_ge 256
      simp only [List.length_append] at hle hln
      obtain ⟨wa, hwa⟩ : ∃ wa, wa = wr.alloc (.cells #[.int .i64 (t1 : Int), .int .i64 (t2 : Int), .int .u8 (t3 : Int)] 108) := ⟨_, rfl⟩
      obtain ⟨T, hT⟩ : ∃ T, T = wr.heap.size := ⟨_, rfl⟩
      have hk : Wk w wa w.heap.size w.heap.size v (fixTo l i) T (.cells #[.int .i64 (t1 : Int), .int .i64 (t2 : Int), .int .u8 (t3 : Int)] 108 (0, 0)) := by
        rw [hwa, hT]; exact Wk.beside HW.out (Nat.le_refl _) (Nat.le_refl _) HSZ.out HB.out _ _
      have m0 := cell_of hk.tb (i := 0) (u := .int .i64 (t1 : Int)) rfl
      have m2 := cell_of hk.tb (i := 2) (u := .int .u8 (t3 : Int)) rfl
      have HT := Lib.hid hT
      have HWA := Lib.hid hwa
      have hii : (i : Int) < (l.length : Int) := by omega
      by_cases h0 : t1 = 0
      · have ht3 : t3 < 256 := by rcases hto with ⟨_, _, h⟩ | ⟨h, _⟩ <;> simp only at h <;> omega
        have htb : tbits (t1, t2, t3) = lcode t3 := by unfold tbits; rw [if_pos h0]
        rw [htb] at hle hst
        have hl3 := lcode_ge t3
        have HL := Lib.hid (letter_any hk.wr hk.sz (s := t3) (by omega) (by omega))
        have HK := Lib.hid hk
        have HST := Lib.hid hst
        have hz : ((t1 : Int) == 0) = true := by simp [h0]
        clear hk hto htb hle hst hln h256 hl3 hT hwa h0
        go_wp2_with fail
        rw [← HWA.out]
        try rw [← HT.out]
        go_wp2_with fail
        refine HL.out.mono ?_
        rintro e w4 ⟨rfl, v4, h4, t4, g4⟩
        have HK4 := Lib.hid (HK.out.step h4 t4 g4)
        clear h4 t4 g4
        go_wp2_with fail
        go_roundw
        case rel => exact ⟨i + 1, v4, by omega, by go_num, Lib.hid (by rw [HST.out]; exact HK4.out.wr), Lib.hid HK4.out.bel⟩
        case measure => simp [intOf]; omega
      · have hq : 3 ≤ t1 ∧ t1 ≤ 258 ∧ 1 ≤ t2 ∧ t2 ≤ 32768 := by rcases hto with ⟨h, _⟩ | ⟨h1, h2, h3, h4, _⟩ <;> simp only at * <;> omega
        have htb : tbits (t1, t2, t3) = lcode (257 + (lenS t1).1) ++ bitsOf (lenS t1).2.1 (lenS t1).2.2 ++ codeOf (distS t2).1 5 5 ++ bitsOf (distS t2).2.1 (distS t2).2.2 := by unfold tbits; rw [if_neg h0]
        have hz : ((t1 : Int) == 0) = false := by rw [beq_eq_false_iff_ne]; omega
        have q1 := lenS_ok hq.1 hq.2.1
        have q2 := distS_ok hq.2.2.1 hq.2.2.2
        have HLA := Lib.hid (slength_any (w := wa) hq.1 hq.2.1)
        have HDA := Lib.hid (fun u : World => sdistance_any (w := u) hq.2.2.1 hq.2.2.2)
        obtain ⟨⟨la, lb, lc⟩, hS⟩ : ∃ s, s = lenS t1 := ⟨_, rfl⟩
        obtain ⟨⟨da, db, dc⟩, hD⟩ : ∃ s, s = distS t2 := ⟨_, rfl⟩
        rw [← hS] at q1 htb HLA
        rw [← hD] at q2 htb HDA
        simp only at q1 q2 htb HLA HDA
        obtain ⟨q11, q12, q13⟩ := q1
        obtain ⟨q21, q22, q23⟩ := q2
        rw [htb] at hle hst
        have hl3 := lcode_ge (257 + la)
        simp only [List.length_append, bitsOf_length, codeOf_length] at hle
        have HB0 := Lib.hid (show ∀ (wx : World) (vx : Value), Wk w wx w.heap.size w.heap.size vx (fixTo l i) T (.cells #[.int .i64 (t1 : Int), .int .i64 (t2 : Int), .int .u8 (t3 : Int)] 108 (0, 0)) → _ from fun wx vx hx => letter_any hx.wr hx.sz (s := 257 + la) (by omega) (by omega))
        have HB1 := Lib.hid (show ∀ (wx : World) (vx : Value), Wk w wx w.heap.size w.heap.size vx (fixTo l i ++ lcode (257 + la)) T (.cells #[.int .i64 (t1 : Int), .int .i64 (t2 : Int), .int .u8 (t3 : Int)] 108 (0, 0)) → _ from fun wx vx hx => wbits_any hx.wr hx.sz lb (by omega) lc (by omega) (by simp only [List.length_append]; omega))
        have HB2 := Lib.hid (show ∀ (wx : World) (vx : Value), Wk w wx w.heap.size w.heap.size vx (fixTo l i ++ lcode (257 + la) ++ bitsOf lb lc) T (.cells #[.int .i64 (t1 : Int), .int .i64 (t2 : Int), .int .u8 (t3 : Int)] 108 (0, 0)) → _ from fun wx vx hx => wcode_any hx.wr hx.sz da (by omega) 5 (by omega) (by simp only [List.length_append, bitsOf_length]; omega))
        have HB3 := Lib.hid (show ∀ (wx : World) (vx : Value), Wk w wx w.heap.size w.heap.size vx (fixTo l i ++ lcode (257 + la) ++ bitsOf lb lc ++ codeOf da 5 5) T (.cells #[.int .i64 (t1 : Int), .int .i64 (t2 : Int), .int .u8 (t3 : Int)] 108 (0, 0)) → _ from fun wx vx hx => wbits_any hx.wr hx.sz db (by omega) dc (by omega) (by simp only [List.length_append, bitsOf_length, codeOf_length]; omega))
        have HK := Lib.hid hk
        have HST := Lib.hid hst
        have HE := Lib.hid (show (257 : Int) + (la : Int) = ((257 + la : Nat) : Int) by omega)
        clear hk hto htb hle hst hln h256 hl3 hT hwa h0 hS hD hq
        go_wp2_with fail
        rw [← HWA.out]
        refine HLA.out.mono ?_
        rintro e w4 ⟨rfl, q4, hw4⟩
        have HK4 := Lib.hid (HK.out.drewN q4)
        rw [← hw4] at HK4
        clear hw4
        go_wp2_with fail
        rw [HE.out]
        refine (HB0.out w4 v HK4.out).mono ?_
        rintro e w5 ⟨rfl, v5, h5, t5, g5⟩
        have HK5 := Lib.hid (HK4.out.step h5 t5 g5)
        clear h5 t5 g5
        go_wp2_with fail
        refine (HB1.out w5 v5 HK5.out).mono ?_
        rintro e w6 ⟨rfl, v6, h6, t6, g6⟩
        have HK6 := Lib.hid (HK5.out.step h6 t6 g6)
        clear h6 t6 g6
        have n1 : w6.cell? ⟨T, 1, none⟩ = _ := cell_of HK6.out.tb (i := 1) (u := .int .i64 (t2 : Int)) rfl
        rw [HT.out] at n1
        go_wp2_with fail
        refine (HDA.out w6).mono ?_
        rintro e w7 ⟨rfl, q7, hw7⟩
        have HK7 := Lib.hid (HK6.out.drewN q7)
        rw [← hw7] at HK7
        clear hw7 n1
        go_wp2_with fail
        refine (HB2.out w7 v6 HK7.out).mono ?_
        rintro e w8 ⟨rfl, v8, h8, t8, g8⟩
        have HK8 := Lib.hid (HK7.out.step h8 t8 g8)
        clear h8 t8 g8
        go_wp2_with fail
        refine (HB3.out w8 v8 HK8.out).mono ?_
        rintro e w9 ⟨rfl, v9, h9, t9, g9⟩
        have HK9 := Lib.hid (HK8.out.step h9 t9 g9)
        clear h9 t9 g9
        go_wp2_with fail
        go_roundw
        case rel => exact ⟨i + 1, v9, by omega, by go_num, Lib.hid (by rw [HST.out]; simpa only [List.append_assoc] using HK9.out.wr), Lib.hid HK9.out.bel⟩
        case measure => simp [intOf]; omega
    · obtain rfl : i = n := by omega
      have hln := HLN.out
      have hfe : fxB l = fixTo l i ++ lcode 256 := by unfold fxB; rw [hll]
      rw [hfe, List.length_append] at hln
      have h256 := lcode_ge 256
      have HL := Lib.hid (letter_any HW.out HSZ.out (s := 256) (by omega) (by omega))
      have HFE := Lib.hid hfe
      have HLN2 := Lib.hid hln
      have O4 := Lib.hid HW.out.own
      clear hfe hln h256
      go_wp2_with fail
      refine HL.out.mono ?_
      rintro e w4 ⟨rfl, v4, h4, t4, g4⟩
      have hb4 := Touch.below HB.out t4 (Nat.le_refl _) (own_block O4.out)
      have HBY := Lib.hid (wbytes_any h4 (by rw [List.length_append]; exact Nat.le_trans HLN2.out (by omega)))
      have HB4 := Lib.hid hb4
      clear h4 t4 g4 hb4
      go_wp2_with fail
      refine HBY.out.mono ?_
      rintro e w5 ⟨a', c', rfl, h5, hb5, hf5⟩
      have H5 := Lib.hid h5
      have HB5 := Lib.hid hb5
      clear h5 hb5 hf5
      go_wp2_with fail
      go_ret
      rw [HFE.out]
      exact ⟨a', c', rfl, H5.out, HB4.out.trans (HB5.out.mono HB4.out.size)⟩
end Go.Proofs.YteggmbfhfoijoaaDoor
