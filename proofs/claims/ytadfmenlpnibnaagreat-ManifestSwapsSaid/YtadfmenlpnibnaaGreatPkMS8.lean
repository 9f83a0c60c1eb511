/- Texts put together by packtpl2.py: ApB, MfLo, MfMk, ApO, ApPl. -/
import Derived.Test.YtadfmenlpnibnaaGreatPkMS2
import Derived.Test.YtadfmenlpnibnaaGreatPkMS6
import Derived.Test.YtadfmenlpnibnaaGreatPkMS7
section PkMS8_0
/- slices.BinarySearchFunc, slices.Clone, manifest.put, of marks and of owners. Written by genapb.py. -/
namespace Go.Proofs.YtadfmenlpnibnaaGreat
open Go.RowKit LabPlain
set_option linter.unusedVariables false
set_option linter.unusedSimpArgs false


def fndBM (l : List (Int × Int)) (n k : Nat) (z : Int) : Bool := decide (k < n) && decide ((l.getD k MarkS.z).1 = z)
set_option maxRecDepth 100000 in
set_option maxHeartbeats 4000000 in
theorem bsf_anyM {w : World} {a : Option Addr} {n c : Nat} {l : List (Int × Int)} (h : VecAt MarkS w a n c l) (hn : n ≤ 1000) (x : (Int × Int)) {k : Nat} (hk : k ≤ n) (h1 : ∀ t, t < k → (l.getD t MarkS.z).1 < x.1) (h2 : ∀ t, k ≤ t → t < n → x.1 ≤ (l.getD t MarkS.z).1) :
    Calls Tryz.prog 60 #[.slice a n c, .agg #[.int .i64 x.1, .int .i64 x.2], .func (.func 31) #[] #[]] w fun e w' => e = .returned (.tuple #[.int .i64 (k : Int), .bool (fndBM l n k x.1)]) ∧ Below w.heap.size w w' := by
  obtain ⟨w1, hw1⟩ : ∃ w1, w1 = w.alloc (.cells #[.int .i64 x.1, .int .i64 x.2] 44) := ⟨_, rfl⟩
  obtain ⟨bx, hbx⟩ : ∃ bx, bx = w.heap.size := ⟨_, rfl⟩
  have hb1 : Below w.heap.size w w1 := by rw [hw1]; exact (Below.refl _ _).alloc (Nat.le_refl _) _
  have HBX := Lib.hid (show w1.heap[bx]? = some (.cells #[.int .i64 x.1, .int .i64 x.2] 44 (0, 0)) from by rw [hw1, hbx]; exact heap_alloc_new w _)
  have HBXL0 := Lib.hid (Array.getElem?_eq_some_iff.1 HBX.out).1
  have HH := Lib.hid (h.kept hb1)
  have HBN0 := Lib.hid hb1
  have H1 := Lib.hid h1
  have H2 := Lib.hid h2
  have HW1 := Lib.hid hw1
  have HBE := Lib.hid hbx
  clear h h1 h2 hb1 hw1 hbx
  go_enter Tryz.func60, Tryz.ntmps60
  go_upto_region 1 with fail
  rw [← HW1.out, ← HBE.out]
  go_wp2_with fail
  go_loopw [9, 10] (fun s9 s10 wr => ∃ lo hi : Nat, s9 = .int .i64 (lo : Int) ∧ s10 = .int .i64 (hi : Int) ∧ lo ≤ k ∧ k ≤ hi ∧ hi ≤ n ∧ Hid (Below w1.heap.size w1 wr)) (fun s9 s10 _ => (intOf s10).toNat - (intOf s9).toNat)
  case atStart => exact ⟨0, n, rfl, rfl, by omega, hk, Nat.le_refl _, Lib.hid (Below.refl _ _)⟩
  case round =>
    obtain ⟨lo, hi, rfl, rfl, hlk, hkh, hin, HB⟩ := hrel
    rename World => wr
    by_cases hlh : lo < hi
    · obtain ⟨md, hmd⟩ : ∃ md, md = (lo + hi) / 2 := ⟨_, rfl⟩
      have hm1 : lo ≤ md := by omega
      have hm2 : md < hi := by omega
      have hmn : md < n := by omega
      have hli : (lo : Int) < (hi : Int) := by omega
      have hmi : ((lo : Int) + (hi : Int)) / 2 = (md : Int) := by omega
      have hmni : (md : Int) < (n : Int) := by omega
      clear hmd
      obtain ⟨gb, off, rfl, hgl, _, hgc⟩ := (HH.out.kept HB.out).get hmn
      obtain ⟨y, hy⟩ : ∃ y, y = l.getD md MarkS.z := ⟨_, rfl⟩
      rw [← hy] at hgc
      have HY := Lib.hid hy
      have HGL := Lib.hid hgl
      have HBXR := Lib.hid ((HB.out.block bx HBXL0.out).trans HBX.out)
      have HBXL := Lib.hid (Nat.lt_of_lt_of_le HBXL0.out HB.out.size)
      clear hy hgl
      obtain ⟨y0, y1⟩ := y
      have HYC := Lib.hid hgc
      clear hgc
      obtain ⟨cc, hcc⟩ : ∃ cc, cc = cmp3 y0 x.1 := ⟨_, rfl⟩
      have HCC := Lib.hid hcc.symm
      clear hcc
      obtain ⟨bz, hbz⟩ : ∃ bz, bz = decide (cc < 0) := ⟨_, rfl⟩
      have HBZ := Lib.hid hbz.symm
      have hbz2 : decide (cc < 0) = bz := hbz.symm
      clear hbz
      go_upto_region 5 with fail
      refine wp_region_chain2 (by kernel_rfl) (by kernel_rfl) (by kernel_rfl) [6] true (by kernel_rfl) (fun k _ y => match k with
          | 0 => Below wr.heap.size wr y
          | _ => Below wr.heap.size wr y) (fun y => Below wr.heap.size wr y) (fun j_9 => match j_9 with | 0 => some (.func (.func 31) #[] #[]) | 1 => some (.slice (some ⟨gb, off, none⟩) n c) | 2 => some (.int .i64 (md : Int)) | 3 => some (.pointer (some ⟨gb, off + md * 2, none⟩)) | 4 => some (.agg #[.int .i64 y0, .int .i64 y1]) | 5 => some (.agg #[.int .i64 x.1, .int .i64 x.2]) | 6 => some (.int .i64 cc) | 7 => some (.bool bz) | _ => none) (by rfl) (fun _ => (Below.refl _ _).drew) (fun k u y hk9 hk hs => by
          match k, hk, hs with
          | 0, _, hs => exact hs
          | 1, _, hs => exact hs) ?_ ?_ ?_
      · intro i9 o ho hc9 V w9 K hR9 hdep hK
        have HR9 := Lib.hid hR9
        have e0 : w9.cell? ⟨gb, off + md * 2, none⟩ = some (.int .i64 y0) := (HR9.out.cell (p := ⟨gb, off + md * 2, none⟩) HGL.out).trans (HYC.out 0 _ rfl)
        have e1 : w9.cell? ⟨gb, off + md * 2 + 1, none⟩ = some (.int .i64 y1) := (HR9.out.cell (p := ⟨gb, off + md * 2 + 1, none⟩) HGL.out).trans (HYC.out 1 _ rfl)
        have x0 := cell_blk ((HR9.out.block bx HBXL.out).trans HBXR.out) (i := 0) (u := .int .i64 x.1) rfl
        have x1 := cell_blk ((HR9.out.block bx HBXL.out).trans HBXR.out) (i := 1) (u := .int .i64 x.2) rfl
        clear hR9
        have hin9 : i9 < 8 := (Array.getElem?_eq_some_iff.1 ho).1
        have hcs : i9 = 0 ∨ i9 = 1 ∨ i9 = 2 ∨ i9 = 3 ∨ i9 = 4 ∨ i9 = 5 ∨ i9 = 6 ∨ i9 = 7 := by omega
        clear hin9
        rcases hcs with rfl | rfl | rfl | rfl | rfl | rfl | rfl | rfl
        all_goals first
          | (cases hc9; done)
          | (obtain rfl := Option.some.inj ho.symm
             simp [KnB, Region.binds] at hdep
             clear ho hc9
             simp only [fill, slotOf, List.size_toArray, List.length_cons, List.length_nil, Nat.reduceAdd, List.getElem?_toArray, List.getElem?_cons_zero, List.getElem?_cons_succ, Option.bind_some, Act.put, List.setIfInBounds_toArray, List.set_cons_zero, List.set_cons_succ] at hK ⊢
             try simp only [hdep] at hK ⊢
             go_simp
             exact hK _ rfl _ rfl)
      · intro i9 j9 o he9 ho V w9 K hS9 hdep hK
        have hin9 : i9 < 1 := (List.getElem?_eq_some_iff.1 he9).1
        obtain rfl : i9 = 0 := by omega
        all_goals
          obtain rfl := Option.some.inj he9.symm
          obtain rfl := Option.some.inj ho.symm
          simp [KnB, Region.binds] at hdep
          clear ho he9
          simp only [fill, slotOf, List.size_toArray, List.length_cons, List.length_nil, Nat.reduceAdd, List.getElem?_toArray, List.getElem?_cons_zero, List.getElem?_cons_succ, Option.bind_some, Act.put, List.setIfInBounds_toArray, List.set_cons_zero, List.set_cons_succ] at hK ⊢
          try simp only [hdep] at hK ⊢
        · have HJ := Lib.hid hS9
          clear hS9
          go_simp
          refine (byM_any y0 x.1 y1 x.2 w9).mono ?_
          rintro e w8 ⟨rfl, hb8⟩
          rw [HCC.out]
          exact hK _ w8 (HJ.out.trans (hb8.mono HJ.out.size)) (fun y h => Option.some.inj h) _ rfl
      · intro V wN hS9 hv9
        have hbN : Below wr.heap.size wr wN := hS9
        have h7 : V 7 = .bool bz := hv9 7 _ (by decide) rfl
        have HBN := Lib.hid (HB.out.trans (hbN.mono HB.out.size))
        clear hS9 hv9 hbN
        simp only [fill, slotOf, List.size_toArray, List.length_cons, List.length_nil, Nat.reduceAdd, List.getElem?_toArray, List.getElem?_cons_zero, List.getElem?_cons_succ, Option.bind_some, Act.put, List.setIfInBounds_toArray, List.set_cons_zero, List.set_cons_succ]
        rw [h7]
        clear h7
        cases bz with
        | false =>
          have hmk : k ≤ md := by
            rcases Nat.lt_or_ge md k with g | g
            · have h3 := H1.out _ g
              rw [← HY.out] at h3
              have h4 := HBZ.out
              rw [← HCC.out, decide_eq_false_iff_not, cmp3_neg] at h4
              exact absurd h3 h4
            · exact g
          go_wp2_with fail
          go_roundw
          case rel => exact ⟨lo, md, rfl, rfl, by omega, by omega, by omega, HBN⟩
          case measure => simp [intOf]; omega
        | true =>
          have hmk : md < k := by
            rcases Nat.lt_or_ge md k with g | g
            · exact g
            · have h3 := H2.out _ g hmn
              rw [← HY.out] at h3
              have h4 := HBZ.out
              rw [← HCC.out, decide_eq_true_eq, cmp3_neg] at h4
              have h5 : x.1 ≤ y0 := h3
              omega
          go_wp2_with fail
          go_roundw
          case rel => exact ⟨md + 1, hi, by push_cast; rfl, rfl, by omega, by omega, by omega, HBN⟩
          case measure => simp [intOf]; omega
    · obtain rfl : lo = hi := by omega
      obtain rfl : lo = k := by omega
      have hli : ¬ (lo : Int) < (lo : Int) := by omega
      by_cases hkn : lo < n
      · obtain ⟨md, rfl⟩ : ∃ md, md = lo := ⟨_, rfl⟩
        have hmn := hkn
        have hmni : (md : Int) < (n : Int) := by omega
        obtain ⟨gb, off, rfl, hgl, _, hgc⟩ := (HH.out.kept HB.out).get hmn
        obtain ⟨y, hy⟩ : ∃ y, y = l.getD md MarkS.z := ⟨_, rfl⟩
        rw [← hy] at hgc
        have HY := Lib.hid hy
        have HGL := Lib.hid hgl
        have HBXR := Lib.hid ((HB.out.block bx HBXL0.out).trans HBX.out)
        have HBXL := Lib.hid (Nat.lt_of_lt_of_le HBXL0.out HB.out.size)
        clear hy hgl
        obtain ⟨y0, y1⟩ := y
        have HYC := Lib.hid hgc
        clear hgc
        obtain ⟨cc, hcc⟩ : ∃ cc, cc = cmp3 y0 x.1 := ⟨_, rfl⟩
        have HCC := Lib.hid hcc.symm
        clear hcc
        obtain ⟨bz, hbz⟩ : ∃ bz, bz = (cc == 0) := ⟨_, rfl⟩
        have HBZ2 := Lib.hid (show fndBM l n md x.1 = bz from by
          unfold fndBM
          rw [← HY.out, hbz, decide_eq_true hkn, Bool.true_and, ← HCC.out, Bool.eq_iff_iff, decide_eq_true_eq, beq_iff_eq, cmp3_0])
        have hbz2 : (cc == 0) = bz := hbz.symm
        clear hbz
        go_upto_region 8 with fail
        refine wp_region_chain2 (by kernel_rfl) (by kernel_rfl) (by kernel_rfl) [11] true (by kernel_rfl) (fun k _ y => match k with
            | 0 => Below wr.heap.size wr y
            | _ => Below wr.heap.size wr y) (fun y => Below wr.heap.size wr y) (fun j_9 => match j_9 with | 0 => some (.int .i64 (md : Int)) | 1 => some (.int .i64 (md : Int)) | 2 => some (.int .i64 (n : Int)) | 3 => some (.bool true) | 4 => some (.bool true) | 5 => some (.func (.func 31) #[] #[]) | 6 => some (.slice (some ⟨gb, off, none⟩) n c) | 7 => some (.int .i64 (md : Int)) | 8 => some (.pointer (some ⟨gb, off + md * 2, none⟩)) | 9 => some (.agg #[.int .i64 y0, .int .i64 y1]) | 10 => some (.agg #[.int .i64 x.1, .int .i64 x.2]) | 11 => some (.int .i64 cc) | 12 => some (.bool bz) | 13 => some (.bool bz) | 14 => some (.int .i64 (md : Int)) | 15 => some (.bool bz) | _ => none) (by rfl) (fun _ => (Below.refl _ _).drew) (fun k u y hk9 hk hs => by
            match k, hk, hs with
            | 0, _, hs => exact hs
            | 1, _, hs => exact hs) ?_ ?_ ?_
        · intro i9 o ho hc9 V w9 K hR9 hdep hK
          have HR9 := Lib.hid hR9
          have e0 : w9.cell? ⟨gb, off + md * 2, none⟩ = some (.int .i64 y0) := (HR9.out.cell (p := ⟨gb, off + md * 2, none⟩) HGL.out).trans (HYC.out 0 _ rfl)
          have e1 : w9.cell? ⟨gb, off + md * 2 + 1, none⟩ = some (.int .i64 y1) := (HR9.out.cell (p := ⟨gb, off + md * 2 + 1, none⟩) HGL.out).trans (HYC.out 1 _ rfl)
          have x0 := cell_blk ((HR9.out.block bx HBXL.out).trans HBXR.out) (i := 0) (u := .int .i64 x.1) rfl
          have x1 := cell_blk ((HR9.out.block bx HBXL.out).trans HBXR.out) (i := 1) (u := .int .i64 x.2) rfl
          clear hR9
          have hin9 : i9 < 16 := (Array.getElem?_eq_some_iff.1 ho).1
          have hcs : i9 = 0 ∨ i9 = 1 ∨ i9 = 2 ∨ i9 = 3 ∨ i9 = 4 ∨ i9 = 5 ∨ i9 = 6 ∨ i9 = 7 ∨ i9 = 8 ∨ i9 = 9 ∨ i9 = 10 ∨ i9 = 11 ∨ i9 = 12 ∨ i9 = 13 ∨ i9 = 14 ∨ i9 = 15 := by omega
          clear hin9
          rcases hcs with rfl | rfl | rfl | rfl | rfl | rfl | rfl | rfl | rfl | rfl | rfl | rfl | rfl | rfl | rfl | rfl
          all_goals first
            | (cases hc9; done)
            | (obtain rfl := Option.some.inj ho.symm
               simp [KnB, Region.binds] at hdep
               clear ho hc9
               simp only [fill, slotOf, List.size_toArray, List.length_cons, List.length_nil, Nat.reduceAdd, List.getElem?_toArray, List.getElem?_cons_zero, List.getElem?_cons_succ, Option.bind_some, Act.put, List.setIfInBounds_toArray, List.set_cons_zero, List.set_cons_succ] at hK ⊢
               try simp only [hdep] at hK ⊢
               go_simp
               exact hK _ rfl _ rfl)
        · intro i9 j9 o he9 ho V w9 K hS9 hdep hK
          have hin9 : i9 < 1 := (List.getElem?_eq_some_iff.1 he9).1
          obtain rfl : i9 = 0 := by omega
          all_goals
            obtain rfl := Option.some.inj he9.symm
            obtain rfl := Option.some.inj ho.symm
            simp [KnB, Region.binds] at hdep
            clear ho he9
            simp only [fill, slotOf, List.size_toArray, List.length_cons, List.length_nil, Nat.reduceAdd, List.getElem?_toArray, List.getElem?_cons_zero, List.getElem?_cons_succ, Option.bind_some, Act.put, List.setIfInBounds_toArray, List.set_cons_zero, List.set_cons_succ] at hK ⊢
            try simp only [hdep] at hK ⊢
          · have HJ := Lib.hid hS9
            clear hS9
            go_simp
            refine (byM_any y0 x.1 y1 x.2 w9).mono ?_
            rintro e w8 ⟨rfl, hb8⟩
            rw [HCC.out]
            exact hK _ w8 (HJ.out.trans (hb8.mono HJ.out.size)) (fun y h => Option.some.inj h) _ rfl
        · intro V wN hS9 hv9
          have hbN : Below wr.heap.size wr wN := hS9
          have h6 : V 14 = .int .i64 (md : Int) := hv9 14 _ (by decide) rfl
          have h7 : V 15 = .bool bz := hv9 15 _ (by decide) rfl
          have HBN := Lib.hid (HB.out.trans (hbN.mono HB.out.size))
          clear hS9 hv9 hbN
          simp only [fill, slotOf, List.size_toArray, List.length_cons, List.length_nil, Nat.reduceAdd, List.getElem?_toArray, List.getElem?_cons_zero, List.getElem?_cons_succ, Option.bind_some, Act.put, List.setIfInBounds_toArray, List.set_cons_zero, List.set_cons_succ]
          rw [h6, h7]
          clear h6 h7
          go_wp2_with fail
          first | go_ret2 | go_ret
          exact ⟨by rw [HBZ2.out]; rfl, HBN0.out.trans (HBN.out.mono HBN0.out.size)⟩
      · have hkni : ¬ (lo : Int) < (n : Int) := by omega
        have hkd : decide ((lo : Int) < (n : Int)) = false := decide_eq_false hkni
        have HF := Lib.hid (show fndBM l n lo x.1 = false from by unfold fndBM; rw [decide_eq_false hkn, Bool.false_and])
        go_upto_region 8 with fail
        go_quiet (fail)
        go_wp2_with fail
        first | go_ret2 | go_ret
        exact ⟨by rw [HF.out]; rfl, below_drewN (HBN0.out.trans (HB.out.mono HBN0.out.size)) _⟩

set_option maxRecDepth 100000 in
set_option maxHeartbeats 2000000 in
theorem eqlAM (w : World) (a : Option Addr) (n c : Nat) : (binOp .eql 23 (.slice a n c) (.slice none 0 0)).run Tryz.prog w = .ok (.bool a.isNone) w := Lib.run_eql_slice_nil w _ _ a n c 0 0 Tryz.underlying23
set_option maxRecDepth 100000 in
set_option maxHeartbeats 2000000 in
theorem clone_anyM {w : World} {a : Option Addr} {n c : Nat} {l : List (Int × Int)} (h : VecAt MarkS w a n c l) (hn : n ≤ 1000) :
    Calls Tryz.prog 29 #[.slice a n c] w fun e w' => ∃ v', e = .returned v' ∧ w'.ownsRow w.heap.size 44 2 v' n (MarkS.flat l) ∧ Below w.heap.size w w' := by
  cases a with
  | none =>
    have hc := h.nl rfl
    have hn0 : n = 0 := by have := h.cap; omega
    subst hc
    subst hn0
    obtain rfl : l = [] := List.eq_nil_of_length_eq_zero h.len
    have hq := eqlAM w none 0 0
    rw [Option.isNone_none] at hq
    go_enter Tryz.func29, Tryz.ntmps29
    go_wp2_with fail
    go_ret
    exact ⟨_, rfl, World.ownsRow_nil _ _ _ _, Below.refl _ _⟩
  | some ad =>
    obtain ⟨w1, hw1⟩ : ∃ w1, w1 = w.alloc (.cells #[] 44) := ⟨_, rfl⟩
    have hb1 : Below w.heap.size w w1 := by rw [hw1]; exact (Below.refl _ _).alloc (Nat.le_refl _) _
    have hs1 : w.heap.size ≤ w1.heap.size := hb1.size
    have HO := Lib.hid (show w1.ownsRow w.heap.size 44 2 (.slice (some ⟨w.heap.size, 0, none⟩) 0 0) 0 (MarkS.flat []) from own_mk9 (Nat.le_refl _) (by rw [hw1]; exact heap_alloc_new w _) (Nat.le_refl _) (Nat.zero_le _) rfl rfl)
    have HV := Lib.hid (h.kept hb1)
    have HB1 := Lib.hid hb1
    have HS1 := Lib.hid hs1
    have HW1 := Lib.hid hw1
    have HL := Lib.hid h.len
    have hq := eqlAM w (some ad) n c
    rw [Option.isNone_some] at hq
    clear hb1 hs1 hw1 h
    go_enter Tryz.func29, Tryz.ntmps29
    go_wp2_with (at_builtin; rw [← HW1.out]; refine wpList_appAM rfl _ _ rfl w.heap.size _ 0 [] rfl HO.out _ n c l rfl HV.out (by omega) HS1.out ?_; intro v' w' ho' hg'; have HO2 := Lib.hid ho'; have HG2 := Lib.hid hg'; obtain ⟨a', c', rfl⟩ := own_slice9A ho'; clear ho' hg')
    go_ret
    refine ⟨_, rfl, by have := HO2.out; rw [Nat.zero_add, List.nil_append] at this; exact this, ?_⟩
    have hg := HG2.out
    refine HB1.out.trans ⟨hg.os, hg.tape, hg.output, hg.size, fun k hk => hg.block k (by have := HS1.out; omega) (fun e => ?_)⟩
    have e2 : w.heap.size = k := Option.some.inj e.symm
    omega
theorem ins_anyM {w : World} {base n i vb : Nat} {a : Option Addr} {c : Nat} {l : List (Int × Int)} {x : (Int × Int)} (h : w.ownsRow base 44 2 (.slice a n c) n (MarkS.flat l)) (hl : l.length = n) (hi : i ≤ n) (hn : n ≤ 1000) (hbase : base ≤ w.heap.size) (hv : w.heap[vb]? = some (.cells (MarkS.f x).toArray 44 (0, 0))) (hvb : ∀ g, a = some ⟨g, 0, none⟩ → vb ≠ g) :
    Calls Tryz.prog 61 #[.slice a n c, .int .i64 (i : Int), .slice (some ⟨vb, 0, none⟩) 1 1] w fun e w' => ∃ v', e = .returned v' ∧ w'.ownsRow base 44 2 v' (n + 1) (MarkS.flat (l.take i ++ x :: l.drop i)) ∧ w.grownBy w' (Value.slice a n c).ownBlock := by
  by_cases he : i = n
  · subst he
    rw [List.take_of_length_le (by omega), List.drop_of_length_le (by omega)]
    exact ins_endM h hn hbase hv
  · obtain ⟨g, rfl⟩ : ∃ g, a = some ⟨g, 0, none⟩ := by
      rcases h.2 with ⟨_, h0⟩ | ⟨g, cap, cur, h1, _⟩
      · omega
      · cases h1; exact ⟨g, rfl⟩
    rcases Nat.lt_or_ge n c with g1 | g1
    · exact ins_roomM h hl (by omega) g1 hn hv (hvb g rfl)
    · exact ins_growM h hl (by omega) (by omega) hn hbase hv
/-- a row of the caller's own, x put in at k, or in the place of what stands there -/
def putRM (l : List (Int × Int)) (k : Nat) (x : (Int × Int)) (fd : Bool) : List (Int × Int) := if fd = true then l.set k x else l.take k ++ x :: l.drop k
def PutIsM (w : World) (base : Nat) (a : Option Addr) (n c : Nat) (l : List (Int × Int)) (k : Nat) (x : (Int × Int)) (fd : Bool) (e : Ending) (w' : World) : Prop := ∃ v', e = .returned v' ∧ w'.ownsRow base 44 2 v' (putRM l k x fd).length (MarkS.flat (putRM l k x fd)) ∧ w.grownBy w' (Value.slice a n c).ownBlock
set_option maxRecDepth 100000 in
set_option maxHeartbeats 4000000 in
theorem put_anyM {w : World} {base n : Nat} {a : Option Addr} {c : Nat} {l : List (Int × Int)} (h : w.ownsRow base 44 2 (.slice a n c) n (MarkS.flat l)) (hl : l.length = n) (hn : n ≤ 1000) (hbase : base ≤ w.heap.size) (x : (Int × Int)) {k : Nat} (hk : k ≤ n) (h1 : ∀ t, t < k → (l.getD t MarkS.z).1 < x.1) (h2 : ∀ t, k ≤ t → t < n → x.1 ≤ (l.getD t MarkS.z).1) :
    Calls Tryz.prog 30 #[.slice a n c, .agg #[.int .i64 x.1, .int .i64 x.2], .func (.func 31) #[] #[]] w (PutIsM w base a n c l k x (fndBM l n k x.1)) := by
  obtain ⟨w1, hw1⟩ : ∃ w1, w1 = w.alloc (.cells #[.int .i64 x.1, .int .i64 x.2] 44) := ⟨_, rfl⟩
  obtain ⟨bx, hbx⟩ : ∃ bx, bx = w.heap.size := ⟨_, rfl⟩
  have hb1 : Below w.heap.size w w1 := by rw [hw1]; exact (Below.refl _ _).alloc (Nat.le_refl _) _
  have HBX := Lib.hid (show w1.heap[bx]? = some (.cells #[.int .i64 x.1, .int .i64 x.2] 44 (0, 0)) from by rw [hw1, hbx]; exact heap_alloc_new w _)
  have HO1 := Lib.hid (own_below h hb1)
  have HSE := Lib.hid (bsf_anyM (VecAt.ofOwn (S := MarkS) (own_below h hb1) hl (fun _ _ => trivial)) hn x hk h1 h2)
  have HB1 := Lib.hid hb1
  have HW1 := Lib.hid hw1
  have HBE := Lib.hid hbx
  have HH := Lib.hid h
  have HBS := Lib.hid hbase
  obtain ⟨fd, hfd⟩ : ∃ fd, fd = fndBM l n k x.1 := ⟨_, rfl⟩
  rw [← hfd] at HSE ⊢
  have HFD := Lib.hid hfd
  have a0 := cell_blk HBX.out (i := 0) (u := .int .i64 x.1) rfl
  have a1 := cell_blk HBX.out (i := 1) (u := .int .i64 x.2) rfl
  clear h hb1 hw1 hbx h1 h2 hbase hfd
  go_enter Tryz.func30, Tryz.ntmps30
  go_upto_region 1 with fail
  rw [← HW1.out, ← HBE.out]
  go_wp2_with fail
  refine HSE.out.mono ?_
  rintro e w2 ⟨rfl, hb2⟩
  have HB2 := Lib.hid (HB1.out.trans (hb2.mono HB1.out.size))
  have HO2 := Lib.hid (own_below HO1.out hb2)
  have hbx2 := (hb2.block bx (Array.getElem?_eq_some_iff.1 HBX.out).1).trans HBX.out
  have HX2 := Lib.hid hbx2
  have b0 := cell_blk HX2.out (i := 0) (u := .int .i64 x.1) rfl
  have b1 := cell_blk HX2.out (i := 1) (u := .int .i64 x.2) rfl
  clear hb2 hbx2
  cases fd with
  | true =>
    have hkn : k < n := by have := HFD.out; unfold fndBM at this; rw [eq_comm, Bool.and_eq_true, decide_eq_true_eq] at this; exact this.1
    obtain ⟨g, cap, cur, he, hgb, hgh, hnc, hcm, hsz, htk⟩ : ∃ g cap cur, (Value.slice a n c) = .slice (some ⟨g, 0, none⟩) n cap ∧ base ≤ g ∧ w2.heap[g]? = some (.cells cur 44 (0, 0)) ∧ n ≤ cap ∧ cap ≤ maxLen ∧ cur.size = cap * 2 ∧ cur.toList.take (n * 2) = MarkS.flat l := by
      rcases HO2.out.2 with ⟨_, h0⟩ | ⟨g', cap, cur, q1, q2, q3, q4, q5, q6, q7⟩
      · omega
      · exact ⟨g', cap, cur, q1, q2, q3, q4, q5, q6, q7⟩
    cases he
    have hs9 : k * 2 + 2 ≤ cur.size := by rw [hsz]; have := Nat.mul_le_mul_right 2 (show k + 1 ≤ c by omega); omega
    obtain ⟨v0, g0⟩ : ∃ v, w2.cell? ⟨g, k * 2, none⟩ = some v := ⟨_, cell_blk hgh (Array.getElem?_eq_getElem (show k * 2 < cur.size by omega))⟩
    have f0 := fro_blk hgh (k * 2)
    obtain ⟨v1, g1⟩ : ∃ v, w2.cell? ⟨g, k * 2 + 1, none⟩ = some v := ⟨_, cell_blk hgh (Array.getElem?_eq_getElem (show k * 2 + 1 < cur.size by omega))⟩
    have f1 := fro_blk hgh (k * 2 + 1)
    have HFO := Lib.hid (own_setCells (S := MarkS) HO2.out hl hkn x)
    have HFG := Lib.hid (show w.grownBy (w2.setCells g (k * 2) (MarkS.f x)) (some g) from by
      have e1 := HB2.out
      have e2 := setCells_grown w2 g (k * 2) (MarkS.f x)
      exact ⟨e2.os.trans e1.os, e2.tape.trans e1.tape, e2.output.trans e1.output, Nat.le_trans e1.size e2.size, fun q hq hne => (e2.block q (by have := e1.size; omega) hne).trans (e1.block q hq)⟩)
    have hki : (k : Int) < (n : Int) := by omega
    clear hgh hgb hnc hcm hsz htk hs9
    go_wp2_with fail
    go_ret
    refine ⟨_, rfl, ?_, HFG.out⟩
    unfold putRM
    rw [if_pos rfl, List.length_set, hl]
    exact HFO.out
  | false =>
    obtain ⟨w3, hw3⟩ : ∃ w3, w3 = w2.alloc (.cells #[.int .i64 x.1, .int .i64 x.2] 44) := ⟨_, rfl⟩
    have hb3 : Below w2.heap.size w2 w3 := by rw [hw3]; exact (Below.refl _ _).alloc (Nat.le_refl _) _
    have HIN := Lib.hid (ins_anyM (x := x) (own_below HO2.out hb3) hl hk hn (by have h1 := HB2.out.size; have h2 := hb3.size; have h3 := HBS.out; omega) (show w3.heap[w2.heap.size]? = some (.cells (MarkS.f x).toArray 44 (0, 0)) from by rw [hw3]; exact heap_alloc_new w2 _) (fun g e => by
      have := (HO2.out.lt g (by rw [e]; rfl)).2
      omega))
    have HB3 := Lib.hid (HB2.out.trans (hb3.mono HB2.out.size))
    have HW3 := Lib.hid hw3
    clear hw3 hb3
    go_wp2_with fail
    rw [← HW3.out]
    refine HIN.out.mono ?_
    rintro e w4 ⟨v', rfl, ho4, hg4⟩
    have HO4 := Lib.hid ho4
    have HG4 := Lib.hid hg4
    obtain ⟨a', c', rfl⟩ := own_slice9A ho4
    clear ho4 hg4
    go_wp2_with fail
    go_ret
    refine ⟨_, rfl, ?_, ?_⟩
    · unfold putRM
      rw [if_neg (by decide), List.length_append, List.length_cons, List.length_take, List.length_drop, hl, show min k n + (n - k + 1) = n + 1 by omega]
      exact HO4.out
    · have e1 := HB3.out
      have e2 := HG4.out
      exact ⟨e2.os.trans e1.os, e2.tape.trans e1.tape, e2.output.trans e1.output, Nat.le_trans e1.size e2.size, fun q hq hne => (e2.block q (by have := e1.size; omega) hne).trans (e1.block q hq)⟩

def fndBO (l : List (Int × Int × Int)) (n k : Nat) (z : Int) : Bool := decide (k < n) && decide ((l.getD k OwnS.z).1 = z)
set_option maxRecDepth 100000 in
set_option maxHeartbeats 4000000 in
theorem bsf_anyO {w : World} {a : Option Addr} {n c : Nat} {l : List (Int × Int × Int)} (h : VecAt OwnS w a n c l) (hn : n ≤ 1000) (x : (Int × Int × Int)) {k : Nat} (hk : k ≤ n) (h1 : ∀ t, t < k → (l.getD t OwnS.z).1 < x.1) (h2 : ∀ t, k ≤ t → t < n → x.1 ≤ (l.getD t OwnS.z).1) :
    Calls Tryz.prog 63 #[.slice a n c, .agg #[.int .i64 x.1, .int .i64 x.2.1, .int .i64 x.2.2], .func (.func 34) #[] #[]] w fun e w' => e = .returned (.tuple #[.int .i64 (k : Int), .bool (fndBO l n k x.1)]) ∧ Below w.heap.size w w' := by
  obtain ⟨w1, hw1⟩ : ∃ w1, w1 = w.alloc (.cells #[.int .i64 x.1, .int .i64 x.2.1, .int .i64 x.2.2] 29) := ⟨_, rfl⟩
  obtain ⟨bx, hbx⟩ : ∃ bx, bx = w.heap.size := ⟨_, rfl⟩
  have hb1 : Below w.heap.size w w1 := by rw [hw1]; exact (Below.refl _ _).alloc (Nat.le_refl _) _
  have HBX := Lib.hid (show w1.heap[bx]? = some (.cells #[.int .i64 x.1, .int .i64 x.2.1, .int .i64 x.2.2] 29 (0, 0)) from by rw [hw1, hbx]; exact heap_alloc_new w _)
  have HBXL0 := Lib.hid (Array.getElem?_eq_some_iff.1 HBX.out).1
  have HH := Lib.hid (h.kept hb1)
  have HBN0 := Lib.hid hb1
  have H1 := Lib.hid h1
  have H2 := Lib.hid h2
  have HW1 := Lib.hid hw1
  have HBE := Lib.hid hbx
  clear h h1 h2 hb1 hw1 hbx
  go_enter Tryz.func63, Tryz.ntmps63
  go_upto_region 1 with fail
  rw [← HW1.out, ← HBE.out]
  go_wp2_with fail
  go_loopw [9, 10] (fun s9 s10 wr => ∃ lo hi : Nat, s9 = .int .i64 (lo : Int) ∧ s10 = .int .i64 (hi : Int) ∧ lo ≤ k ∧ k ≤ hi ∧ hi ≤ n ∧ Hid (Below w1.heap.size w1 wr)) (fun s9 s10 _ => (intOf s10).toNat - (intOf s9).toNat)
  case atStart => exact ⟨0, n, rfl, rfl, by omega, hk, Nat.le_refl _, Lib.hid (Below.refl _ _)⟩
  case round =>
    obtain ⟨lo, hi, rfl, rfl, hlk, hkh, hin, HB⟩ := hrel
    rename World => wr
    by_cases hlh : lo < hi
    · obtain ⟨md, hmd⟩ : ∃ md, md = (lo + hi) / 2 := ⟨_, rfl⟩
      have hm1 : lo ≤ md := by omega
      have hm2 : md < hi := by omega
      have hmn : md < n := by omega
      have hli : (lo : Int) < (hi : Int) := by omega
      have hmi : ((lo : Int) + (hi : Int)) / 2 = (md : Int) := by omega
      have hmni : (md : Int) < (n : Int) := by omega
      clear hmd
      obtain ⟨gb, off, rfl, hgl, _, hgc⟩ := (HH.out.kept HB.out).get hmn
      obtain ⟨y, hy⟩ : ∃ y, y = l.getD md OwnS.z := ⟨_, rfl⟩
      rw [← hy] at hgc
      have HY := Lib.hid hy
      have HGL := Lib.hid hgl
      have HBXR := Lib.hid ((HB.out.block bx HBXL0.out).trans HBX.out)
      have HBXL := Lib.hid (Nat.lt_of_lt_of_le HBXL0.out HB.out.size)
      clear hy hgl
      obtain ⟨y0, y1, y2⟩ := y
      have HYC := Lib.hid hgc
      clear hgc
      obtain ⟨cc, hcc⟩ : ∃ cc, cc = cmp3 y0 x.1 := ⟨_, rfl⟩
      have HCC := Lib.hid hcc.symm
      clear hcc
      obtain ⟨bz, hbz⟩ : ∃ bz, bz = decide (cc < 0) := ⟨_, rfl⟩
      have HBZ := Lib.hid hbz.symm
      have hbz2 : decide (cc < 0) = bz := hbz.symm
      clear hbz
      go_upto_region 5 with fail
      refine wp_region_chain2 (by kernel_rfl) (by kernel_rfl) (by kernel_rfl) [6] true (by kernel_rfl) (fun k _ y => match k with
          | 0 => Below wr.heap.size wr y
          | _ => Below wr.heap.size wr y) (fun y => Below wr.heap.size wr y) (fun j_9 => match j_9 with | 0 => some (.func (.func 34) #[] #[]) | 1 => some (.slice (some ⟨gb, off, none⟩) n c) | 2 => some (.int .i64 (md : Int)) | 3 => some (.pointer (some ⟨gb, off + md * 3, none⟩)) | 4 => some (.agg #[.int .i64 y0, .int .i64 y1, .int .i64 y2]) | 5 => some (.agg #[.int .i64 x.1, .int .i64 x.2.1, .int .i64 x.2.2]) | 6 => some (.int .i64 cc) | 7 => some (.bool bz) | _ => none) (by rfl) (fun _ => (Below.refl _ _).drew) (fun k u y hk9 hk hs => by
          match k, hk, hs with
          | 0, _, hs => exact hs
          | 1, _, hs => exact hs) ?_ ?_ ?_
      · intro i9 o ho hc9 V w9 K hR9 hdep hK
        have HR9 := Lib.hid hR9
        have e0 : w9.cell? ⟨gb, off + md * 3, none⟩ = some (.int .i64 y0) := (HR9.out.cell (p := ⟨gb, off + md * 3, none⟩) HGL.out).trans (HYC.out 0 _ rfl)
        have e1 : w9.cell? ⟨gb, off + md * 3 + 1, none⟩ = some (.int .i64 y1) := (HR9.out.cell (p := ⟨gb, off + md * 3 + 1, none⟩) HGL.out).trans (HYC.out 1 _ rfl)
        have e2 : w9.cell? ⟨gb, off + md * 3 + 2, none⟩ = some (.int .i64 y2) := (HR9.out.cell (p := ⟨gb, off + md * 3 + 2, none⟩) HGL.out).trans (HYC.out 2 _ rfl)
        have x0 := cell_blk ((HR9.out.block bx HBXL.out).trans HBXR.out) (i := 0) (u := .int .i64 x.1) rfl
        have x1 := cell_blk ((HR9.out.block bx HBXL.out).trans HBXR.out) (i := 1) (u := .int .i64 x.2.1) rfl
        have x2 := cell_blk ((HR9.out.block bx HBXL.out).trans HBXR.out) (i := 2) (u := .int .i64 x.2.2) rfl
        clear hR9
        have hin9 : i9 < 8 := (Array.getElem?_eq_some_iff.1 ho).1
        have hcs : i9 = 0 ∨ i9 = 1 ∨ i9 = 2 ∨ i9 = 3 ∨ i9 = 4 ∨ i9 = 5 ∨ i9 = 6 ∨ i9 = 7 := by omega
        clear hin9
        rcases hcs with rfl | rfl | rfl | rfl | rfl | rfl | rfl | rfl
        all_goals first
          | (cases hc9; done)
          | (obtain rfl := Option.some.inj ho.symm
             simp [KnB, Region.binds] at hdep
             clear ho hc9
             simp only [fill, slotOf, List.size_toArray, List.length_cons, List.length_nil, Nat.reduceAdd, List.getElem?_toArray, List.getElem?_cons_zero, List.getElem?_cons_succ, Option.bind_some, Act.put, List.setIfInBounds_toArray, List.set_cons_zero, List.set_cons_succ] at hK ⊢
             try simp only [hdep] at hK ⊢
             go_simp
             exact hK _ rfl _ rfl)
      · intro i9 j9 o he9 ho V w9 K hS9 hdep hK
        have hin9 : i9 < 1 := (List.getElem?_eq_some_iff.1 he9).1
        obtain rfl : i9 = 0 := by omega
        all_goals
          obtain rfl := Option.some.inj he9.symm
          obtain rfl := Option.some.inj ho.symm
          simp [KnB, Region.binds] at hdep
          clear ho he9
          simp only [fill, slotOf, List.size_toArray, List.length_cons, List.length_nil, Nat.reduceAdd, List.getElem?_toArray, List.getElem?_cons_zero, List.getElem?_cons_succ, Option.bind_some, Act.put, List.setIfInBounds_toArray, List.set_cons_zero, List.set_cons_succ] at hK ⊢
          try simp only [hdep] at hK ⊢
        · have HJ := Lib.hid hS9
          clear hS9
          go_simp
          refine (byO_any y0 x.1 y1 x.2.1 y2 x.2.2 w9).mono ?_
          rintro e w8 ⟨rfl, hb8⟩
          rw [HCC.out]
          exact hK _ w8 (HJ.out.trans (hb8.mono HJ.out.size)) (fun y h => Option.some.inj h) _ rfl
      · intro V wN hS9 hv9
        have hbN : Below wr.heap.size wr wN := hS9
        have h7 : V 7 = .bool bz := hv9 7 _ (by decide) rfl
        have HBN := Lib.hid (HB.out.trans (hbN.mono HB.out.size))
        clear hS9 hv9 hbN
        simp only [fill, slotOf, List.size_toArray, List.length_cons, List.length_nil, Nat.reduceAdd, List.getElem?_toArray, List.getElem?_cons_zero, List.getElem?_cons_succ, Option.bind_some, Act.put, List.setIfInBounds_toArray, List.set_cons_zero, List.set_cons_succ]
        rw [h7]
        clear h7
        cases bz with
        | false =>
          have hmk : k ≤ md := by
            rcases Nat.lt_or_ge md k with g | g
            · have h3 := H1.out _ g
              rw [← HY.out] at h3
              have h4 := HBZ.out
              rw [← HCC.out, decide_eq_false_iff_not, cmp3_neg] at h4
              exact absurd h3 h4
            · exact g
          go_wp2_with fail
          go_roundw
          case rel => exact ⟨lo, md, rfl, rfl, by omega, by omega, by omega, HBN⟩
          case measure => simp [intOf]; omega
        | true =>
          have hmk : md < k := by
            rcases Nat.lt_or_ge md k with g | g
            · exact g
            · have h3 := H2.out _ g hmn
              rw [← HY.out] at h3
              have h4 := HBZ.out
              rw [← HCC.out, decide_eq_true_eq, cmp3_neg] at h4
              have h5 : x.1 ≤ y0 := h3
              omega
          go_wp2_with fail
          go_roundw
          case rel => exact ⟨md + 1, hi, by push_cast; rfl, rfl, by omega, by omega, by omega, HBN⟩
          case measure => simp [intOf]; omega
    · obtain rfl : lo = hi := by omega
      obtain rfl : lo = k := by omega
      have hli : ¬ (lo : Int) < (lo : Int) := by omega
      by_cases hkn : lo < n
      · obtain ⟨md, rfl⟩ : ∃ md, md = lo := ⟨_, rfl⟩
        have hmn := hkn
        have hmni : (md : Int) < (n : Int) := by omega
        obtain ⟨gb, off, rfl, hgl, _, hgc⟩ := (HH.out.kept HB.out).get hmn
        obtain ⟨y, hy⟩ : ∃ y, y = l.getD md OwnS.z := ⟨_, rfl⟩
        rw [← hy] at hgc
        have HY := Lib.hid hy
        have HGL := Lib.hid hgl
        have HBXR := Lib.hid ((HB.out.block bx HBXL0.out).trans HBX.out)
        have HBXL := Lib.hid (Nat.lt_of_lt_of_le HBXL0.out HB.out.size)
        clear hy hgl
        obtain ⟨y0, y1, y2⟩ := y
        have HYC := Lib.hid hgc
        clear hgc
        obtain ⟨cc, hcc⟩ : ∃ cc, cc = cmp3 y0 x.1 := ⟨_, rfl⟩
        have HCC := Lib.hid hcc.symm
        clear hcc
        obtain ⟨bz, hbz⟩ : ∃ bz, bz = (cc == 0) := ⟨_, rfl⟩
        have HBZ2 := Lib.hid (show fndBO l n md x.1 = bz from by
          unfold fndBO
          rw [← HY.out, hbz, decide_eq_true hkn, Bool.true_and, ← HCC.out, Bool.eq_iff_iff, decide_eq_true_eq, beq_iff_eq, cmp3_0])
        have hbz2 : (cc == 0) = bz := hbz.symm
        clear hbz
        go_upto_region 8 with fail
        refine wp_region_chain2 (by kernel_rfl) (by kernel_rfl) (by kernel_rfl) [11] true (by kernel_rfl) (fun k _ y => match k with
            | 0 => Below wr.heap.size wr y
            | _ => Below wr.heap.size wr y) (fun y => Below wr.heap.size wr y) (fun j_9 => match j_9 with | 0 => some (.int .i64 (md : Int)) | 1 => some (.int .i64 (md : Int)) | 2 => some (.int .i64 (n : Int)) | 3 => some (.bool true) | 4 => some (.bool true) | 5 => some (.func (.func 34) #[] #[]) | 6 => some (.slice (some ⟨gb, off, none⟩) n c) | 7 => some (.int .i64 (md : Int)) | 8 => some (.pointer (some ⟨gb, off + md * 3, none⟩)) | 9 => some (.agg #[.int .i64 y0, .int .i64 y1, .int .i64 y2]) | 10 => some (.agg #[.int .i64 x.1, .int .i64 x.2.1, .int .i64 x.2.2]) | 11 => some (.int .i64 cc) | 12 => some (.bool bz) | 13 => some (.bool bz) | 14 => some (.int .i64 (md : Int)) | 15 => some (.bool bz) | _ => none) (by rfl) (fun _ => (Below.refl _ _).drew) (fun k u y hk9 hk hs => by
            match k, hk, hs with
            | 0, _, hs => exact hs
            | 1, _, hs => exact hs) ?_ ?_ ?_
        · intro i9 o ho hc9 V w9 K hR9 hdep hK
          have HR9 := Lib.hid hR9
          have e0 : w9.cell? ⟨gb, off + md * 3, none⟩ = some (.int .i64 y0) := (HR9.out.cell (p := ⟨gb, off + md * 3, none⟩) HGL.out).trans (HYC.out 0 _ rfl)
          have e1 : w9.cell? ⟨gb, off + md * 3 + 1, none⟩ = some (.int .i64 y1) := (HR9.out.cell (p := ⟨gb, off + md * 3 + 1, none⟩) HGL.out).trans (HYC.out 1 _ rfl)
          have e2 : w9.cell? ⟨gb, off + md * 3 + 2, none⟩ = some (.int .i64 y2) := (HR9.out.cell (p := ⟨gb, off + md * 3 + 2, none⟩) HGL.out).trans (HYC.out 2 _ rfl)
          have x0 := cell_blk ((HR9.out.block bx HBXL.out).trans HBXR.out) (i := 0) (u := .int .i64 x.1) rfl
          have x1 := cell_blk ((HR9.out.block bx HBXL.out).trans HBXR.out) (i := 1) (u := .int .i64 x.2.1) rfl
          have x2 := cell_blk ((HR9.out.block bx HBXL.out).trans HBXR.out) (i := 2) (u := .int .i64 x.2.2) rfl
          clear hR9
          have hin9 : i9 < 16 := (Array.getElem?_eq_some_iff.1 ho).1
          have hcs : i9 = 0 ∨ i9 = 1 ∨ i9 = 2 ∨ i9 = 3 ∨ i9 = 4 ∨ i9 = 5 ∨ i9 = 6 ∨ i9 = 7 ∨ i9 = 8 ∨ i9 = 9 ∨ i9 = 10 ∨ i9 = 11 ∨ i9 = 12 ∨ i9 = 13 ∨ i9 = 14 ∨ i9 = 15 := by omega
          clear hin9
          rcases hcs with rfl | rfl | rfl | rfl | rfl | rfl | rfl | rfl | rfl | rfl | rfl | rfl | rfl | rfl | rfl | rfl
          all_goals first
            | (cases hc9; done)
            | (obtain rfl := Option.some.inj ho.symm
               simp [KnB, Region.binds] at hdep
               clear ho hc9
               simp only [fill, slotOf, List.size_toArray, List.length_cons, List.length_nil, Nat.reduceAdd, List.getElem?_toArray, List.getElem?_cons_zero, List.getElem?_cons_succ, Option.bind_some, Act.put, List.setIfInBounds_toArray, List.set_cons_zero, List.set_cons_succ] at hK ⊢
               try simp only [hdep] at hK ⊢
               go_simp
               exact hK _ rfl _ rfl)
        · intro i9 j9 o he9 ho V w9 K hS9 hdep hK
          have hin9 : i9 < 1 := (List.getElem?_eq_some_iff.1 he9).1
          obtain rfl : i9 = 0 := by omega
          all_goals
            obtain rfl := Option.some.inj he9.symm
            obtain rfl := Option.some.inj ho.symm
            simp [KnB, Region.binds] at hdep
            clear ho he9
            simp only [fill, slotOf, List.size_toArray, List.length_cons, List.length_nil, Nat.reduceAdd, List.getElem?_toArray, List.getElem?_cons_zero, List.getElem?_cons_succ, Option.bind_some, Act.put, List.setIfInBounds_toArray, List.set_cons_zero, List.set_cons_succ] at hK ⊢
            try simp only [hdep] at hK ⊢
          · have HJ := Lib.hid hS9
            clear hS9
            go_simp
            refine (byO_any y0 x.1 y1 x.2.1 y2 x.2.2 w9).mono ?_
            rintro e w8 ⟨rfl, hb8⟩
            rw [HCC.out]
            exact hK _ w8 (HJ.out.trans (hb8.mono HJ.out.size)) (fun y h => Option.some.inj h) _ rfl
        · intro V wN hS9 hv9
          have hbN : Below wr.heap.size wr wN := hS9
          have h6 : V 14 = .int .i64 (md : Int) := hv9 14 _ (by decide) rfl
          have h7 : V 15 = .bool bz := hv9 15 _ (by decide) rfl
          have HBN := Lib.hid (HB.out.trans (hbN.mono HB.out.size))
          clear hS9 hv9 hbN
          simp only [fill, slotOf, List.size_toArray, List.length_cons, List.length_nil, Nat.reduceAdd, List.getElem?_toArray, List.getElem?_cons_zero, List.getElem?_cons_succ, Option.bind_some, Act.put, List.setIfInBounds_toArray, List.set_cons_zero, List.set_cons_succ]
          rw [h6, h7]
          clear h6 h7
          go_wp2_with fail
          first | go_ret2 | go_ret
          exact ⟨by rw [HBZ2.out]; rfl, HBN0.out.trans (HBN.out.mono HBN0.out.size)⟩
      · have hkni : ¬ (lo : Int) < (n : Int) := by omega
        have hkd : decide ((lo : Int) < (n : Int)) = false := decide_eq_false hkni
        have HF := Lib.hid (show fndBO l n lo x.1 = false from by unfold fndBO; rw [decide_eq_false hkn, Bool.false_and])
        go_upto_region 8 with fail
        go_quiet (fail)
        go_wp2_with fail
        first | go_ret2 | go_ret
        exact ⟨by rw [HF.out]; rfl, below_drewN (HBN0.out.trans (HB.out.mono HBN0.out.size)) _⟩

set_option maxRecDepth 100000 in
set_option maxHeartbeats 2000000 in
theorem eqlAO (w : World) (a : Option Addr) (n c : Nat) : (binOp .eql 24 (.slice a n c) (.slice none 0 0)).run Tryz.prog w = .ok (.bool a.isNone) w := Lib.run_eql_slice_nil w _ _ a n c 0 0 Tryz.underlying24
set_option maxRecDepth 100000 in
set_option maxHeartbeats 2000000 in
theorem clone_anyO {w : World} {a : Option Addr} {n c : Nat} {l : List (Int × Int × Int)} (h : VecAt OwnS w a n c l) (hn : n ≤ 1000) :
    Calls Tryz.prog 33 #[.slice a n c] w fun e w' => ∃ v', e = .returned v' ∧ w'.ownsRow w.heap.size 29 3 v' n (OwnS.flat l) ∧ Below w.heap.size w w' := by
  cases a with
  | none =>
    have hc := h.nl rfl
    have hn0 : n = 0 := by have := h.cap; omega
    subst hc
    subst hn0
    obtain rfl : l = [] := List.eq_nil_of_length_eq_zero h.len
    have hq := eqlAO w none 0 0
    rw [Option.isNone_none] at hq
    go_enter Tryz.func33, Tryz.ntmps33
    go_wp2_with fail
    go_ret
    exact ⟨_, rfl, World.ownsRow_nil _ _ _ _, Below.refl _ _⟩
  | some ad =>
    obtain ⟨w1, hw1⟩ : ∃ w1, w1 = w.alloc (.cells #[] 29) := ⟨_, rfl⟩
    have hb1 : Below w.heap.size w w1 := by rw [hw1]; exact (Below.refl _ _).alloc (Nat.le_refl _) _
    have hs1 : w.heap.size ≤ w1.heap.size := hb1.size
    have HO := Lib.hid (show w1.ownsRow w.heap.size 29 3 (.slice (some ⟨w.heap.size, 0, none⟩) 0 0) 0 (OwnS.flat []) from own_mk9 (Nat.le_refl _) (by rw [hw1]; exact heap_alloc_new w _) (Nat.le_refl _) (Nat.zero_le _) rfl rfl)
    have HV := Lib.hid (h.kept hb1)
    have HB1 := Lib.hid hb1
    have HS1 := Lib.hid hs1
    have HW1 := Lib.hid hw1
    have HL := Lib.hid h.len
    have hq := eqlAO w (some ad) n c
    rw [Option.isNone_some] at hq
    clear hb1 hs1 hw1 h
    go_enter Tryz.func33, Tryz.ntmps33
    go_wp2_with (at_builtin; rw [← HW1.out]; refine wpList_appAO rfl _ _ rfl w.heap.size _ 0 [] rfl HO.out _ n c l rfl HV.out (by omega) HS1.out ?_; intro v' w' ho' hg'; have HO2 := Lib.hid ho'; have HG2 := Lib.hid hg'; obtain ⟨a', c', rfl⟩ := own_slice9A ho'; clear ho' hg')
    go_ret
    refine ⟨_, rfl, by have := HO2.out; rw [Nat.zero_add, List.nil_append] at this; exact this, ?_⟩
    have hg := HG2.out
    refine HB1.out.trans ⟨hg.os, hg.tape, hg.output, hg.size, fun k hk => hg.block k (by have := HS1.out; omega) (fun e => ?_)⟩
    have e2 : w.heap.size = k := Option.some.inj e.symm
    omega
theorem ins_anyO {w : World} {base n i vb : Nat} {a : Option Addr} {c : Nat} {l : List (Int × Int × Int)} {x : (Int × Int × Int)} (h : w.ownsRow base 29 3 (.slice a n c) n (OwnS.flat l)) (hl : l.length = n) (hi : i ≤ n) (hn : n ≤ 1000) (hbase : base ≤ w.heap.size) (hv : w.heap[vb]? = some (.cells (OwnS.f x).toArray 29 (0, 0))) (hvb : ∀ g, a = some ⟨g, 0, none⟩ → vb ≠ g) :
    Calls Tryz.prog 64 #[.slice a n c, .int .i64 (i : Int), .slice (some ⟨vb, 0, none⟩) 1 1] w fun e w' => ∃ v', e = .returned v' ∧ w'.ownsRow base 29 3 v' (n + 1) (OwnS.flat (l.take i ++ x :: l.drop i)) ∧ w.grownBy w' (Value.slice a n c).ownBlock := by
  by_cases he : i = n
  · subst he
    rw [List.take_of_length_le (by omega), List.drop_of_length_le (by omega)]
    exact ins_endO h hn hbase hv
  · obtain ⟨g, rfl⟩ : ∃ g, a = some ⟨g, 0, none⟩ := by
      rcases h.2 with ⟨_, h0⟩ | ⟨g, cap, cur, h1, _⟩
      · omega
      · cases h1; exact ⟨g, rfl⟩
    rcases Nat.lt_or_ge n c with g1 | g1
    · exact ins_roomO h hl (by omega) g1 hn hv (hvb g rfl)
    · exact ins_growO h hl (by omega) (by omega) hn hbase hv
/-- a row of the caller's own, x put in at k, or in the place of what stands there -/
def putRO (l : List (Int × Int × Int)) (k : Nat) (x : (Int × Int × Int)) (fd : Bool) : List (Int × Int × Int) := if fd = true then l.set k x else l.take k ++ x :: l.drop k
def PutIsO (w : World) (base : Nat) (a : Option Addr) (n c : Nat) (l : List (Int × Int × Int)) (k : Nat) (x : (Int × Int × Int)) (fd : Bool) (e : Ending) (w' : World) : Prop := ∃ v', e = .returned v' ∧ w'.ownsRow base 29 3 v' (putRO l k x fd).length (OwnS.flat (putRO l k x fd)) ∧ w.grownBy w' (Value.slice a n c).ownBlock
set_option maxRecDepth 100000 in
set_option maxHeartbeats 4000000 in
theorem put_anyO {w : World} {base n : Nat} {a : Option Addr} {c : Nat} {l : List (Int × Int × Int)} (h : w.ownsRow base 29 3 (.slice a n c) n (OwnS.flat l)) (hl : l.length = n) (hn : n ≤ 1000) (hbase : base ≤ w.heap.size) (x : (Int × Int × Int)) {k : Nat} (hk : k ≤ n) (h1 : ∀ t, t < k → (l.getD t OwnS.z).1 < x.1) (h2 : ∀ t, k ≤ t → t < n → x.1 ≤ (l.getD t OwnS.z).1) :
    Calls Tryz.prog 32 #[.slice a n c, .agg #[.int .i64 x.1, .int .i64 x.2.1, .int .i64 x.2.2], .func (.func 34) #[] #[]] w (PutIsO w base a n c l k x (fndBO l n k x.1)) := by
  obtain ⟨w1, hw1⟩ : ∃ w1, w1 = w.alloc (.cells #[.int .i64 x.1, .int .i64 x.2.1, .int .i64 x.2.2] 29) := ⟨_, rfl⟩
  obtain ⟨bx, hbx⟩ : ∃ bx, bx = w.heap.size := ⟨_, rfl⟩
  have hb1 : Below w.heap.size w w1 := by rw [hw1]; exact (Below.refl _ _).alloc (Nat.le_refl _) _
  have HBX := Lib.hid (show w1.heap[bx]? = some (.cells #[.int .i64 x.1, .int .i64 x.2.1, .int .i64 x.2.2] 29 (0, 0)) from by rw [hw1, hbx]; exact heap_alloc_new w _)
  have HO1 := Lib.hid (own_below h hb1)
  have HSE := Lib.hid (bsf_anyO (VecAt.ofOwn (S := OwnS) (own_below h hb1) hl (fun _ _ => trivial)) hn x hk h1 h2)
  have HB1 := Lib.hid hb1
  have HW1 := Lib.hid hw1
  have HBE := Lib.hid hbx
  have HH := Lib.hid h
  have HBS := Lib.hid hbase
  obtain ⟨fd, hfd⟩ : ∃ fd, fd = fndBO l n k x.1 := ⟨_, rfl⟩
  rw [← hfd] at HSE ⊢
  have HFD := Lib.hid hfd
  have a0 := cell_blk HBX.out (i := 0) (u := .int .i64 x.1) rfl
  have a1 := cell_blk HBX.out (i := 1) (u := .int .i64 x.2.1) rfl
  have a2 := cell_blk HBX.out (i := 2) (u := .int .i64 x.2.2) rfl
  clear h hb1 hw1 hbx h1 h2 hbase hfd
  go_enter Tryz.func32, Tryz.ntmps32
  go_upto_region 1 with fail
  rw [← HW1.out, ← HBE.out]
  go_wp2_with fail
  refine HSE.out.mono ?_
  rintro e w2 ⟨rfl, hb2⟩
  have HB2 := Lib.hid (HB1.out.trans (hb2.mono HB1.out.size))
  have HO2 := Lib.hid (own_below HO1.out hb2)
  have hbx2 := (hb2.block bx (Array.getElem?_eq_some_iff.1 HBX.out).1).trans HBX.out
  have HX2 := Lib.hid hbx2
  have b0 := cell_blk HX2.out (i := 0) (u := .int .i64 x.1) rfl
  have b1 := cell_blk HX2.out (i := 1) (u := .int .i64 x.2.1) rfl
  have b2 := cell_blk HX2.out (i := 2) (u := .int .i64 x.2.2) rfl
  clear hb2 hbx2
  cases fd with
  | true =>
    have hkn : k < n := by have := HFD.out; unfold fndBO at this; rw [eq_comm, Bool.and_eq_true, decide_eq_true_eq] at this; exact this.1
    obtain ⟨g, cap, cur, he, hgb, hgh, hnc, hcm, hsz, htk⟩ : ∃ g cap cur, (Value.slice a n c) = .slice (some ⟨g, 0, none⟩) n cap ∧ base ≤ g ∧ w2.heap[g]? = some (.cells cur 29 (0, 0)) ∧ n ≤ cap ∧ cap ≤ maxLen ∧ cur.size = cap * 3 ∧ cur.toList.take (n * 3) = OwnS.flat l := by
      rcases HO2.out.2 with ⟨_, h0⟩ | ⟨g', cap, cur, q1, q2, q3, q4, q5, q6, q7⟩
      · omega
      · exact ⟨g', cap, cur, q1, q2, q3, q4, q5, q6, q7⟩
    cases he
    have hs9 : k * 3 + 3 ≤ cur.size := by rw [hsz]; have := Nat.mul_le_mul_right 3 (show k + 1 ≤ c by omega); omega
    obtain ⟨v0, g0⟩ : ∃ v, w2.cell? ⟨g, k * 3, none⟩ = some v := ⟨_, cell_blk hgh (Array.getElem?_eq_getElem (show k * 3 < cur.size by omega))⟩
    have f0 := fro_blk hgh (k * 3)
    obtain ⟨v1, g1⟩ : ∃ v, w2.cell? ⟨g, k * 3 + 1, none⟩ = some v := ⟨_, cell_blk hgh (Array.getElem?_eq_getElem (show k * 3 + 1 < cur.size by omega))⟩
    have f1 := fro_blk hgh (k * 3 + 1)
    obtain ⟨v2, g2⟩ : ∃ v, w2.cell? ⟨g, k * 3 + 2, none⟩ = some v := ⟨_, cell_blk hgh (Array.getElem?_eq_getElem (show k * 3 + 2 < cur.size by omega))⟩
    have f2 := fro_blk hgh (k * 3 + 2)
    have HFO := Lib.hid (own_setCells (S := OwnS) HO2.out hl hkn x)
    have HFG := Lib.hid (show w.grownBy (w2.setCells g (k * 3) (OwnS.f x)) (some g) from by
      have e1 := HB2.out
      have e2 := setCells_grown w2 g (k * 3) (OwnS.f x)
      exact ⟨e2.os.trans e1.os, e2.tape.trans e1.tape, e2.output.trans e1.output, Nat.le_trans e1.size e2.size, fun q hq hne => (e2.block q (by have := e1.size; omega) hne).trans (e1.block q hq)⟩)
    have hki : (k : Int) < (n : Int) := by omega
    clear hgh hgb hnc hcm hsz htk hs9
    go_wp2_with fail
    go_ret
    refine ⟨_, rfl, ?_, HFG.out⟩
    unfold putRO
    rw [if_pos rfl, List.length_set, hl]
    exact HFO.out
  | false =>
    obtain ⟨w3, hw3⟩ : ∃ w3, w3 = w2.alloc (.cells #[.int .i64 x.1, .int .i64 x.2.1, .int .i64 x.2.2] 29) := ⟨_, rfl⟩
    have hb3 : Below w2.heap.size w2 w3 := by rw [hw3]; exact (Below.refl _ _).alloc (Nat.le_refl _) _
    have HIN := Lib.hid (ins_anyO (x := x) (own_below HO2.out hb3) hl hk hn (by have h1 := HB2.out.size; have h2 := hb3.size; have h3 := HBS.out; omega) (show w3.heap[w2.heap.size]? = some (.cells (OwnS.f x).toArray 29 (0, 0)) from by rw [hw3]; exact heap_alloc_new w2 _) (fun g e => by
      have := (HO2.out.lt g (by rw [e]; rfl)).2
      omega))
    have HB3 := Lib.hid (HB2.out.trans (hb3.mono HB2.out.size))
    have HW3 := Lib.hid hw3
    clear hw3 hb3
    go_wp2_with fail
    rw [← HW3.out]
    refine HIN.out.mono ?_
    rintro e w4 ⟨v', rfl, ho4, hg4⟩
    have HO4 := Lib.hid ho4
    have HG4 := Lib.hid hg4
    obtain ⟨a', c', rfl⟩ := own_slice9A ho4
    clear ho4 hg4
    go_wp2_with fail
    go_ret
    refine ⟨_, rfl, ?_, ?_⟩
    · unfold putRO
      rw [if_neg (by decide), List.length_append, List.length_cons, List.length_take, List.length_drop, hl, show min k n + (n - k + 1) = n + 1 by omega]
      exact HO4.out
    · have e1 := HB3.out
      have e2 := HG4.out
      exact ⟨e2.os.trans e1.os, e2.tape.trans e1.tape, e2.output.trans e1.output, Nat.le_trans e1.size e2.size, fun q hq hne => (e2.block q (by have := e1.size; omega) hne).trans (e1.block q hq)⟩

end Go.Proofs.YtadfmenlpnibnaaGreat
end PkMS8_0
section PkMS8_1
/- look among owners, of any. Out of genmfb.py's own text (its loop over 'M', 'E', with 'O'). -/
namespace Go.Proofs.YtadfmenlpnibnaaGreat
open Go.RowKit LabPlain
set_option linter.unusedVariables false

/-- what look answers -/
def LkO (l : List (Int × Int × Int)) (y0 : Int) (e : Ending) : Prop := e = .returned (.tuple #[.agg (OwnS.f ((l.find? fun x => decide (x.1 = y0)).getD OwnS.z)).toArray, .bool (l.find? fun x => decide (x.1 = y0)).isSome])
set_option maxRecDepth 100000 in
set_option maxHeartbeats 4000000 in
theorem lookO_any {w : World} {a : Option Addr} {n c : Nat} {l : List (Int × Int × Int)} (h : VecAt OwnS w a n c l) (y0 : Int) (y1 : Int) (y2 : Int) :
    Calls Tryz.prog 56 #[.slice a n c, .agg #[.int .i64 y0, .int .i64 y1, .int .i64 y2], .func (.func 34) #[] #[]] w fun e w' => LkO l y0 e ∧ Below w.heap.size w w' := by
  have hcap := h.cap
  have hcm := h.capm
  have HH := Lib.hid h
  have HL := Lib.hid h.len
  obtain ⟨wa, hwa⟩ : ∃ wa, wa = w.alloc (.cells #[.int .i64 y0, .int .i64 y1, .int .i64 y2] 29) := ⟨_, rfl⟩
  obtain ⟨wb, hwb⟩ : ∃ wb, wb = wa.alloc (.cells #[.int .i64 0, .int .i64 0, .int .i64 0] 29) := ⟨_, rfl⟩
  have sa : wa.heap.size = w.heap.size + 1 := by rw [hwa]; exact Array.size_push _
  have sb : wb.heap.size = w.heap.size + 2 := by rw [hwb]; show (wa.heap.push _).size = _; rw [Array.size_push, sa]
  have ba : Below w.heap.size w wa := by rw [hwa]; exact (Below.refl _ _).alloc (Nat.le_refl _) _
  have bb : Below w.heap.size w wb := by rw [hwb]; exact ba.alloc ba.size _
  have gb : wb.heap[w.heap.size + 1]? = some (.cells #[.int .i64 0, .int .i64 0, .int .i64 0] 29 (0, 0)) := by rw [hwb, ← sa]; exact heap_alloc_new _ _
  have ga : wb.heap[w.heap.size]? = some (.cells #[.int .i64 y0, .int .i64 y1, .int .i64 y2] 29 (0, 0)) := by rw [hwb, hao9 _ _ _ (by omega), hwa]; exact heap_alloc_new _ _
  have HBB := Lib.hid bb
  have HGB := Lib.hid gb
  have HC4 := Lib.hid (show ∀ i u, (#[.int .i64 y0, .int .i64 y1, .int .i64 y2] : Array Value)[i]? = some u → wb.cell? ⟨w.heap.size, i, none⟩ = some u from fun i u hu => cell_blk ga hu)
  have HL4 := Lib.hid (show w.heap.size < wb.heap.size by omega)
  have HSB := Lib.hid sb
  have HWB := Lib.hid (show wb = (w.alloc (.cells #[.int .i64 y0, .int .i64 y1, .int .i64 y2] 29)).alloc (.cells #[.int .i64 0, .int .i64 0, .int .i64 0] 29) by rw [hwb, hwa])
  clear h hwa hwb sa sb ba bb gb ga
  go_enter Tryz.func56, Tryz.ntmps56
  go_wp2_with fail
  rw [← HWB.out]
  go_loopw [9, 13] (fun s9 s13 wr => ∃ k : Nat, k ≤ n ∧ s13 = .int .i64 (k : Int) ∧ Hid (∀ j, j < k → (fun x => decide (x.1 = y0)) (l.getD j OwnS.z) = false) ∧ Hid (Below wb.heap.size wb wr)) (fun _ s13 _ => n - (intOf s13).toNat)
  case atStart => exact ⟨0, by omega, rfl, Lib.hid (fun j hj => by omega), Lib.hid (Below.refl _ _)⟩
  case round =>
    obtain ⟨k, hk, rfl, HN, HB⟩ := hrel
    rename World => wr
    have hl4 : w.heap.size < wr.heap.size := Nat.lt_of_lt_of_le HL4.out HB.out.size
    have q0 : wr.cell? ⟨w.heap.size, 0, none⟩ = some (.int .i64 y0) := (HB.out.cell (p := ⟨w.heap.size, 0, none⟩) HL4.out).trans (HC4.out 0 _ rfl)
    have q1 : wr.cell? ⟨w.heap.size, 1, none⟩ = some (.int .i64 y1) := (HB.out.cell (p := ⟨w.heap.size, 1, none⟩) HL4.out).trans (HC4.out 1 _ rfl)
    have q2 : wr.cell? ⟨w.heap.size, 2, none⟩ = some (.int .i64 y2) := (HB.out.cell (p := ⟨w.heap.size, 2, none⟩) HL4.out).trans (HC4.out 2 _ rfl)
    by_cases hkn : k < n
    · have hki : (k : Int) < (n : Int) := by omega
      obtain ⟨sb, so, rfl, hsl, _, hsc9⟩ := (HH.out.kept (HBB.out.trans (HB.out.mono HBB.out.size))).get hkn
      obtain ⟨s, hse⟩ : ∃ s, s = l.getD k OwnS.z := ⟨_, rfl⟩
      rw [← hse] at hsc9
      have HSE := Lib.hid hse
      obtain ⟨x0, x1, x2⟩ := s
      have d0 : wr.cell? ⟨sb, so + k * 3, none⟩ = some (.int .i64 x0) := hsc9 0 _ rfl
      have d1 : wr.cell? ⟨sb, so + k * 3 + 1, none⟩ = some (.int .i64 x1) := hsc9 1 _ rfl
      have d2 : wr.cell? ⟨sb, so + k * 3 + 2, none⟩ = some (.int .i64 x2) := hsc9 2 _ rfl
      have HAL := Lib.hid (show Below wb.heap.size wb (wr.alloc (.cells #[.int .i64 x0, .int .i64 x1, .int .i64 x2] 29)) from HB.out.alloc HB.out.size _)
      have HXA := Lib.hid (heap_alloc_new wr (.cells #[.int .i64 x0, .int .i64 x1, .int .i64 x2] 29))
      have HCM := Lib.hid (byO_any x0 y0 x1 y1 x2 y2 (wr.alloc (.cells #[.int .i64 x0, .int .i64 x1, .int .i64 x2] 29)))
      clear hsc9 hse hsl
      go_wp2_with fail
      refine HCM.out.mono ?_
      rintro e w3 ⟨rfl, hb3⟩
      have HB3 := Lib.hid (HAL.out.trans (hb3.mono HAL.out.size))
      have HX3 := Lib.hid ((hb3.block wr.heap.size (by have := (Array.getElem?_eq_some_iff.1 HXA.out).1; exact this)).trans HXA.out)
      clear hb3
      by_cases hxy : x0 = y0
      · have hz : cmp3 x0 y0 = 0 := cmp3_0.2 hxy
        have HR3 := Lib.hid ((HB3.out.block (w.heap.size + 1) (by have := HSB.out; omega)).trans HGB.out)
        have HF := Lib.hid (show l.find? (fun x => decide (x.1 = y0)) = some ⟨x0, x1, x2⟩ from by
          rw [HSE.out]
          exact find_at _ OwnS.z l k (by rw [HL.out]; exact hkn) HN.out (by rw [← HSE.out]; exact decide_eq_true hxy))
        have e0 : w3.cell? ⟨wr.heap.size, 0, none⟩ = some (.int .i64 x0) := cell_blk HX3.out rfl
        have e1 : w3.cell? ⟨wr.heap.size, 1, none⟩ = some (.int .i64 x1) := cell_blk HX3.out rfl
        have e2 : w3.cell? ⟨wr.heap.size, 2, none⟩ = some (.int .i64 x2) := cell_blk HX3.out rfl
        have r0 : w3.cell? ⟨w.heap.size + 1, 0, none⟩ = some (.int .i64 0) := cell_blk HR3.out rfl
        have r1 : w3.cell? ⟨w.heap.size + 1, 1, none⟩ = some (.int .i64 0) := cell_blk HR3.out rfl
        have r2 : w3.cell? ⟨w.heap.size + 1, 2, none⟩ = some (.int .i64 0) := cell_blk HR3.out rfl
        have f0 : w3.frozen? ⟨w.heap.size + 1, 0, none⟩ = false := fro_blk HR3.out 0
        have f1 : w3.frozen? ⟨w.heap.size + 1, 1, none⟩ = false := fro_blk HR3.out 1
        have f2 : w3.frozen? ⟨w.heap.size + 1, 2, none⟩ = false := fro_blk HR3.out 2
        clear hxy
        go_wp2_with fail
        refine bodyPost_ret (ret_cell_tmp rfl _ _ (w.heap.size + 1) 29 #[.int .i64 x0, .int .i64 x1, .int .i64 x2] _ _ rfl (setO HR3.out x0 x1 x2) Tryz.underlying29 rfl (by kernel_rfl)) rfl ?_
        refine ⟨?_, HBB.out.trans (belowO (HB3.out.mono HBB.out.size) (by omega) x0 x1 x2)⟩
        unfold LkO
        rw [HF.out]
        rfl
      · have hz : ((cmp3 x0 y0) == 0) = false := by rw [beq_eq_false_iff_ne]; exact fun e => hxy (cmp3_0.1 e)
        have HN2 := Lib.hid (show ∀ j, j < k + 1 → (fun x => decide (x.1 = y0)) (l.getD j OwnS.z) = false from fun j hj => by
          rcases Nat.lt_or_ge j k with g | g
          · exact HN.out j g
          · rw [show j = k from by omega, ← HSE.out]; exact decide_eq_false hxy)
        clear hxy
        go_wp2_with fail
        go_roundw
        case rel => exact ⟨k + 1, by omega, by go_num, HN2, HB3⟩
        case measure => simp [intOf]; omega
    · obtain rfl : n = k := by omega
      have HRN0 := Lib.hid ((HB.out.block (w.heap.size + 1) (by have := HSB.out; omega)).trans HGB.out)
      have HF := Lib.hid (show l.find? (fun x => decide (x.1 = y0)) = none from find_no _ OwnS.z l (by rw [HL.out]; exact HN.out))
      have hl5 : w.heap.size + 1 < wr.heap.size := by have := HSB.out; have := HB.out.size; omega
      have r0 : wr.cell? ⟨w.heap.size + 1, 0, none⟩ = some (.int .i64 0) := cell_blk HRN0.out rfl
      have r1 : wr.cell? ⟨w.heap.size + 1, 1, none⟩ = some (.int .i64 0) := cell_blk HRN0.out rfl
      have r2 : wr.cell? ⟨w.heap.size + 1, 2, none⟩ = some (.int .i64 0) := cell_blk HRN0.out rfl
      have f0 : wr.frozen? ⟨w.heap.size + 1, 0, none⟩ = false := fro_blk HRN0.out 0
      have f1 : wr.frozen? ⟨w.heap.size + 1, 1, none⟩ = false := fro_blk HRN0.out 1
      have f2 : wr.frozen? ⟨w.heap.size + 1, 2, none⟩ = false := fro_blk HRN0.out 2
      clear hkn
      go_wp2_with fail
      refine bodyPost_ret (ret_cell_tmp rfl _ _ (w.heap.size + 1) 29 #[.int .i64 0, .int .i64 0, .int .i64 0] _ _ rfl ((hao9 _ _ _ (by simpa using hl5)).trans (setO HRN0.out 0 0 0)) Tryz.underlying29 rfl (by kernel_rfl)) rfl ?_
      refine ⟨?_, HBB.out.trans ((belowO (HB.out.mono HBB.out.size) (by omega) 0 0 0).alloc (by simp; have := HB.out.size; have := HBB.out.size; omega) _)⟩
      unfold LkO
      rw [HF.out]
      rfl

end Go.Proofs.YtadfmenlpnibnaaGreat
end PkMS8_1
section PkMS8_2
/- Mark of any manifest. Out of XMfF (genmfe.py). -/
namespace Go.Proofs.YtadfmenlpnibnaaGreat
open Go.RowKit LabPlain
set_option linter.unusedVariables false

set_option maxRecDepth 100000 in
set_option maxHeartbeats 4000000 in
theorem mark_any {w : World} {s d hz : Int} {ea ma oa : Option Addr} {en ec mn mc on oc : Nat} {l : List (Int × Int)} (h : VecAt MarkS w ma mn mc l) (x : Int) :
    Calls Tryz.prog 16 #[.agg #[.int .i64 s, .int .i64 d, .int .i64 hz, .slice ea en ec, .slice ma mn mc, .slice oa on oc], .int .i64 x] w fun e w' => e = .returned (.int .i64 ((l.find? fun y => decide (y.1 = x)).getD (0, 0)).2) ∧ Below w.heap.size w w' := by
  obtain ⟨wa, hwa⟩ : ∃ wa, wa = w.alloc (.cells #[.int .i64 s, .int .i64 d, .int .i64 hz, .slice ea en ec, .slice ma mn mc, .slice oa on oc] 26) := ⟨_, rfl⟩
  have ba : Below w.heap.size w wa := by rw [hwa]; exact (Below.refl _ _).alloc (Nat.le_refl _) _
  have ga : wa.heap[w.heap.size]? = some (.cells #[.int .i64 s, .int .i64 d, .int .i64 hz, .slice ea en ec, .slice ma mn mc, .slice oa on oc] 26 (0, 0)) := by rw [hwa]; exact heap_alloc_new _ _
  have HLK := Lib.hid (lookM_any (h.kept ba) x 0)
  have HBA := Lib.hid ba
  have HWA := Lib.hid hwa
  have c4 : wa.cell? ⟨w.heap.size, 4, none⟩ = some (.slice ma mn mc) := cell_blk ga rfl
  clear hwa ba ga h
  go_enter Tryz.func16, Tryz.ntmps16
  go_wp2_with fail
  rw [← HWA.out]
  refine HLK.out.mono ?_
  rintro e w1 ⟨hl, hb⟩
  obtain ⟨r, hr⟩ : ∃ r, r = (l.find? fun y => decide (y.1 = x)).getD (0, 0) := ⟨_, rfl⟩
  obtain ⟨fd, hfd⟩ : ∃ fd, fd = (l.find? fun y => decide (y.1 = x)).isSome := ⟨_, rfl⟩
  obtain rfl : e = .returned (.tuple #[.agg #[.int .i64 r.1, .int .i64 r.2], .bool fd]) := by rw [hr, hfd]; exact hl
  have HR := Lib.hid hr
  have HB := Lib.hid (HBA.out.trans (hb.mono HBA.out.size))
  clear hb hr hfd hl
  obtain ⟨r1, r2⟩ := r
  go_wp2_with fail
  go_ret
  exact ⟨by rw [← HR.out]; rfl, HB.out.alloc HB.out.size _⟩
end Go.Proofs.YtadfmenlpnibnaaGreat
end PkMS8_2
section PkMS8_3
/- Is an edit outdated; of any manifest and any edit. Written by genapo.py. -/
namespace Go.Proofs.YtadfmenlpnibnaaGreat
open Go.RowKit LabPlain
set_option linter.unusedVariables false

/-- an agent's life or count that the edit's is behind -/
def verB (lo : List (Int × Int × Int)) (y0 y1 y2 : Int) : Bool := match lo.find? (fun x => decide (x.1 = y0)) with | some o => decide (y1 < o.2.1) || (decide (o.2.1 = y1) && decide (y2 ≤ o.2.2)) | none => false
def dupB (lm dm : List (Int × Int)) : Bool := dm.any fun x => decide (x.2 ≤ markV lm x.1)
def outE (lo : List (Int × Int × Int)) (lm dm : List (Int × Int)) (y0 y1 y2 : Int) : Int := if verB lo y0 y1 y2 = true then 8 else if dupB lm dm = true then 12 else 0
set_option maxRecDepth 100000 in
set_option maxHeartbeats 4000000 in
theorem outdated_any {w : World} {gen cut fen cut' fen' y0 y1 y2 : Int} {ea ma oa aa da ka : Option Addr} {en ec mn mc on oc an ac dn dc kn kc : Nat} {lm dm : List (Int × Int)} {lo : List (Int × Int × Int)} (hM : VecAt MarkS w ma mn mc lm) (hO : VecAt OwnS w oa on oc lo) (hD : VecAt MarkS w ka kn kc dm) :
    Calls Tryz.prog 22 #[.agg #[.int .i64 gen, .int .i64 cut, .int .i64 fen, .slice ea en ec, .slice ma mn mc, .slice oa on oc], .agg #[.slice aa an ac, .slice da dn dc, .slice ka kn kc, .int .i64 cut', .int .i64 fen', .int .i64 y0, .int .i64 y1, .int .i64 y2]] w fun e w' => e = .returned (.int .i64 (outE lo lm dm y0 y1 y2)) ∧ Below w.heap.size w w' := by
  obtain ⟨w1, hw1⟩ : ∃ w1, w1 = w.alloc (.cells #[.int .i64 gen, .int .i64 cut, .int .i64 fen, .slice ea en ec, .slice ma mn mc, .slice oa on oc] 26) := ⟨_, rfl⟩
  obtain ⟨w2, hw2⟩ : ∃ w2, w2 = w1.alloc (.cells #[.slice aa an ac, .slice da dn dc, .slice ka kn kc, .int .i64 cut', .int .i64 fen', .int .i64 y0, .int .i64 y1, .int .i64 y2] 31) := ⟨_, rfl⟩
  obtain ⟨bm, hbm⟩ : ∃ bm, bm = w.heap.size := ⟨_, rfl⟩
  obtain ⟨bd, hbd⟩ : ∃ bd, bd = w.heap.size + 1 := ⟨_, rfl⟩
  have hs1 : w1.heap.size = w.heap.size + 1 := by rw [hw1]; exact Array.size_push _
  have hb1 : Below w.heap.size w w1 := by rw [hw1]; exact (Below.refl _ _).alloc (Nat.le_refl _) _
  have hb2 : Below w1.heap.size w1 w2 := by rw [hw2]; exact (Below.refl _ _).alloc (Nat.le_refl _) _
  have hm1 : w1.heap[bm]? = some (.cells #[.int .i64 gen, .int .i64 cut, .int .i64 fen, .slice ea en ec, .slice ma mn mc, .slice oa on oc] 26 (0, 0)) := by rw [hw1, hbm]; exact heap_alloc_new w _
  have HD2 := Lib.hid (show w2.heap[bd]? = some (.cells #[.slice aa an ac, .slice da dn dc, .slice ka kn kc, .int .i64 cut', .int .i64 fen', .int .i64 y0, .int .i64 y1, .int .i64 y2] 31 (0, 0)) from by rw [hw2, hbd, ← hs1]; exact heap_alloc_new w1 _)
  have HM2 := Lib.hid ((hb2.block bm (Array.getElem?_eq_some_iff.1 hm1).1).trans hm1)
  have hb12 := hb1.trans (hb2.mono hb1.size)
  have HB := Lib.hid hb12
  have HLO := Lib.hid (hO.kept hb12)
  have HLM := Lib.hid (hM.kept hb12)
  have HLD := Lib.hid (hD.kept hb12)
  have HW1 := Lib.hid hw1
  have HW2 := Lib.hid hw2
  have HBM := Lib.hid hbm
  have HBD := Lib.hid hbd
  have HLK := Lib.hid (lookO_any (hO.kept hb12) y0 y1 y2)
  clear hb1 hb2 hm1 hb12 hM hO hD hw1 hw2 hbm hbd hs1
  have c5 := cell_blk HM2.out (i := 5) (u := .slice oa on oc) rfl
  have d5 := cell_blk HD2.out (i := 5) (u := .int .i64 y0) rfl
  have d6 := cell_blk HD2.out (i := 6) (u := .int .i64 y1) rfl
  have d7 := cell_blk HD2.out (i := 7) (u := .int .i64 y2) rfl
  go_enter Tryz.func22, Tryz.ntmps22
  go_upto_region 1 with fail
  rw [← HW1.out, ← HW2.out, ← HBD.out, ← HBM.out]
  go_wp2_with fail
  refine HLK.out.mono ?_
  rintro e w3 ⟨hlk, hb3⟩
  obtain ⟨fd, hfd⟩ : ∃ fd, fd = (lo.find? fun x => decide (x.1 = y0)).isSome := ⟨_, rfl⟩
  obtain ⟨r, hr⟩ : ∃ r, r = (lo.find? fun x => decide (x.1 = y0)).getD OwnS.z := ⟨_, rfl⟩
  have HV := Lib.hid (show verB lo y0 y1 y2 = (fd && (decide (y1 < r.2.1) || (decide (r.2.1 = y1) && decide (y2 ≤ r.2.2)))) from by
    unfold verB
    rw [hfd, hr]
    cases lo.find? fun x => decide (x.1 = y0) <;> simp)
  obtain ⟨r0, r1, r2⟩ := r
  obtain rfl : e = .returned (.tuple #[.agg #[.int .i64 r0, .int .i64 r1, .int .i64 r2], .bool fd]) := by unfold LkO at hlk; rw [hlk, hfd, ← hr]; rfl
  obtain ⟨w4, hw4⟩ : ∃ w4, w4 = w3.alloc (.cells #[.int .i64 r0, .int .i64 r1, .int .i64 r2] 29) := ⟨_, rfl⟩
  obtain ⟨br, hbr⟩ : ∃ br, br = w3.heap.size := ⟨_, rfl⟩
  have hb4 : Below w3.heap.size w3 w4 := by rw [hw4]; exact (Below.refl _ _).alloc (Nat.le_refl _) _
  have hr4 : w4.heap[br]? = some (.cells #[.int .i64 r0, .int .i64 r1, .int .i64 r2] 29 (0, 0)) := by rw [hw4, hbr]; exact heap_alloc_new w3 _
  have hb24 := hb3.trans (hb4.mono hb3.size)
  have HB24 := Lib.hid hb24
  have HD4 := Lib.hid ((hb24.block bd (Array.getElem?_eq_some_iff.1 HD2.out).1).trans HD2.out)
  have HM4 := Lib.hid ((hb24.block bm (Array.getElem?_eq_some_iff.1 HM2.out).1).trans HM2.out)
  have HB4 := Lib.hid (HB.out.trans (hb24.mono HB.out.size))
  have HW4 := Lib.hid hw4
  have HBR := Lib.hid hbr
  have HR4 := Lib.hid hr4
  have HLM4 := Lib.hid (HLM.out.kept hb24)
  have HLD4 := Lib.hid (HLD.out.kept hb24)
  clear hlk hfd hr hb3 hw4 hbr hb4 hr4 hb24 c5 d5 d6 d7
  go_upto_region 2 with fail
  rw [← HW4.out, ← HBR.out]
  have r1c := cell_blk HR4.out (i := 1) (u := .int .i64 r1) rfl
  have r2c := cell_blk HR4.out (i := 2) (u := .int .i64 r2) rfl
  have d6 := cell_blk HD4.out (i := 6) (u := .int .i64 y1) rfl
  have d7 := cell_blk HD4.out (i := 7) (u := .int .i64 y2) rfl
  cases hvb : verB lo y0 y1 y2 with
  | true =>
    have HE := Lib.hid (show outE lo lm dm y0 y1 y2 = 8 from by unfold outE; rw [if_pos hvb])
    have h9 := HV.out
    rw [hvb] at h9
    cases fd with
    | false => cases h9
    | true =>
      rw [Bool.true_and] at h9
      by_cases g1 : y1 < r1
      · have g2 : decide (y1 < r1) = true := decide_eq_true g1
        clear h9 hvb
        go_wp2_with fail
        go_ret
        exact ⟨by rw [HE.out]; rfl, HB4.out⟩
      · rw [decide_eq_false g1, Bool.false_or, eq_comm, Bool.and_eq_true, decide_eq_true_eq, decide_eq_true_eq] at h9
        obtain ⟨g3, g4⟩ := h9
        have g5 : (r1 == y1) = true := by simp [g3]
        have g6 : decide (y2 ≤ r2) = true := decide_eq_true g4
        have g7 : ¬ (y1 < r1) := g1
        clear hvb g3
        go_wp2_with fail
        go_ret
        exact ⟨by rw [HE.out]; rfl, HB4.out⟩
  | false =>
    have HE := Lib.hid (show outE lo lm dm y0 y1 y2 = if dupB lm dm = true then 12 else 0 from by unfold outE; rw [if_neg (by rw [hvb]; decide)])
    have hvf : (fd && (decide (y1 < r1) || (decide (r1 = y1) && decide (y2 ≤ r2)))) = false := by rw [← HV.out]; exact hvb
    have HLE := Lib.hid HLD4.out.len
    go_cut [41] from 10 to 56 (fun s41 wc => s41 = .bool false ∧ w4 = wc)
    case first =>
      cases fd with
      | false =>
        go_wp2_with fail
        go_meet
        case rel => exact ⟨rfl, rfl⟩
      | true =>
        rw [Bool.true_and, Bool.or_eq_false_iff] at hvf
        obtain ⟨g1, g2⟩ := hvf
        have g3 : ¬ y1 < r1 := of_decide_eq_false g1
        by_cases g4 : r1 = y1
        · rw [decide_eq_true g4, Bool.true_and] at g2
          have g5 : (r1 == y1) = true := by simp [g4]
          have g6 : ¬ y2 ≤ r2 := of_decide_eq_false g2
          clear g4 hvb
          go_wp2_with fail
          go_meet
          case rel => exact ⟨rfl, rfl⟩
        · have g5 : (r1 == y1) = false := by simp [g4]
          clear g4 g2 hvb
          go_wp2_with fail
          go_meet
          case rel => exact ⟨rfl, rfl⟩
    case rest =>
      obtain ⟨rfl, hwc⟩ := hcut
      rw [← hwc]
      clear hwc hvf hvb r1c r2c d6 d7
      have d2 := cell_blk HD4.out (i := 2) (u := .slice ka kn kc) rfl
      have hkc := HLD4.out.cap
      have hkm := HLD4.out.capm
      go_wp2_with fail
      go_loopw [8, 45] (fun s8 s45 wr => ∃ k : Nat, k ≤ kn ∧ s45 = .int .i64 (k : Int) ∧ Hid (∀ t, t < k → ¬ (dm.getD t MarkS.z).2 ≤ markV lm (dm.getD t MarkS.z).1) ∧ Hid (Below w4.heap.size w4 wr)) (fun _ s45 _ => kn - (intOf s45).toNat)
      case atStart => exact ⟨0, by omega, rfl, Lib.hid (fun t ht => by omega), Lib.hid (Below.refl _ _)⟩
      case round =>
        clear d2
        obtain ⟨k, hk, rfl, HN, HBW⟩ := hrel
        rename World => wr
        by_cases hkn : k < kn
        · have hki : (k : Int) < (kn : Int) := by omega
          have wS : IntKind.i64.wrap ((k : Int) + 1) = (k : Int) + 1 := IntWalk.i64_in _ (by omega)
          obtain ⟨gb, off, rfl, hgl, _, hgc⟩ := (HLD4.out.kept HBW.out).get hkn
          obtain ⟨x, hx⟩ : ∃ x, x = dm.getD k MarkS.z := ⟨_, rfl⟩
          rw [← hx] at hgc
          have HX := Lib.hid hx
          obtain ⟨x0, x1⟩ := x
          have e0 : wr.cell? ⟨gb, off + k * 2, none⟩ = some (.int .i64 x0) := hgc 0 _ rfl
          have e1 : wr.cell? ⟨gb, off + k * 2 + 1, none⟩ = some (.int .i64 x1) := hgc 1 _ rfl
          obtain ⟨w5, hw5⟩ : ∃ w5, w5 = wr.alloc (.cells #[.int .i64 x0, .int .i64 x1] 44) := ⟨_, rfl⟩
          obtain ⟨bk, hbk⟩ : ∃ bk, bk = wr.heap.size := ⟨_, rfl⟩
          have hb5 : Below wr.heap.size wr w5 := by rw [hw5]; exact (Below.refl _ _).alloc (Nat.le_refl _) _
          have HK5 := Lib.hid (show w5.heap[bk]? = some (.cells #[.int .i64 x0, .int .i64 x1] 44 (0, 0)) from by rw [hw5, hbk]; exact heap_alloc_new wr _)
          have hb45 := HBW.out.trans (hb5.mono HBW.out.size)
          have HB45 := Lib.hid hb45
          have HM5 := Lib.hid ((hb45.block bm (Array.getElem?_eq_some_iff.1 HM4.out).1).trans HM4.out)
          have HMW := Lib.hid (fun (y : World) (h : Below w5.heap.size w5 y) => mark_any (s := gen) (d := cut) (hz := fen) (ea := ea) (en := en) (ec := ec) (oa := oa) (on := on) (oc := oc) ((HLM4.out.kept hb45).kept h) x0)
          obtain ⟨mv, hmv⟩ : ∃ mv, mv = markV lm x0 := ⟨_, rfl⟩
          have hmv2 : mv = ((lm.find? fun y => decide (y.1 = x0)).getD (0, 0)).2 := hmv
          rw [← hmv2] at HMW
          have HMV := Lib.hid hmv
          have HW5 := Lib.hid hw5
          have HBK := Lib.hid hbk
          clear hgc hgl hx hw5 hbk hb5 hb45 hmv hmv2
          go_upto_region 7 with fail
          rw [← HW5.out, ← HBK.out]
          obtain ⟨bz, hbz⟩ : ∃ bz, bz = decide (x1 ≤ mv) := ⟨_, rfl⟩
          have HBZ := Lib.hid hbz.symm
          have hbz2 : decide (x1 ≤ mv) = bz := hbz.symm
          clear hbz
          refine wp_region_chain2 (by kernel_rfl) (by kernel_rfl) (by kernel_rfl) [5] true (by kernel_rfl) (fun k _ y => match k with
              | 0 => Below w5.heap.size w5 y
              | _ => Below w5.heap.size w5 y) (fun y => Below w5.heap.size w5 y) (fun j_9 => match j_9 with | 0 => some (.pointer (some ⟨bk, 1, none⟩)) | 1 => some (.int .i64 x1) | 2 => some (.agg #[.int .i64 gen, .int .i64 cut, .int .i64 fen, .slice ea en ec, .slice ma mn mc, .slice oa on oc]) | 3 => some (.pointer (some ⟨bk, 0, none⟩)) | 4 => some (.int .i64 x0) | 5 => some (.int .i64 mv) | 6 => some (.bool bz) | _ => none) (by rfl) (fun _ => (Below.refl _ _).drew) (fun k u y hk9 hk hs => by
              match k, hk, hs with
              | 0, _, hs => exact hs
              | 1, _, hs => exact hs) ?_ ?_ ?_
          · intro i9 o ho hc9 V w9 K hR9 hdep hK
            have HR9 := Lib.hid hR9
            have x0c := cell_blk ((HR9.out.block bk (Array.getElem?_eq_some_iff.1 HK5.out).1).trans HK5.out) (i := 0) (u := .int .i64 x0) rfl
            have x1c := cell_blk ((HR9.out.block bk (Array.getElem?_eq_some_iff.1 HK5.out).1).trans HK5.out) (i := 1) (u := .int .i64 x1) rfl
            have m0 := cell_blk ((HR9.out.block bm (Array.getElem?_eq_some_iff.1 HM5.out).1).trans HM5.out) (i := 0) (u := .int .i64 gen) rfl
            have m1 := cell_blk ((HR9.out.block bm (Array.getElem?_eq_some_iff.1 HM5.out).1).trans HM5.out) (i := 1) (u := .int .i64 cut) rfl
            have m2 := cell_blk ((HR9.out.block bm (Array.getElem?_eq_some_iff.1 HM5.out).1).trans HM5.out) (i := 2) (u := .int .i64 fen) rfl
            have m3 := cell_blk ((HR9.out.block bm (Array.getElem?_eq_some_iff.1 HM5.out).1).trans HM5.out) (i := 3) (u := .slice ea en ec) rfl
            have m4 := cell_blk ((HR9.out.block bm (Array.getElem?_eq_some_iff.1 HM5.out).1).trans HM5.out) (i := 4) (u := .slice ma mn mc) rfl
            have m5 := cell_blk ((HR9.out.block bm (Array.getElem?_eq_some_iff.1 HM5.out).1).trans HM5.out) (i := 5) (u := .slice oa on oc) rfl
            clear hR9
            have hin9 : i9 < 7 := (Array.getElem?_eq_some_iff.1 ho).1
            have hcs : i9 = 0 ∨ i9 = 1 ∨ i9 = 2 ∨ i9 = 3 ∨ i9 = 4 ∨ i9 = 5 ∨ i9 = 6 := by omega
            clear hin9
            rcases hcs with rfl | rfl | rfl | rfl | rfl | rfl | rfl
            all_goals first
              | (cases hc9; done)
              | (obtain rfl := Option.some.inj ho.symm
                 simp [KnB, Region.binds] at hdep
                 clear ho hc9
                 simp only [fill, slotOf, List.size_toArray, List.length_cons, List.length_nil, Nat.reduceAdd, List.getElem?_toArray, List.getElem?_cons_zero, List.getElem?_cons_succ, Option.bind_some, Act.put, List.setIfInBounds_toArray, List.set_cons_zero, List.set_cons_succ] at hK ⊢
                 try simp only [hdep] at hK ⊢
                 go_simp
                 exact hK _ rfl _ rfl)
          · intro i9 j9 o he9 ho V w9 K hS9 hdep hK
            have hin9 : i9 < 1 := (List.getElem?_eq_some_iff.1 he9).1
            obtain rfl : i9 = 0 := by omega
            all_goals
              obtain rfl := Option.some.inj he9.symm
              obtain rfl := Option.some.inj ho.symm
              simp [KnB, Region.binds] at hdep
              clear ho he9
              simp only [fill, slotOf, List.size_toArray, List.length_cons, List.length_nil, Nat.reduceAdd, List.getElem?_toArray, List.getElem?_cons_zero, List.getElem?_cons_succ, Option.bind_some, Act.put, List.setIfInBounds_toArray, List.set_cons_zero, List.set_cons_succ] at hK ⊢
              try simp only [hdep] at hK ⊢
            · have HJ := Lib.hid hS9
              clear hS9
              have HMC := Lib.hid (HMW.out w9 HJ.out)
              go_simp
              refine HMC.out.mono ?_
              rintro e w8 ⟨rfl, hb8⟩
              exact hK _ w8 (HJ.out.trans (hb8.mono HJ.out.size)) (fun y h => Option.some.inj h) _ rfl
          · intro V wN hS9 hv9
            have hbN : Below w5.heap.size w5 wN := hS9
            have h6 : V 6 = .bool bz := hv9 6 _ (by decide) rfl
            have HBN := Lib.hid (HB45.out.trans (hbN.mono HB45.out.size))
            clear hS9 hv9 hbN
            simp only [fill, slotOf, List.size_toArray, List.length_cons, List.length_nil, Nat.reduceAdd, List.getElem?_toArray, List.getElem?_cons_zero, List.getElem?_cons_succ, Option.bind_some, Act.put, List.setIfInBounds_toArray, List.set_cons_zero, List.set_cons_succ]
            rw [h6]
            clear h6
            cases bz with
            | true =>
              have HE2 := Lib.hid (show outE lo lm dm y0 y1 y2 = 12 from by
                rw [HE.out, if_pos]
                unfold dupB
                rw [List.any_eq_true]
                refine ⟨(x0, x1), ?_, ?_⟩
                · rw [HX.out]; exact vec_mem (S := MarkS) (by rw [HLE.out]; exact hkn)
                · rw [← HMV.out]; exact HBZ.out)
              have HBN2 := Lib.hid (HB4.out.trans (HBN.out.mono HB4.out.size))
              go_wp2_with fail
              go_ret
              exact ⟨by rw [HE2.out]; rfl, HBN2.out⟩
            | false =>
              have HN2 := Lib.hid (show ∀ t, t < k + 1 → ¬ (dm.getD t MarkS.z).2 ≤ markV lm (dm.getD t MarkS.z).1 from fun t ht => by
                rcases Nat.lt_or_ge t k with g | g
                · exact HN.out t g
                · obtain rfl : t = k := by omega
                  rw [← HX.out, ← HMV.out]
                  exact of_decide_eq_false HBZ.out)
              go_wp2_with fail
              go_roundw
              case rel => exact ⟨k + 1, by omega, by go_num, HN2, HBN⟩
              case measure => simp [intOf]; omega
        · obtain rfl : kn = k := by omega
          have hki : ¬ (kn : Int) < (kn : Int) := by omega
          have HE2 := Lib.hid (show outE lo lm dm y0 y1 y2 = 0 from by
            rw [HE.out, if_neg]
            rw [Bool.not_eq_true]
            unfold dupB
            rw [List.any_eq_false]
            intro x hx
            obtain ⟨t, ht, rfl⟩ := List.getElem_of_mem hx
            have h3 := HN.out t (by rw [← HLE.out]; exact ht)
            rw [List.getD_eq_getElem?_getD, List.getElem?_eq_getElem ht] at h3
            simpa using h3)
          have HBN := Lib.hid (HB4.out.trans (HBW.out.mono HB4.out.size))
          go_wp2_with fail
          go_ret
          exact ⟨by rw [HE2.out]; rfl, HBN.out⟩
end Go.Proofs.YtadfmenlpnibnaaGreat
end PkMS8_3
section PkMS8_4
/- Apply, plainly: what the calls leave, put together. -/
namespace Go.Proofs.YtadfmenlpnibnaaGreat
open Go.RowKit Go.Shelf LabPlain
set_option linter.unusedVariables false

/-! ### a rising row, one thing put in -/
section
variable {α : Type} (key : α → Int)
theorem place_of {l : List α} (hr : l.Pairwise fun a b => key a < key b) (y : Int) (d : α) : ∃ k, k ≤ l.length ∧ (∀ t, t < k → key (l.getD t d) < y) ∧ (∀ t, k ≤ t → t < l.length → y ≤ key (l.getD t d)) := by
  induction l with
  | nil => exact ⟨0, Nat.le_refl _, (fun t h => by omega), (fun t _ h => absurd h (Nat.not_lt_zero _))⟩
  | cons x r ih =>
    obtain ⟨h1, h2⟩ := List.pairwise_cons.1 hr
    by_cases hx : key x < y
    · obtain ⟨k, hk, g1, g2⟩ := ih h2
      refine ⟨k + 1, by simp; exact hk, fun t ht => ?_, fun t ht hl => ?_⟩
      · cases t with
        | zero => exact hx
        | succ t => exact g1 t (by omega)
      · cases t with
        | zero => omega
        | succ t => exact g2 t (by omega) (by simp at hl; exact hl)
    · refine ⟨0, Nat.zero_le _, (fun t h => by omega), fun t _ hl => ?_⟩
      cases t with
      | zero => show y ≤ key x; omega
      | succ t =>
        have hl2 : t < r.length := by simp at hl; exact hl
        have e : (x :: r).getD (t + 1) d = r[t] := by simp [hl2]
        rw [e]
        have := h1 _ (List.getElem_mem hl2)
        omega
def putG (l : List α) (k : Nat) (x : α) (fd : Bool) : List α := if fd = true then l.set k x else l.take k ++ x :: l.drop k
theorem getD_in {l : List α} {d : α} {t : Nat} (h : t < l.length) : l.getD t d = l[t] := by simp [h]
theorem put_rise {l : List α} (hr : l.Pairwise fun a b => key a < key b) (x d : α) {k : Nat} (hk : k ≤ l.length) (h1 : ∀ t, t < k → key (l.getD t d) < key x) (h2 : ∀ t, k ≤ t → t < l.length → key x ≤ key (l.getD t d)) :
    (putG l k x (decide (k < l.length) && decide (key (l.getD k d) = key x))).Pairwise (fun a b => key a < key b) ∧ ∀ z, z ∈ putG l k x (decide (k < l.length) && decide (key (l.getD k d) = key x)) ↔ (z = x ∨ (z ∈ l ∧ key z ≠ key x)) := by
  have hp := List.pairwise_iff_getElem.1 hr
  by_cases hf : k < l.length ∧ key (l.getD k d) = key x
  · have e : (decide (k < l.length) && decide (key (l.getD k d) = key x)) = true := by simp only [hf.1, hf.2]; simp
    rw [e]
    unfold putG
    rw [if_pos rfl]
    obtain ⟨hk1, he⟩ := hf
    rw [getD_in hk1] at he
    constructor
    · rw [List.pairwise_iff_getElem]
      intro i j hi hj hij
      rw [List.length_set] at hi hj
      rw [List.getElem_set, List.getElem_set]
      split
      · rename_i e1
        subst e1
        rw [if_neg (by omega), ← he]
        exact hp _ _ hk1 hj hij
      · split
        · rename_i _ e2
          subst e2
          rw [← he]
          exact hp _ _ hi hk1 hij
        · exact hp _ _ hi hj hij
    · intro z
      rw [List.mem_iff_getElem]
      constructor
      · rintro ⟨i, hi, rfl⟩
        rw [List.length_set] at hi
        rw [List.getElem_set]
        split
        · exact .inl rfl
        · rename_i hne
          refine .inr ⟨List.getElem_mem _, fun e2 => ?_⟩
          rw [← he] at e2
          rcases Nat.lt_trichotomy i k with g | g | g
          · have := hp _ _ hi hk1 g; omega
          · exact hne g.symm
          · have := hp _ _ hk1 hi g; omega
      · rintro (rfl | ⟨hz, hne⟩)
        · exact ⟨k, by rw [List.length_set]; exact hk1, by simp⟩
        · obtain ⟨i, hi, rfl⟩ := List.getElem_of_mem hz
          refine ⟨i, by rw [List.length_set]; exact hi, ?_⟩
          rw [List.getElem_set, if_neg (fun e2 => ?_)]
          subst e2
          exact hne he
  · have e : (decide (k < l.length) && decide (key (l.getD k d) = key x)) = false := by
      rw [Bool.eq_false_iff]
      intro g
      simp only [Bool.and_eq_true, decide_eq_true_eq] at g
      exact hf g
    rw [e]
    unfold putG
    rw [if_neg (by decide)]
    have hlow : ∀ z ∈ l.take k, key z < key x := fun z hz => by
      obtain ⟨i, hi, rfl⟩ := List.getElem_of_mem hz
      rw [List.length_take] at hi
      have := h1 i (by omega)
      rw [getD_in (by omega)] at this
      rw [List.getElem_take]
      exact this
    have hhigh : ∀ z ∈ l.drop k, key x < key z := fun z hz => by
      obtain ⟨i, hi, rfl⟩ := List.getElem_of_mem hz
      rw [List.length_drop] at hi
      rw [List.getElem_drop]
      have hkl : k < l.length := by omega
      have h3 := h2 (k + i) (by omega) (by omega)
      rw [getD_in (show k + i < l.length by omega)] at h3
      have h4 := h2 k (Nat.le_refl _) hkl
      have h5 : key (l.getD k d) ≠ key x := fun g => hf ⟨hkl, g⟩
      rw [getD_in hkl] at h4 h5
      rcases Nat.eq_zero_or_pos i with g | g
      · subst g
        simp only [Nat.add_zero]
        omega
      · have := hp k (k + i) hkl (by omega) (by omega)
        omega
    constructor
    · rw [List.pairwise_append, List.pairwise_cons]
      refine ⟨hr.sublist (List.take_sublist _ _), ⟨hhigh, hr.sublist (List.drop_sublist _ _)⟩, fun a ha b hb => ?_⟩
      rcases List.mem_cons.1 hb with rfl | hb
      · exact hlow a ha
      · have := hlow a ha
        have := hhigh b hb
        omega
    · intro z
      rw [List.mem_append, List.mem_cons]
      have hs : z ∈ l ↔ z ∈ l.take k ∨ z ∈ l.drop k := by rw [← List.mem_append, List.take_append_drop]
      constructor
      · rintro (h | rfl | h)
        · exact .inr ⟨hs.2 (.inl h), by have := hlow z h; omega⟩
        · exact .inl rfl
        · exact .inr ⟨hs.2 (.inr h), by have := hhigh z h; omega⟩
      · rintro (rfl | ⟨h, _⟩)
        · exact .inr (.inl rfl)
        · rcases hs.1 h with g | g
          · exact .inl g
          · exact .inr (.inr g)
end

/-! ### marks and owners -/
theorem marks_nil {l : List (Int × Int)} (h : l.Pairwise ltM) : MarksOk l [] l := by
  refine ⟨h, fun k s => ?_⟩
  show _ ↔ s = markV l k ∧ _
  constructor
  · intro hk
    refine ⟨?_, s, .inl hk⟩
    have h1 := markV_in (k := k) ⟨_, hk, rfl⟩
    obtain ⟨i, hi, ei⟩ := List.getElem_of_mem hk
    obtain ⟨j, hj, ej⟩ := List.getElem_of_mem h1
    have hp := List.pairwise_iff_getElem.1 h
    rcases Nat.lt_trichotomy i j with g | g | g
    · have := hp i j hi hj g
      rw [ei, ej] at this
      exact absurd this (Int.lt_irrefl _)
    · subst g
      rw [ei] at ej
      exact (Prod.mk.inj ej).2
    · have := hp j i hj hi g
      rw [ei, ej] at this
      exact absurd this (Int.lt_irrefl _)
  · rintro ⟨rfl, s', h1 | h1⟩
    · exact markV_in ⟨_, h1, rfl⟩
    · cases h1
theorem mark2_snoc (l r : List (Int × Int)) (x : Int × Int) (k : Int) : mark2 l (r ++ [x]) k = if x.1 = k then x.2 else mark2 l r k := by
  unfold mark2
  rw [List.foldl_append]
  rfl
theorem marks_snoc {l r o o' : List (Int × Int)} {x : Int × Int} (h : MarksOk l r o) (hr : o'.Pairwise ltM) (hm : ∀ z, z ∈ o' ↔ (z = x ∨ (z ∈ o ∧ z.1 ≠ x.1))) : MarksOk l (r ++ [x]) o' := by
  refine ⟨hr, fun k s => ?_⟩
  rw [hm, h.mem, mark2_snoc]
  constructor
  · rintro (e | ⟨⟨h1, s', h2⟩, h3⟩)
    · subst e
      exact ⟨by simp, s, .inr (by simp)⟩
    · refine ⟨by rw [if_neg (fun e => h3 e.symm)]; exact h1, s', ?_⟩
      rcases h2 with h2 | h2
      · exact .inl h2
      · exact .inr (by simp [h2])
  · rintro ⟨h1, s', h2⟩
    by_cases e : x.1 = k
    · rw [if_pos e] at h1
      exact .inl (by rw [h1, ← e])
    · rw [if_neg e] at h1
      refine .inr ⟨⟨h1, s', ?_⟩, fun g => e g.symm⟩
      rcases h2 with h2 | h2
      · exact .inl h2
      · rcases List.mem_append.1 h2 with h2 | h2
        · exact .inr h2
        · obtain rfl : (k, s') = x := by simpa using h2
          exact absurd rfl e
theorem owns_ok {l o' : List (Int × Int × Int)} {y : Int × Int × Int} (hr : o'.Pairwise ltO) (hm : ∀ z, z ∈ o' ↔ (z = y ∨ (z ∈ l ∧ z.1 ≠ y.1))) : OwnsOk l y o' :=
  ⟨hr, fun x => by rw [hm]; exact Or.comm⟩
/-- rising numbers between 1 and n are at most n -/
theorem rise_few {α : Type} (key : α → Int) (n : Nat) : ∀ {l : List α} (b : Int), l.Pairwise (fun a b => key a < key b) → (∀ x ∈ l, b ≤ key x ∧ key x ≤ (n : Int)) → b + (l.length : Int) ≤ (n : Int) + 1 ∨ l = []
  | [], _, _, _ => .inr rfl
  | x :: r, b, hr, hb => by
    left
    obtain ⟨h1, h2⟩ := List.pairwise_cons.1 hr
    have hx := hb x (by simp)
    rcases rise_few key n (l := r) (key x + 1) h2 (fun y hy => ⟨by have := h1 y hy; omega, (hb y (by simp [hy])).2⟩) with h | h
    · simp only [List.length_cons]; omega
    · subst h; simp; omega

/-! ### entries -/
theorem ins_mem {κ α : Type} {lit : κ → Lit} {x p : κ × α} : ∀ {l : List (κ × α)}, p ∈ insK lit x l ↔ p = x ∨ p ∈ l
  | [] => by simp [insK]
  | y :: r => by
    unfold insK
    split
    · simp
    · rw [List.mem_cons, ins_mem, List.mem_cons]
      constructor
      · rintro (h | h | h)
        · exact .inr (.inl h)
        · exact .inl h
        · exact .inr (.inr h)
      · rintro (h | h | h)
        · exact .inr (.inl h)
        · exact .inl h
        · exact .inr (.inr h)
theorem putE_mem {k : ByteArray} {a : EntV} {l : List (ByteArray × EntV)} {p : ByteArray × EntV} : p ∈ putK slit k a l ↔ p = (k, a) ∨ (p ∈ l ∧ p.1 ≠ k) := by
  unfold putK
  rw [ins_mem]
  unfold dropK
  rw [List.mem_filter, Bool.not_eq_true', Bool.eq_false_iff]
  exact or_congr Iff.rfl (and_congr Iff.rfl ⟨fun h e => h ((litS.iff _ _).2 e), fun h e => h ((litS.iff _ _).1 e)⟩)
/-- the added, put in one by one -/
def addK (ad : List EntV) (l : List (ByteArray × EntV)) : List (ByteArray × EntV) := ad.foldl (fun s x => putK slit x.key x s) l
theorem addK_snoc (ad : List EntV) (x : EntV) (l : List (ByteArray × EntV)) : addK (ad ++ [x]) l = putK slit x.key x (addK ad l) := by
  unfold addK
  rw [List.foldl_append]
  rfl
theorem addK_mem : ∀ {ad : List EntV} {l : List (ByteArray × EntV)} {p : ByteArray × EntV}, ad.Pairwise (fun a b => a.key ≠ b.key) → (p ∈ addK ad l ↔ (∃ x ∈ ad, p = (x.key, x)) ∨ (p ∈ l ∧ ∀ x ∈ ad, x.key ≠ p.1)) := by
  intro ad
  induction ad with
  | nil => intro l p _; unfold addK; simp
  | cons x r ih =>
    intro l p hp
    obtain ⟨h1, h2⟩ := List.pairwise_cons.1 hp
    show p ∈ addK r (putK slit x.key x l) ↔ _
    rw [ih h2, putE_mem]
    constructor
    · rintro (⟨y, hy, rfl⟩ | ⟨rfl | ⟨h3, h4⟩, h5⟩)
      · exact .inl ⟨y, by simp [hy], rfl⟩
      · exact .inl ⟨x, by simp, rfl⟩
      · refine .inr ⟨h3, fun y hy => ?_⟩
        rcases List.mem_cons.1 hy with rfl | hy
        · exact fun e => h4 e.symm
        · exact h5 y hy
    · rintro (⟨y, hy, rfl⟩ | ⟨h3, h4⟩)
      · rcases List.mem_cons.1 hy with rfl | hy
        · exact .inr ⟨.inl rfl, fun z hz e => h1 z hz e.symm⟩
        · exact .inl ⟨y, hy, rfl⟩
      · exact .inr ⟨.inr ⟨h3, fun e => h4 x (by simp) e.symm⟩, fun y hy => h4 y (by simp [hy])⟩
/-- what is left, the added, and what is below the cut gone -/
def endK (es : List EntV) (dr : List ByteArray) (ad : List EntV) (cut : Int) : List (ByteArray × EntV) := (addK ad (lessK dr (mapE es))).filter fun p => keepE cut p.2
theorem endK_mem {es : List EntV} {dr : List ByteArray} {ad : List EntV} {cut : Int} {p : ByteArray × EntV} (h1 : ad.Pairwise fun a b => a.key ≠ b.key) (hx : existB es dr ad = false) :
    p ∈ endK es dr ad cut ↔ p = (p.2.key, p.2) ∧ (p.2 ∈ ad ∨ (p.2 ∈ es ∧ p.2.key ∉ dr)) ∧ cut ≤ p.2.win := by
  unfold endK
  rw [List.mem_filter, addK_mem h1]
  have e1 : p ∈ lessK dr (mapE es) ↔ p = (p.2.key, p.2) ∧ p.2 ∈ es ∧ p.2.key ∉ dr := by
    unfold lessK mapE
    rw [List.mem_filter, List.mem_map]
    constructor
    · rintro ⟨⟨x, hx, rfl⟩, h3⟩
      refine ⟨rfl, hx, fun h4 => ?_⟩
      rw [inB_iff.2 h4] at h3
      cases h3
    · rintro ⟨h2, h3, h4⟩
      refine ⟨⟨p.2, h3, h2.symm⟩, ?_⟩
      rw [h2]
      show (!inB dr p.2.key) = true
      cases h5 : inB dr p.2.key with
      | false => rfl
      | true => exact absurd (inB_iff.1 h5) h4
  rw [e1]
  have e2 : ∀ x ∈ ad, p.2 ∈ es → p.2.key ∉ dr → x.key ≠ p.2.key := fun x hxa h3 h4 e => by
    have : existB es dr ad = true := by
      unfold existB
      rw [List.any_eq_true]
      refine ⟨x, hxa, ?_⟩
      rw [Bool.and_eq_true]
      constructor
      · unfold hasB
        rw [List.any_eq_true]
        exact ⟨p.2, h3, by simpa using e.symm⟩
      · cases h5 : inB dr x.key with
        | false => rfl
        | true => rw [e] at h5; exact absurd (inB_iff.1 h5) h4
    rw [hx] at this
    cases this
  have e3 : keepE cut p.2 = true ↔ cut ≤ p.2.win := by unfold keepE; simp
  rw [e3]
  constructor
  · rintro ⟨⟨x, hxa, rfl⟩ | ⟨⟨h2, h3⟩, _⟩, h5⟩
    · exact ⟨rfl, .inl hxa, h5⟩
    · exact ⟨h2, .inr h3, h5⟩
  · rintro ⟨h2, h3 | ⟨h3, h4⟩, h5⟩
    · exact ⟨.inl ⟨p.2, h3, h2⟩, h5⟩
    · refine ⟨.inr ⟨⟨h2, h3, h4⟩, fun x hxa => ?_⟩, h5⟩
      rw [h2]
      exact e2 x hxa h3 h4
theorem ents_ok {m : MaV} {d : EdV} {zs : List EntV} {K : List (ByteArray × EntV)} (h1 : d.add.Pairwise fun a b => a.key ≠ b.key) (hx : existB m.ents d.drop d.add = false) (hK : K.Perm (endK m.ents d.drop d.add (max m.cut d.cut)))
    (hap : (endK m.ents d.drop d.add (max m.cut d.cut)).Pairwise fun p q => slit p.1 ≠ slit q.1) (hz : zs.Perm (K.map (·.2))) (hs : SrtE zs) : EntsOk m d zs := by
  have hmem : ∀ x, x ∈ K.map (·.2) ↔ (x ∈ d.add ∨ (x ∈ m.ents ∧ x.key ∉ d.drop)) ∧ max m.cut d.cut ≤ x.win := fun x => by
    rw [List.mem_map]
    constructor
    · rintro ⟨p, hp, rfl⟩
      exact ((endK_mem h1 hx).1 (hK.mem_iff.1 hp)).2
    · intro h
      exact ⟨(x.key, x), hK.mem_iff.2 ((endK_mem h1 hx).2 ⟨rfl, h⟩), rfl⟩
  have hd : (K.map (·.2)).Pairwise fun a b => a.key ≠ b.key := by
    rw [List.pairwise_map]
    have h2 : K.Pairwise fun p q => slit p.1 ≠ slit q.1 := (hK.pairwise_iff (fun {a b} (h : slit a.1 ≠ slit b.1) => h.symm)).2 hap
    rw [List.pairwise_iff_getElem] at h2 ⊢
    intro i j hi hj hij e
    have a1 := ((endK_mem h1 hx).1 (hK.mem_iff.1 (List.getElem_mem hi))).1
    have a2 := ((endK_mem h1 hx).1 (hK.mem_iff.1 (List.getElem_mem hj))).1
    refine h2 i j hi hj hij ?_
    rw [a1, a2, e]
  exact ⟨(srtE_iff hs hz).2 hd, fun x => by rw [hz.mem_iff]; exact hmem x⟩
/-- there is such a list -/
theorem srt_some (l : List EntV) : ∃ zs : List EntV, zs.Perm l ∧ SrtE zs := by
  refine ⟨l.mergeSort fun a b => !ltB b.key a.key, List.mergeSort_perm _ _, ?_⟩
  refine (List.pairwise_mergeSort (fun a b c h1 h2 => ?_) (fun a b => ?_) l).imp fun {a b} h => by simpa using h
  · simp only [Bool.not_eq_true'] at *
    cases h3 : ltB c.key a.key with
    | false => rfl
    | true =>
      by_cases e : c.key = b.key
      · rw [e] at h3; rw [h3] at h1; cases h1
      · have h4 : ltB b.key c.key = true := by
          cases h5 : ltB b.key c.key with
          | true => rfl
          | false => exact absurd (ltB_total' h2 h5) e
        rw [ltB_trans h4 h3] at h1
        cases h1
  · simp only [Bool.or_eq_true, Bool.not_eq_true']
    cases h1 : ltB b.key a.key with
    | false => exact .inl rfl
    | true =>
      refine .inr ?_
      cases h2 : ltB a.key b.key with
      | false => rfl
      | true =>
        have := ltB_trans h1 h2
        rw [ltB_irr] at this
        cases this

/-! ### why an edit isn't made -/
theorem ver_iff {m : MaV} {d : EdV} {y0 y1 y2 : Int} (hy : d.by' = (y0, y1, y2)) (hr : m.owns.Pairwise ltO) : verB m.owns y0 y1 y2 = true ↔ isVer m d := by
  unfold verB isVer
  rw [hy]
  constructor
  · intro h
    cases hf : m.owns.find? fun x => decide (x.1 = y0) with
    | none => rw [hf] at h; cases h
    | some o =>
      rw [hf] at h
      refine ⟨o, List.mem_of_find?_eq_some hf, by simpa using List.find?_some hf, ?_⟩
      simpa using h
  · rintro ⟨x, hx, e, h⟩
    cases hf : m.owns.find? fun x => decide (x.1 = y0) with
    | none =>
      have := List.find?_eq_none.1 hf x hx
      simp at this
      exact absurd e this
    | some o =>
      have ho : o.1 = y0 := by simpa using List.find?_some hf
      have hm := List.mem_of_find?_eq_some hf
      have : o = x := by
        obtain ⟨i, hi, ei⟩ := List.getElem_of_mem hm
        obtain ⟨j, hj, ej⟩ := List.getElem_of_mem hx
        have hp := List.pairwise_iff_getElem.1 hr
        rcases Nat.lt_trichotomy i j with g | g | g
        · have := hp i j hi hj g
          rw [ei, ej] at this
          unfold ltO at this
          simp only at e
          omega
        · subst g; rw [← ei, ← ej]
        · have := hp j i hj hi g
          rw [ei, ej] at this
          unfold ltO at this
          simp only at e
          omega
      subst this
      simpa using h
theorem dup_iff {m : MaV} {d : EdV} : dupB m.marks d.marks = true ↔ isDup m d := by
  unfold dupB isDup
  rw [List.any_eq_true]
  simp
theorem has_iff {l : List EntV} {k : ByteArray} : hasB l k = true ↔ hasE l k := by
  unfold hasB hasE
  rw [List.any_eq_true]
  simp
theorem lost_iff {m : MaV} {d : EdV} : lostB m.ents d.drop = true ↔ isLost m d := by
  unfold lostB isLost
  rw [List.any_eq_true]
  refine exists_congr fun k => and_congr Iff.rfl ?_
  rw [← has_iff]
  cases hasB m.ents k <;> simp
theorem fence_iff {m : MaV} {d : EdV} : fenceB d.add m.fence d.fence = true ↔ isFence m d := by
  unfold fenceB isFence
  rw [List.any_eq_true]
  simp
theorem exist_iff {m : MaV} {d : EdV} : existB m.ents d.drop d.add = true ↔ isExist m d := by
  unfold existB isExist
  rw [List.any_eq_true]
  refine exists_congr fun x => and_congr Iff.rfl ?_
  rw [Bool.and_eq_true, has_iff]
  refine and_congr Iff.rfl ?_
  rw [← inB_iff]
  cases inB d.drop x.key <;> simp
theorem not_iff' {b : Bool} {p : Prop} (h : b = true ↔ p) (e : b = false) : ¬ p := fun g => by rw [h.2 g] at e; cases e
end Go.Proofs.YtadfmenlpnibnaaGreat
end PkMS8_4
