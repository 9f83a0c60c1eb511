/- Package prefix's fits and Make, walked. -/
import Derived.Test.YtnfdojdppifmoaaDoorPrefKit
namespace Go.Proofs.YtnfdojdppifmoaaDoor
open Go.RowKit PrefPlain
set_option linter.unusedVariables false

theorem lt16 (i : Nat) (h : i < 16) : i = 0 ∨ i = 1 ∨ i = 2 ∨ i = 3 ∨ i = 4 ∨ i = 5 ∨ i = 6 ∨ i = 7 ∨ i = 8 ∨ i = 9 ∨ i = 10 ∨ i = 11 ∨ i = 12 ∨ i = 13 ∨ i = 14 ∨ i = 15 := by omega

/-- a table's block: the lengths' slice, the first words, the symbols' slices, the greatest length -/
structure TabBlk (w : World) (B : Nat) (la : Value) (F : Nat → Nat) (V : Nat → Value) (mst : Nat) : Prop where
  blk : ∃ cs, w.heap[B]? = some (.cells cs 99 (0, 0)) ∧ cs.size = 34 ∧ cs[0]? = some la ∧ (∀ i, i < 16 → cs[1 + i]? = some (.int .u32 (F i : Int))) ∧ (∀ i, i < 16 → cs[17 + i]? = some (V i)) ∧ cs[33]? = some (.int .i64 (mst : Int))
section
variable {w : World} {B : Nat} {la : Value} {F : Nat → Nat} {V : Nat → Value} {mst : Nat}
theorem TabBlk.lt (h : TabBlk w B la F V mst) : B < w.heap.size := by
  obtain ⟨cs, hb, _⟩ := h.blk
  exact (Array.getElem?_eq_some_iff.1 hb).1
theorem TabBlk.c0 (h : TabBlk w B la F V mst) : w.cell? ⟨B, 0, none⟩ = some la := by
  obtain ⟨cs, hb, _, h0, _⟩ := h.blk
  rw [cell_of_row w B 0 _ _ (0, 0) hb]; exact h0
theorem TabBlk.cF (h : TabBlk w B la F V mst) (i : Nat) (hi : i < 16) : w.cell? ⟨B, 1 + i, none⟩ = some (.int .u32 (F i : Int)) := by
  obtain ⟨cs, hb, _, _, h1, _⟩ := h.blk
  rw [cell_of_row w B _ _ _ (0, 0) hb]; exact h1 i hi
theorem TabBlk.cV (h : TabBlk w B la F V mst) (i : Nat) (hi : i < 16) : w.cell? ⟨B, 17 + i, none⟩ = some (V i) := by
  obtain ⟨cs, hb, _, _, _, h1, _⟩ := h.blk
  rw [cell_of_row w B _ _ _ (0, 0) hb]; exact h1 i hi
theorem TabBlk.cM (h : TabBlk w B la F V mst) : w.cell? ⟨B, 33, none⟩ = some (.int .i64 (mst : Int)) := by
  obtain ⟨cs, hb, _, _, _, _, h1⟩ := h.blk
  rw [cell_of_row w B _ _ _ (0, 0) hb]; exact h1
theorem TabBlk.fr (h : TabBlk w B la F V mst) (i : Nat) : w.frozen? ⟨B, i, none⟩ = false := by
  obtain ⟨cs, hb, _⟩ := h.blk
  exact frozen_of_row w B i _ _ hb
theorem TabBlk.other {w' : World} (h : TabBlk w B la F V mst) (he : w'.heap[B]? = w.heap[B]?) : TabBlk w' B la F V mst := by
  obtain ⟨cs, hb, hr⟩ := h.blk
  exact ⟨cs, he.trans hb, hr⟩
theorem TabBlk.setV (h : TabBlk w B la F V mst) (m : Nat) (hm : m < 16) (u : Value) : TabBlk (w.setCell ⟨B, 17 + m, none⟩ u) B la F (fun i => if i = m then u else V i) mst := by
  obtain ⟨cs, hb, hs, h0, h1, h2, h3⟩ := h.blk
  refine ⟨cs.setIfInBounds (17 + m) u, heap_setCell_same w B (17 + m) _ _ _ hb, by simpa using hs, ?_, ?_, ?_, ?_⟩
  · rw [Array.getElem?_setIfInBounds_ne (by omega)]; exact h0
  · intro i hi; rw [Array.getElem?_setIfInBounds_ne (by omega)]; exact h1 i hi
  · intro i hi
    by_cases e : i = m
    · subst e
      simp only [if_pos]
      rw [Array.getElem?_setIfInBounds_self_of_lt (by omega)]
    · simp only [if_neg e]
      rw [Array.getElem?_setIfInBounds_ne (by omega)]; exact h2 i hi
  · rw [Array.getElem?_setIfInBounds_ne (by omega)]; exact h3
theorem TabBlk.setF (h : TabBlk w B la F V mst) (m : Nat) (hm : m < 16) (u : Nat) : TabBlk (w.setCell ⟨B, 1 + m, none⟩ (.int .u32 (u : Int))) B la (fun i => if i = m then u else F i) V mst := by
  obtain ⟨cs, hb, hs, h0, h1, h2, h3⟩ := h.blk
  refine ⟨cs.setIfInBounds (1 + m) (.int .u32 (u : Int)), heap_setCell_same w B (1 + m) _ _ _ hb, by simpa using hs, ?_, ?_, ?_, ?_⟩
  · rw [Array.getElem?_setIfInBounds_ne (by omega)]; exact h0
  · intro i hi
    by_cases e : i = m
    · subst e
      simp only [if_pos]
      rw [Array.getElem?_setIfInBounds_self_of_lt (by omega)]
    · simp only [if_neg e]
      rw [Array.getElem?_setIfInBounds_ne (by omega)]; exact h1 i hi
  · intro i hi; rw [Array.getElem?_setIfInBounds_ne (by omega)]; exact h2 i hi
  · rw [Array.getElem?_setIfInBounds_ne (by omega)]; exact h3
theorem TabBlk.setM (h : TabBlk w B la F V mst) (u : Nat) : TabBlk (w.setCell ⟨B, 33, none⟩ (.int .i64 (u : Int))) B la F V u := by
  obtain ⟨cs, hb, hs, h0, h1, h2, h3⟩ := h.blk
  refine ⟨cs.setIfInBounds 33 (.int .i64 (u : Int)), heap_setCell_same w B 33 _ _ _ hb, by simpa using hs, ?_, ?_, ?_, ?_⟩
  · rw [Array.getElem?_setIfInBounds_ne (by omega)]; exact h0
  · intro i hi; rw [Array.getElem?_setIfInBounds_ne (by omega)]; exact h1 i hi
  · intro i hi; rw [Array.getElem?_setIfInBounds_ne (by omega)]; exact h2 i hi
  · rw [Array.getElem?_setIfInBounds_self_of_lt (by omega)]
end

/-- the symbols of the first k lengths, each length's in a row of its own -/
structure Syms (w : World) (B : Nat) (V : Nat → Value) (L : List Int) (k : Nat) : Prop where
  own : ∀ i, i < 16 → w.ownsRow (B + 1) 3 1 (V i) (sy L k i).length (iv .i64 (sy L k i))
  apart : ∀ i j, i < 16 → j < 16 → i ≠ j → (V i).ownBlock = none ∨ (V i).ownBlock ≠ (V j).ownBlock
theorem Syms.same {w w' : World} {B : Nat} {V : Nat → Value} {L : List Int} {k : Nat} (h : Syms w B V L k) (hb : ∀ i, i ≠ B → i < w.heap.size → w'.heap[i]? = w.heap[i]?) : Syms w' B V L k := by
  refine ⟨fun i hi => ?_, h.apart⟩
  have ho := h.own i hi
  refine ⟨ho.1, ?_⟩
  rcases ho.2 with h0 | ⟨g, cap, cur, he, hg, hh, rest⟩
  · exact .inl h0
  · exact .inr ⟨g, cap, cur, he, hg, (hb g (by omega) (Array.getElem?_eq_some_iff.1 hh).1).trans hh, rest⟩

theorem own_some {w : World} {base n : Nat} {e : TypeId} {size : Nat} {v : Value} {xs : List Value} (h : w.ownsRow base e size v n xs) (hn : 0 < n) : ∃ g c, v = .slice (some ⟨g, 0, none⟩) n c := by
  rcases h.2 with ⟨_, h0⟩ | ⟨g, cap, cur, he, _⟩
  · omega
  · exact ⟨g, cap, he⟩
theorem own_low {w : World} {B n : Nat} {e : TypeId} {size : Nat} {v : Value} {xs : List Value} (h : w.ownsRow (B + 1) e size v n xs) : v.ownBlock ≠ some B := fun hk => by
  have := (h.lt B hk).1; omega
theorem step_blk {w w' : World} {B : Nat} {v : Value} {o : Obj} (hg : ((w.alloc o).drew).grownBy w' v.ownBlock) (hB : B < w.heap.size) (hne : v.ownBlock ≠ some B) : w'.heap[B]? = w.heap[B]? := by
  rw [hg.block B (by simp; omega) (fun e => hne e.symm)]
  exact Below.heap_alloc w o B hB

theorem wrapx (x : Nat) (h : x ≤ 400 * 32768) : wrap64 (x : Int) = (x : Int) ∧ IntKind.i64.wrap (x : Int) = (x : Int) :=
  ⟨IntWalk.wrap64_in _ (by omega), IntWalk.i64_in _ (by omega)⟩
theorem info_arr : (Tryd.prog.info? 97).map (·.size) = some 16 := by kernel_rfl
theorem run_index_rows (cs : Array Value) (i : Nat) (v : Value) (hi : i < 16) (hv : cs[i]? = some v) (w : World) : (Instr.index 97 (.agg cs) (.int .i64 (i : Int))).run Tryd.prog w = .ok v w := by
  have h1 : (0 : Int) ≤ (i : Int) ∧ (i : Int) < 16 := by omega
  obtain ⟨j, hj, hs⟩ : ∃ j, Tryd.prog.info? 61 = some j ∧ j.size = 1 := by
    have h : (Tryd.prog.info? 61).map (·.size) = some 1 := by kernel_rfl
    cases hq : Tryd.prog.info? 61 with
    | none => rw [hq] at h; cases h
    | some j => rw [hq] at h; exact ⟨j, rfl, by simpa using h⟩
  simp [Instr.index, run_underlying Tryd.underlying97, asIntOf, h1, sizeOf, typeInfo, hj, hs, part, isAgg, run_underlying Tryd.underlying61, hv]
  intro h; omega

set_option maxRecDepth 100000 in
set_option maxHeartbeats 2000000 in
theorem fits_any {w : World} {B : Nat} {la : Value} {F : Nat → Nat} {V : Nat → Value} {mst : Nat} {C : Nat → Nat} (hT : TabBlk w B la F V mst) (hV : ∀ i, i < 16 → ∃ a c, V i = .slice a (C i) c) (hC : ∀ i, C i ≤ 400) :
    Calls Tryd.prog 50 #[.pointer (some ⟨B, 0, none⟩)] w fun e w' => e = .returned (.bool (fitsB C mst)) ∧ w = w' := by
  obtain ⟨cs, hcs⟩ : ∃ cs : Array Value, cs = ((List.range 16).map V).toArray := ⟨_, rfl⟩
  have hsz : cs.size = 16 := by rw [hcs]; simp
  have hget : ∀ j, j < 16 → cs[j]? = some (V j) := fun j hj => by rw [hcs]; simp [hj]
  have hcell : ∀ j v, cs[j]? = some v → w.cell? ⟨B, 17 + j, none⟩ = some v := fun j v hj => by
    have hlt : j < 16 := by rw [← hsz]; exact (Array.getElem?_eq_some_iff.1 hj).1
    rw [hget j hlt] at hj
    cases hj
    exact hT.cV j hlt
  have hM := hT.cM
  obtain ⟨a1, c1, hV1⟩ := hV 1 (by omega)
  have hc1 := hT.cV 1 (by omega)
  rw [hV1] at hc1
  have HCELL := Lib.hid hcell
  have HGET := Lib.hid hget
  have HSZ := Lib.hid (show (Tryd.prog.info? 97).map (·.size) = some cs.size by rw [hsz]; exact info_arr)
  have HV := Lib.hid hV
  have HC := Lib.hid hC
  have hc10 := hC 1
  clear hT hV hC hcs hsz hget hcell hV1
  go_enter Tryd.func50, Tryd.ntmps50
  go_wp2_with (with_reducible refine wpList_load_part rfl 97 (.tmp 9) rfl B 17 rfl cs _ HCELL.out Tryd.underlying97 rfl HSZ.out ?_)
  go_loop [3, 11] (fun s3 s11 => ∃ k : Nat, k ≤ 16 ∧ s11 = .int .i64 k ∧ s3 = .int .i64 ((su C k : Nat) : Int)) (fun _ s11 => 16 - (intOf s11).toNat)
  case atStart => exact ⟨0, by omega, rfl, rfl⟩
  case round =>
    obtain ⟨k, hk, rfl, rfl⟩ := hrel
    by_cases hk16 : k < 16
    · obtain ⟨ak, ck, hVk⟩ := HV.out k hk16
      have hix := run_index_rows cs k _ hk16 (HGET.out k hk16) w
      rw [hVk] at hix
      have hck := HC.out k
      have hsu : su C (k + 1) = su C k + C k * 2 ^ (15 - k) := rfl
      have hsl := su_le C HC.out k
      obtain ⟨d, hd⟩ : ∃ d, d = 15 - k := ⟨_, rfl⟩
      have hdi : (15 : Int) - (k : Int) = (d : Int) := by omega
      have hpow : C k * 2 ^ (15 - k) ≤ 400 * 32768 := Nat.mul_le_mul hck (Nat.pow_le_pow_right (by omega) (show 15 - k ≤ 15 by omega))
      rw [← hd] at hsu hpow
      obtain ⟨x, hx⟩ : ∃ x, x = C k * 2 ^ d := ⟨_, rfl⟩
      obtain ⟨y, hy⟩ : ∃ y, y = C k := ⟨_, rfl⟩
      have ex : (y : Int) * 2 ^ d = (x : Int) := by rw [hx, hy]; push_cast; rfl
      rw [← hy] at hix
      rw [← hx] at hsu hpow
      obtain ⟨s, hs⟩ : ∃ s, s = su C k := ⟨_, rfl⟩
      rw [← hs] at hsu hsl ⊢
      have hsl2 : s ≤ 16 * (400 * 32768) := Nat.le_trans hsl (Nat.mul_le_mul_right _ hk)
      have HSU := Lib.hid hsu
      have hd15 : d ≤ 15 := by rw [hd]; exact Nat.sub_le _ _
      have ew : wrap64 ((y : Int) * 2 ^ d) = (x : Int) := by rw [ex]; exact (wrapx x hpow).1
      have ew2 : IntKind.i64.wrap ((y : Int) * 2 ^ d) = (x : Int) := by rw [ex]; exact (wrapx x hpow).2
      have hpow2 : x ≤ 13107200 := hpow
      have hsl3 : s ≤ 209715200 := hsl2
      clear hVk hck hsu hsl hd hx hy hs ex hpow hsl2
      go_wp2_with fail
      go_round
      case rel => exact ⟨k + 1, by omega, by go_num, by rw [HSU.out]; go_num⟩
      case measure => simp [intOf]; omega
    · obtain rfl : k = 16 := by omega
      obtain ⟨s, hs⟩ : ∃ s, s = su C 16 := ⟨_, rfl⟩
      obtain ⟨c, hc⟩ : ∃ c, c = C 1 := ⟨_, rfl⟩
      have hF : fitsB C mst = (decide (s = 32768) || (decide (s = 0) || (decide (mst = 1) && decide (c = 1)))) := by unfold fitsB; rw [hs, hc]
      have HF := Lib.hid hF
      rw [← hs]
      rw [← hc] at hc1
      clear hs hc hF
      by_cases b1 : s = 32768
      · have e1 : ((s : Int) == 32768) = true := by rw [beq_iff_eq]; omega
        have HR := Lib.hid (show fitsB C mst = true by rw [HF.out]; simp [b1])
        by_cases b3 : mst = 1
        · have e3 : ((mst : Int) == 1) = true := by rw [beq_iff_eq]; omega
          clear b1 b3
          go_wp2_with fail
          go_ret
          rw [HR.out]; exact ⟨rfl, rfl⟩
        · have e3 : ((mst : Int) == 1) = false := by rw [beq_eq_false_iff_ne]; omega
          clear b1 b3
          go_wp2_with fail
          go_ret
          rw [HR.out]; exact ⟨rfl, rfl⟩
      · have e1 : ((s : Int) == 32768) = false := by rw [beq_eq_false_iff_ne]; omega
        by_cases b2 : s = 0
        · have e2 : ((s : Int) == 0) = true := by rw [beq_iff_eq]; omega
          have HR := Lib.hid (show fitsB C mst = true by rw [HF.out]; simp [b2])
          by_cases b3 : mst = 1
          · have e3 : ((mst : Int) == 1) = true := by rw [beq_iff_eq]; omega
            clear b1 b2 b3
            go_wp2_with fail
            go_ret
            rw [HR.out]; exact ⟨rfl, rfl⟩
          · have e3 : ((mst : Int) == 1) = false := by rw [beq_eq_false_iff_ne]; omega
            clear b1 b2 b3
            go_wp2_with fail
            go_ret
            rw [HR.out]; exact ⟨rfl, rfl⟩
        · have e2 : ((s : Int) == 0) = false := by rw [beq_eq_false_iff_ne]; omega
          by_cases b3 : mst = 1
          · have e3 : ((mst : Int) == 1) = true := by rw [beq_iff_eq]; omega
            by_cases b4 : c = 1
            · have e4 : ((c : Int) == 1) = true := by rw [beq_iff_eq]; omega
              have HR := Lib.hid (show fitsB C mst = true by rw [HF.out]; simp [b3, b4])
              clear b1 b2 b3 b4
              go_wp2_with fail
              go_ret
              rw [HR.out]; exact ⟨rfl, rfl⟩
            · have e4 : ((c : Int) == 1) = false := by rw [beq_eq_false_iff_ne]; omega
              have HR := Lib.hid (show fitsB C mst = false by rw [HF.out]; simp [b1, b2, b4])
              clear b1 b2 b3 b4
              go_wp2_with fail
              go_ret
              rw [HR.out]; exact ⟨rfl, rfl⟩
          · have e3 : ((mst : Int) == 1) = false := by rw [beq_eq_false_iff_ne]; omega
            have HR := Lib.hid (show fitsB C mst = false by rw [HF.out]; simp [b1, b2, b3])
            clear b1 b2 b3
            go_wp2_with fail
            go_ret
            rw [HR.out]; exact ⟨rfl, rfl⟩

theorem Syms.step {wr w4 : World} {B k m q : Nat} {V : Nat → Value} {L : List Int} {v' : Value} {o : Obj} (hS : Syms wr B V L k) (hm : m < 16) (hm0 : 0 < m) (hLk : L.getD k 0 = (m : Int)) (hq : q = (sy L k m).length)
    (h4 : w4.ownsRow (B + 1) 3 1 v' (q + 1) (iv .i64 (sy L k m) ++ [.int .i64 (k : Int)])) (hg : ((wr.alloc o).drew).grownBy w4 (V m).ownBlock)
    (hat : v'.ownBlock = (V m).ownBlock ∨ v'.ownBlock = some ((wr.alloc o).drew).heap.size) : Syms w4 B (fun i => if i = m then v' else V i) L (k + 1) := by
  have hsz : ((wr.alloc o).drew).heap.size = wr.heap.size + 1 := by simp
  refine ⟨fun i hi => ?_, fun i j hi hj hij => ?_⟩
  · by_cases e : i = m
    · subst e
      simp only [if_pos]
      rw [sy_hit hm0 hLk, List.length_append, ← hq, iv_append]
      exact h4
    · simp only [if_neg e]
      rw [sy_miss (by rw [hLk]; intro h; exact e (by omega))]
      exact ((hS.own i hi).alloc o).drew.kept hg (hS.apart i m hi hm e)
  · have new : ∀ i, i < 16 → i ≠ m → (V i).ownBlock = none ∨ (V i).ownBlock ≠ v'.ownBlock := fun i hi hne => by
      rcases hat with e | e
      · rw [e]; exact hS.apart i m hi hm hne
      · cases hb : (V i).ownBlock with
        | none => exact .inl rfl
        | some b =>
          refine .inr ?_
          rw [e, hsz]
          intro h
          have := Option.some.inj h
          have := ((hS.own i hi).lt b hb).2
          omega
    by_cases ei : i = m
    · by_cases ej : j = m
      · omega
      · simp only [if_pos ei, if_neg ej]
        cases hv : v'.ownBlock with
        | none => exact .inl rfl
        | some b =>
          refine .inr ?_
          rcases new j hj ej with h | h
          · rw [h]; simp
          · rw [hv] at h; exact fun e => h e.symm
    · by_cases ej : j = m
      · simp only [if_neg ei, if_pos ej]; exact new i hi ei
      · simp only [if_neg ei, if_neg ej]; exact hS.apart i j hi hj hij
theorem Syms.miss {wr : World} {B k : Nat} {V : Nat → Value} {L : List Int} (hS : Syms wr B V L k) (hLk : L.getD k 0 = 0) : Syms wr B V L (k + 1) :=
  ⟨fun i hi => by
    rcases Nat.eq_zero_or_pos i with rfl | hp
    · rw [sy_zero]; have := hS.own 0 hi; rw [sy_zero] at this; exact this
    · rw [sy_miss (by rw [hLk]; omega)]; exact hS.own i hi, hS.apart⟩
theorem two_sets {w4 : World} {B : Nat} (a b : Nat) (u v : Value) : ∀ i, i ≠ B → i < w4.heap.size → ((w4.setCell ⟨B, a, none⟩ u).setCell ⟨B, b, none⟩ v).heap[i]? = w4.heap[i]? := fun i hi _ => by
  rw [heap_setCell_other _ _ _ _ hi, heap_setCell_other _ _ _ _ hi]
theorem max_cast (a b : Nat) : max (a : Int) (b : Int) = ((max a b : Nat) : Int) := by omega

end Go.Proofs.YtnfdojdppifmoaaDoor
