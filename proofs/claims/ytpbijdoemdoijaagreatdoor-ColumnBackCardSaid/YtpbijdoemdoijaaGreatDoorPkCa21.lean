/- Texts put together by packtpl2.py: PrefMake, PrefMk, PrefNext. -/
import Derived.Test.YtpbijdoemdoijaaGreatDoorPkCa10
import Derived.Test.YtpbijdoemdoijaaGreatDoorPkCa16
section PkCa21_0
/- Package prefix's fits and Make, walked. -/
namespace Go.Proofs.YtpbijdoemdoijaaGreatDoor
open Go.RowKit PrefPlain
set_option linter.unusedVariables false

theorem lt16 (i : Nat) (h : i < 16) : i = 0 ∨ i = 1 ∨ i = 2 ∨ i = 3 ∨ i = 4 ∨ i = 5 ∨ i = 6 ∨ i = 7 ∨ i = 8 ∨ i = 9 ∨ i = 10 ∨ i = 11 ∨ i = 12 ∨ i = 13 ∨ i = 14 ∨ i = 15 := by omega

/-- a table's block: the lengths' slice, the first words, the symbols' slices, the greatest length -/
structure TabBlk (w : World) (B : Nat) (la : Value) (F : Nat → Nat) (V : Nat → Value) (mst : Nat) : Prop where
  blk : ∃ cs, w.heap[B]? = some (.cells cs 240 (0, 0)) ∧ cs.size = 34 ∧ cs[0]? = some la ∧ (∀ i, i < 16 → cs[1 + i]? = some (.int .u32 (F i : Int))) ∧ (∀ i, i < 16 → cs[17 + i]? = some (V i)) ∧ cs[33]? = some (.int .i64 (mst : Int))
section
variable {w : World} {B : Nat} {la : Value} {F : Nat → Nat} {V : Nat → Value} {mst : Nat}
theorem TabBlk.lt (h : TabBlk w B la F V mst) : B < w.heap.size := by
  obtain ⟨cs, hb, _⟩ := h.blk
  exact (Array.getElem?_eq_some_iff.1 hb).1
theorem TabBlk.c0 (h : TabBlk w B la F V mst) : w.cell? ⟨B, 0, none⟩ = some la := by
  obtain ⟨cs, hb, _, h0, _⟩ := h.blk
  rw [cell_of_row w B 0 _ _ (0, 0) hb]; exact h0
theorem TabBlk.cF (h : TabBlk w B la F V mst) (i : Nat) (hi : i < 16) : w.cell? ⟨B, 1 + i, none⟩ = some (.int .u32 (F i : Int)) := by
  obtain ⟨cs, hb, _, _, h1, _⟩ := h.blk
  rw [cell_of_row w B _ _ _ (0, 0) hb]; exact h1 i hi
theorem TabBlk.cV (h : TabBlk w B la F V mst) (i : Nat) (hi : i < 16) : w.cell? ⟨B, 17 + i, none⟩ = some (V i) := by
  obtain ⟨cs, hb, _, _, _, h1, _⟩ := h.blk
  rw [cell_of_row w B _ _ _ (0, 0) hb]; exact h1 i hi
theorem TabBlk.cM (h : TabBlk w B la F V mst) : w.cell? ⟨B, 33, none⟩ = some (.int .i64 (mst : Int)) := by
  obtain ⟨cs, hb, _, _, _, _, h1⟩ := h.blk
  rw [cell_of_row w B _ _ _ (0, 0) hb]; exact h1
theorem TabBlk.fr (h : TabBlk w B la F V mst) (i : Nat) : w.frozen? ⟨B, i, none⟩ = false := by
  obtain ⟨cs, hb, _⟩ := h.blk
  exact frozen_of_row w B i _ _ hb
theorem TabBlk.other {w' : World} (h : TabBlk w B la F V mst) (he : w'.heap[B]? = w.heap[B]?) : TabBlk w' B la F V mst := by
  obtain ⟨cs, hb, hr⟩ := h.blk
  exact ⟨cs, he.trans hb, hr⟩
theorem TabBlk.setV (h : TabBlk w B la F V mst) (m : Nat) (hm : m < 16) (u : Value) : TabBlk (w.setCell ⟨B, 17 + m, none⟩ u) B la F (fun i => if i = m then u else V i) mst := by
  obtain ⟨cs, hb, hs, h0, h1, h2, h3⟩ := h.blk
  refine ⟨cs.setIfInBounds (17 + m) u, heap_setCell_same w B (17 + m) _ _ _ hb, by simpa using hs, ?_, ?_, ?_, ?_⟩
  · rw [Array.getElem?_setIfInBounds_ne (by omega)]; exact h0
  · intro i hi; rw [Array.getElem?_setIfInBounds_ne (by omega)]; exact h1 i hi
  · intro i hi
    by_cases e : i = m
    · subst e
      simp only [if_pos]
      rw [Array.getElem?_setIfInBounds_self_of_lt (by omega)]
    · simp only [if_neg e]
      rw [Array.getElem?_setIfInBounds_ne (by omega)]; exact h2 i hi
  · rw [Array.getElem?_setIfInBounds_ne (by omega)]; exact h3
theorem TabBlk.setF (h : TabBlk w B la F V mst) (m : Nat) (hm : m < 16) (u : Nat) : TabBlk (w.setCell ⟨B, 1 + m, none⟩ (.int .u32 (u : Int))) B la (fun i => if i = m then u else F i) V mst := by
  obtain ⟨cs, hb, hs, h0, h1, h2, h3⟩ := h.blk
  refine ⟨cs.setIfInBounds (1 + m) (.int .u32 (u : Int)), heap_setCell_same w B (1 + m) _ _ _ hb, by simpa using hs, ?_, ?_, ?_, ?_⟩
  · rw [Array.getElem?_setIfInBounds_ne (by omega)]; exact h0
  · intro i hi
    by_cases e : i = m
    · subst e
      simp only [if_pos]
      rw [Array.getElem?_setIfInBounds_self_of_lt (by omega)]
    · simp only [if_neg e]
      rw [Array.getElem?_setIfInBounds_ne (by omega)]; exact h1 i hi
  · intro i hi; rw [Array.getElem?_setIfInBounds_ne (by omega)]; exact h2 i hi
  · rw [Array.getElem?_setIfInBounds_ne (by omega)]; exact h3
theorem TabBlk.setM (h : TabBlk w B la F V mst) (u : Nat) : TabBlk (w.setCell ⟨B, 33, none⟩ (.int .i64 (u : Int))) B la F V u := by
  obtain ⟨cs, hb, hs, h0, h1, h2, h3⟩ := h.blk
  refine ⟨cs.setIfInBounds 33 (.int .i64 (u : Int)), heap_setCell_same w B 33 _ _ _ hb, by simpa using hs, ?_, ?_, ?_, ?_⟩
  · rw [Array.getElem?_setIfInBounds_ne (by omega)]; exact h0
  · intro i hi; rw [Array.getElem?_setIfInBounds_ne (by omega)]; exact h1 i hi
  · intro i hi; rw [Array.getElem?_setIfInBounds_ne (by omega)]; exact h2 i hi
  · rw [Array.getElem?_setIfInBounds_self_of_lt (by omega)]
end

/-- the symbols of the first k lengths, each length's in a row of its own -/
structure Syms (w : World) (B : Nat) (V : Nat → Value) (L : List Int) (k : Nat) : Prop where
  own : ∀ i, i < 16 → w.ownsRow (B + 1) 3 1 (V i) (sy L k i).length (iv .i64 (sy L k i))
  apart : ∀ i j, i < 16 → j < 16 → i ≠ j → (V i).ownBlock = none ∨ (V i).ownBlock ≠ (V j).ownBlock
theorem Syms.same {w w' : World} {B : Nat} {V : Nat → Value} {L : List Int} {k : Nat} (h : Syms w B V L k) (hb : ∀ i, i ≠ B → i < w.heap.size → w'.heap[i]? = w.heap[i]?) : Syms w' B V L k := by
  refine ⟨fun i hi => ?_, h.apart⟩
  have ho := h.own i hi
  refine ⟨ho.1, ?_⟩
  rcases ho.2 with h0 | ⟨g, cap, cur, he, hg, hh, rest⟩
  · exact .inl h0
  · exact .inr ⟨g, cap, cur, he, hg, (hb g (by omega) (Array.getElem?_eq_some_iff.1 hh).1).trans hh, rest⟩

theorem own_some {w : World} {base n : Nat} {e : TypeId} {size : Nat} {v : Value} {xs : List Value} (h : w.ownsRow base e size v n xs) (hn : 0 < n) : ∃ g c, v = .slice (some ⟨g, 0, none⟩) n c := by
  rcases h.2 with ⟨_, h0⟩ | ⟨g, cap, cur, he, _⟩
  · omega
  · exact ⟨g, cap, he⟩
theorem own_low {w : World} {B n : Nat} {e : TypeId} {size : Nat} {v : Value} {xs : List Value} (h : w.ownsRow (B + 1) e size v n xs) : v.ownBlock ≠ some B := fun hk => by
  have := (h.lt B hk).1; omega
theorem step_blk {w w' : World} {B : Nat} {v : Value} {o : Obj} (hg : ((w.alloc o).drew).grownBy w' v.ownBlock) (hB : B < w.heap.size) (hne : v.ownBlock ≠ some B) : w'.heap[B]? = w.heap[B]? := by
  rw [hg.block B (by simp; omega) (fun e => hne e.symm)]
  exact Below.heap_alloc w o B hB

theorem wrapx (x : Nat) (h : x ≤ 400 * 32768) : wrap64 (x : Int) = (x : Int) ∧ IntKind.i64.wrap (x : Int) = (x : Int) :=
  ⟨IntWalk.wrap64_in _ (by omega), IntWalk.i64_in _ (by omega)⟩
theorem info_arr : (Tryz.prog.info? 238).map (·.size) = some 16 := by kernel_rfl
theorem run_index_rows (cs : Array Value) (i : Nat) (v : Value) (hi : i < 16) (hv : cs[i]? = some v) (w : World) : (Instr.index 238 (.agg cs) (.int .i64 (i : Int))).run Tryz.prog w = .ok v w := by
  have h1 : (0 : Int) ≤ (i : Int) ∧ (i : Int) < 16 := by omega
  obtain ⟨j, hj, hs⟩ : ∃ j, Tryz.prog.info? 77 = some j ∧ j.size = 1 := by
    have h : (Tryz.prog.info? 77).map (·.size) = some 1 := by kernel_rfl
    cases hq : Tryz.prog.info? 77 with
    | none => rw [hq] at h; cases h
    | some j => rw [hq] at h; exact ⟨j, rfl, by simpa using h⟩
  simp [Instr.index, run_underlying Tryz.underlying238, asIntOf, h1, sizeOf, typeInfo, hj, hs, part, isAgg, run_underlying Tryz.underlying77, hv]
  intro h; omega

set_option maxRecDepth 100000 in
set_option maxHeartbeats 2000000 in
theorem fits_any {w : World} {B : Nat} {la : Value} {F : Nat → Nat} {V : Nat → Value} {mst : Nat} {C : Nat → Nat} (hT : TabBlk w B la F V mst) (hV : ∀ i, i < 16 → ∃ a c, V i = .slice a (C i) c) (hC : ∀ i, C i ≤ 400) :
    Calls Tryz.prog 209 #[.pointer (some ⟨B, 0, none⟩)] w fun e w' => e = .returned (.bool (fitsB C mst)) ∧ w = w' := by
  obtain ⟨cs, hcs⟩ : ∃ cs : Array Value, cs = ((List.range 16).map V).toArray := ⟨_, rfl⟩
  have hsz : cs.size = 16 := by rw [hcs]; simp
  have hget : ∀ j, j < 16 → cs[j]? = some (V j) := fun j hj => by rw [hcs]; simp [hj]
  have hcell : ∀ j v, cs[j]? = some v → w.cell? ⟨B, 17 + j, none⟩ = some v := fun j v hj => by
    have hlt : j < 16 := by rw [← hsz]; exact (Array.getElem?_eq_some_iff.1 hj).1
    rw [hget j hlt] at hj
    cases hj
    exact hT.cV j hlt
  have hM := hT.cM
  obtain ⟨a1, c1, hV1⟩ := hV 1 (by omega)
  have hc1 := hT.cV 1 (by omega)
  rw [hV1] at hc1
  have HCELL := Lib.hid hcell
  have HGET := Lib.hid hget
  have HSZ := Lib.hid (show (Tryz.prog.info? 238).map (·.size) = some cs.size by rw [hsz]; exact info_arr)
  have HV := Lib.hid hV
  have HC := Lib.hid hC
  have hc10 := hC 1
  clear hT hV hC hcs hsz hget hcell hV1
  go_enter Tryz.func209, Tryz.ntmps209
  go_wp2_with (with_reducible refine wpList_load_part rfl 238 (.tmp 9) rfl B 17 rfl cs _ HCELL.out Tryz.underlying238 rfl HSZ.out ?_)
  go_loop [3, 11] (fun s3 s11 => ∃ k : Nat, k ≤ 16 ∧ s11 = .int .i64 k ∧ s3 = .int .i64 ((su C k : Nat) : Int)) (fun _ s11 => 16 - (intOf s11).toNat)
  case atStart => exact ⟨0, by omega, rfl, rfl⟩
  case round =>
    obtain ⟨k, hk, rfl, rfl⟩ := hrel
    by_cases hk16 : k < 16
    · obtain ⟨ak, ck, hVk⟩ := HV.out k hk16
      have hix := run_index_rows cs k _ hk16 (HGET.out k hk16) w
      rw [hVk] at hix
      have hck := HC.out k
      have hsu : su C (k + 1) = su C k + C k * 2 ^ (15 - k) := rfl
      have hsl := su_le C HC.out k
      obtain ⟨d, hd⟩ : ∃ d, d = 15 - k := ⟨_, rfl⟩
      have hdi : (15 : Int) - (k : Int) = (d : Int) := by omega
      have hpow : C k * 2 ^ (15 - k) ≤ 400 * 32768 := Nat.mul_le_mul hck (Nat.pow_le_pow_right (by omega) (show 15 - k ≤ 15 by omega))
      rw [← hd] at hsu hpow
      obtain ⟨x, hx⟩ : ∃ x, x = C k * 2 ^ d := ⟨_, rfl⟩
      obtain ⟨y, hy⟩ : ∃ y, y = C k := ⟨_, rfl⟩
      have ex : (y : Int) * 2 ^ d = (x : Int) := by rw [hx, hy]; push_cast; rfl
      rw [← hy] at hix
      rw [← hx] at hsu hpow
      obtain ⟨s, hs⟩ : ∃ s, s = su C k := ⟨_, rfl⟩
      rw [← hs] at hsu hsl ⊢
      have hsl2 : s ≤ 16 * (400 * 32768) := Nat.le_trans hsl (Nat.mul_le_mul_right _ hk)
      have HSU := Lib.hid hsu
      have hd15 : d ≤ 15 := by rw [hd]; exact Nat.sub_le _ _
      have ew : wrap64 ((y : Int) * 2 ^ d) = (x : Int) := by rw [ex]; exact (wrapx x hpow).1
      have ew2 : IntKind.i64.wrap ((y : Int) * 2 ^ d) = (x : Int) := by rw [ex]; exact (wrapx x hpow).2
      have hpow2 : x ≤ 13107200 := hpow
      have hsl3 : s ≤ 209715200 := hsl2
      clear hVk hck hsu hsl hd hx hy hs ex hpow hsl2
      go_wp2_with fail
      go_round
      case rel => exact ⟨k + 1, by omega, by go_num, by rw [HSU.out]; go_num⟩
      case measure => simp [intOf]; omega
    · obtain rfl : k = 16 := by omega
      obtain ⟨s, hs⟩ : ∃ s, s = su C 16 := ⟨_, rfl⟩
      obtain ⟨c, hc⟩ : ∃ c, c = C 1 := ⟨_, rfl⟩
      have hF : fitsB C mst = (decide (s = 32768) || (decide (s = 0) || (decide (mst = 1) && decide (c = 1)))) := by unfold fitsB; rw [hs, hc]
      have HF := Lib.hid hF
      rw [← hs]
      rw [← hc] at hc1
      clear hs hc hF
      by_cases b1 : s = 32768
      · have e1 : ((s : Int) == 32768) = true := by rw [beq_iff_eq]; omega
        have HR := Lib.hid (show fitsB C mst = true by rw [HF.out]; simp [b1])
        by_cases b3 : mst = 1
        · have e3 : ((mst : Int) == 1) = true := by rw [beq_iff_eq]; omega
          clear b1 b3
          go_wp2_with fail
          go_ret
          rw [HR.out]; exact ⟨rfl, rfl⟩
        · have e3 : ((mst : Int) == 1) = false := by rw [beq_eq_false_iff_ne]; omega
          clear b1 b3
          go_wp2_with fail
          go_ret
          rw [HR.out]; exact ⟨rfl, rfl⟩
      · have e1 : ((s : Int) == 32768) = false := by rw [beq_eq_false_iff_ne]; omega
        by_cases b2 : s = 0
        · have e2 : ((s : Int) == 0) = true := by rw [beq_iff_eq]; omega
          have HR := Lib.hid (show fitsB C mst = true by rw [HF.out]; simp [b2])
          by_cases b3 : mst = 1
          · have e3 : ((mst : Int) == 1) = true := by rw [beq_iff_eq]; omega
            clear b1 b2 b3
            go_wp2_with fail
            go_ret
            rw [HR.out]; exact ⟨rfl, rfl⟩
          · have e3 : ((mst : Int) == 1) = false := by rw [beq_eq_false_iff_ne]; omega
            clear b1 b2 b3
            go_wp2_with fail
            go_ret
            rw [HR.out]; exact ⟨rfl, rfl⟩
        · have e2 : ((s : Int) == 0) = false := by rw [beq_eq_false_iff_ne]; omega
          by_cases b3 : mst = 1
          · have e3 : ((mst : Int) == 1) = true := by rw [beq_iff_eq]; omega
            by_cases b4 : c = 1
            · have e4 : ((c : Int) == 1) = true := by rw [beq_iff_eq]; omega
              have HR := Lib.hid (show fitsB C mst = true by rw [HF.out]; simp [b3, b4])
              clear b1 b2 b3 b4
              go_wp2_with fail
              go_ret
              rw [HR.out]; exact ⟨rfl, rfl⟩
            · have e4 : ((c : Int) == 1) = false := by rw [beq_eq_false_iff_ne]; omega
              have HR := Lib.hid (show fitsB C mst = false by rw [HF.out]; simp [b1, b2, b4])
              clear b1 b2 b3 b4
              go_wp2_with fail
              go_ret
              rw [HR.out]; exact ⟨rfl, rfl⟩
          · have e3 : ((mst : Int) == 1) = false := by rw [beq_eq_false_iff_ne]; omega
            have HR := Lib.hid (show fitsB C mst = false by rw [HF.out]; simp [b1, b2, b3])
            clear b1 b2 b3
            go_wp2_with fail
            go_ret
            rw [HR.out]; exact ⟨rfl, rfl⟩

theorem Syms.step {wr w4 : World} {B k m q : Nat} {V : Nat → Value} {L : List Int} {v' : Value} {o : Obj} (hS : Syms wr B V L k) (hm : m < 16) (hm0 : 0 < m) (hLk : L.getD k 0 = (m : Int)) (hq : q = (sy L k m).length)
    (h4 : w4.ownsRow (B + 1) 3 1 v' (q + 1) (iv .i64 (sy L k m) ++ [.int .i64 (k : Int)])) (hg : ((wr.alloc o).drew).grownBy w4 (V m).ownBlock)
    (hat : v'.ownBlock = (V m).ownBlock ∨ v'.ownBlock = some ((wr.alloc o).drew).heap.size) : Syms w4 B (fun i => if i = m then v' else V i) L (k + 1) := by
  have hsz : ((wr.alloc o).drew).heap.size = wr.heap.size + 1 := by simp
  refine ⟨fun i hi => ?_, fun i j hi hj hij => ?_⟩
  · by_cases e : i = m
    · subst e
      simp only [if_pos]
      rw [sy_hit hm0 hLk, List.length_append, ← hq, iv_append]
      exact h4
    · simp only [if_neg e]
      rw [sy_miss (by rw [hLk]; intro h; exact e (by omega))]
      exact ((hS.own i hi).alloc o).drew.kept hg (hS.apart i m hi hm e)
  · have new : ∀ i, i < 16 → i ≠ m → (V i).ownBlock = none ∨ (V i).ownBlock ≠ v'.ownBlock := fun i hi hne => by
      rcases hat with e | e
      · rw [e]; exact hS.apart i m hi hm hne
      · cases hb : (V i).ownBlock with
        | none => exact .inl rfl
        | some b =>
          refine .inr ?_
          rw [e, hsz]
          intro h
          have := Option.some.inj h
          have := ((hS.own i hi).lt b hb).2
          omega
    by_cases ei : i = m
    · by_cases ej : j = m
      · omega
      · simp only [if_pos ei, if_neg ej]
        cases hv : v'.ownBlock with
        | none => exact .inl rfl
        | some b =>
          refine .inr ?_
          rcases new j hj ej with h | h
          · rw [h]; simp
          · rw [hv] at h; exact fun e => h e.symm
    · by_cases ej : j = m
      · simp only [if_neg ei, if_pos ej]; exact new i hi ei
      · simp only [if_neg ei, if_neg ej]; exact hS.apart i j hi hj hij
theorem Syms.miss {wr : World} {B k : Nat} {V : Nat → Value} {L : List Int} (hS : Syms wr B V L k) (hLk : L.getD k 0 = 0) : Syms wr B V L (k + 1) :=
  ⟨fun i hi => by
    rcases Nat.eq_zero_or_pos i with rfl | hp
    · rw [sy_zero]; have := hS.own 0 hi; rw [sy_zero] at this; exact this
    · rw [sy_miss (by rw [hLk]; omega)]; exact hS.own i hi, hS.apart⟩
theorem two_sets {w4 : World} {B : Nat} (a b : Nat) (u v : Value) : ∀ i, i ≠ B → i < w4.heap.size → ((w4.setCell ⟨B, a, none⟩ u).setCell ⟨B, b, none⟩ v).heap[i]? = w4.heap[i]? := fun i hi _ => by
  rw [heap_setCell_other _ _ _ _ hi, heap_setCell_other _ _ _ _ hi]
theorem max_cast (a b : Nat) : max (a : Int) (b : Int) = ((max a b : Nat) : Int) := by omega

end Go.Proofs.YtpbijdoemdoijaaGreatDoor
end PkCa21_0
section PkCa21_1
/- Package prefix's Make, walked: the table of any lengths, or the error. -/
namespace Go.Proofs.YtpbijdoemdoijaaGreatDoor
open Go.RowKit PrefPlain
set_option linter.unusedVariables false

/-- a table, made -/
structure TabAt (w : World) (B : Nat) (L : List Int) : Prop where
  tab : ∃ a n c V, TabBlk w B (.slice a n c) (fw (cn L)) V (mo L L.length) ∧ IntsAt .i64 w a n c L ∧ Syms w B V L L.length
  ok : okL L L.length
  short : L.length ≤ 320
theorem TabAt.kept {w w' : World} {B : Nat} {L : List Int} (h : TabAt w B L) (hb : Below w.heap.size w w') : TabAt w' B L := by
  obtain ⟨a, n, c, V, h1, h2, h3⟩ := h.tab
  exact ⟨⟨a, n, c, V, h1.other (hb.block B h1.lt), h2.kept hb, h3.same (fun i _ hi => hb.block i hi)⟩, h.ok, h.short⟩
theorem fw_congr {c : Nat → Nat} : ∀ j, fw c j = fw c j := fun _ => rfl
/-- the word ahead of a length -/
def wd (c : Nat → Nat) (j : Nat) : Nat := if j ≤ 1 then 0 else fw c (j - 1) + c (j - 1)
theorem wd_two (c : Nat → Nat) {j : Nat} (h : 1 ≤ j) : 2 * wd c j = fw c j := by
  unfold wd
  split
  · obtain rfl : j = 1 := by omega
    rfl
  · obtain ⟨i, rfl⟩ : ∃ i, j = i + 2 := ⟨j - 2, by omega⟩
    rfl
theorem wd_succ (c : Nat → Nat) {j : Nat} (h : 1 ≤ j) : wd c (j + 1) = fw c j + c j := by
  unfold wd; rw [if_neg (by omega)]; rfl
theorem cn_le (L : List Int) (h : L.length ≤ 320) (i : Nat) : cn L i ≤ 400 := by
  have := sy_len L L.length i
  unfold cn; omega
theorem fw_26 (c : Nat → Nat) (hc : ∀ n, c n ≤ 400) {j : Nat} (hj : j ≤ 15) : fw c j ≤ 26214400 := by
  have h := fw_le c hc j
  have h2 : 2 ^ j ≤ 2 ^ 15 := Nat.pow_le_pow_right (by omega) hj
  have h3 : 800 * 2 ^ j ≤ 800 * 2 ^ 15 := Nat.mul_le_mul_left _ h2
  have h4 : (800 : Nat) * 2 ^ 15 = 26214400 := by decide
  omega

set_option maxRecDepth 100000 in
set_option maxHeartbeats 4000000 in
theorem make_any {w : World} {a : Option Addr} {n c : Nat} {L : List Int} (h : IntsAt .i64 w a n c L) :
    Calls Tryz.prog 204 #[.slice a n c] w fun e w' => ∃ p, e = .returned (.tuple #[.pointer p, .int .i64 ((mk L : Nat) : Int)]) ∧ Below w.heap.size w w' ∧ (mk L ≠ 0 → p = none) ∧ (mk L = 0 → ∃ B, p = some ⟨B, 0, none⟩ ∧ w.heap.size ≤ B ∧ TabAt w' B L) := by
  obtain ⟨i0, hi, hz0, hz1, hz2⟩ := info_parts info_int
  have hlen := h.len
  have hcap := h.cap
  have hcm := h.capm
  have HH := Lib.hid h
  have HL := Lib.hid hlen
  clear h hlen
  by_cases hbig : (320 : Int) < (n : Int)
  · have HM := Lib.hid (show mk L = 5 by unfold mk; rw [if_pos (by rw [HL.out]; omega)])
    go_enter Tryz.func204, Tryz.ntmps204
    go_wp2_with fail
    go_ret2
    rw [HM.out]
    exact ⟨none, rfl, Below.refl _ _, fun _ => rfl, fun h => by cases h⟩
  · have hn : n ≤ 320 := by omega
    have HC := Lib.hid (cloneInt HH.out (by omega))
    have hbig2 : (n : Int) ≤ 320 := by omega
    clear hbig
    go_enter Tryz.func204, Tryz.ntmps204
    go_wp2_with fail
    refine HC.out.mono ?_
    rintro e w1 ⟨v1, rfl, ho1, hb1⟩
    obtain ⟨a1, c1, rfl, hi1, _⟩ := IntsAt.ofOwn ho1 HH.out.wf
    go_wp2_with fail
    generalize hwb : w1.alloc (Obj.cells _ _) = wb
    obtain ⟨B, hB⟩ : ∃ B, B = w1.heap.size := ⟨_, rfl⟩
    rw [← hB]
    have hT0 : TabBlk wb B (.slice a1 n c1) (fun _ => 0) (fun _ => .slice none 0 0) (mo L 0) := by
      rw [← hwb, hB]
      exact ⟨_, heap_alloc_new w1 _, rfl, rfl, (by intro i hi; have h16 := lt16 i hi; rcases h16 with rfl | rfl | rfl | rfl | rfl | rfl | rfl | rfl | rfl | rfl | rfl | rfl | rfl | rfl | rfl | rfl <;> rfl), (by intro i hi; have h16 := lt16 i hi; rcases h16 with rfl | rfl | rfl | rfl | rfl | rfl | rfl | rfl | rfl | rfl | rfl | rfl | rfl | rfl | rfl | rfl <;> rfl), rfl⟩
    have hS0 : Syms wb B (fun _ => .slice none 0 0) L 0 := ⟨fun i hi => by rw [sy_start]; exact World.ownsRow_nil _ _ _ _, fun i j _ _ _ => .inl rfl⟩
    have hb0 : Below B w1 wb := by rw [← hwb]; exact (Below.refl _ _).alloc (by omega) _
    have HB0 := Lib.hid hb0
    have HB1 := Lib.hid hb1
    have HI1 := Lib.hid hi1
    have HB := Lib.hid hB
    have hO0 : okL L 0 := fun s hs => absurd hs (Nat.not_lt_zero _)
    clear hwb hB hb0 hb1 ho1 hi1
    go_loopw [18] (fun s18 wr => ∃ (k : Nat) (V : Nat → Value), k ≤ n ∧ s18 = .int .i64 k ∧ okL L k ∧ TabBlk wr B (.slice a1 n c1) (fun _ => 0) V (mo L k) ∧ Syms wr B V L k ∧ Hid (Below B w1 wr)) (fun s18 _ => n - (intOf s18).toNat)
    case atStart => exact ⟨0, _, by omega, rfl, hO0, hT0, hS0, HB0⟩
    case round =>
      clear hO0 hT0 hS0
      obtain ⟨k, V, hk, rfl, hok, hT, hS, HBW⟩ := hrel
      rename World => wr
      have hbw : Below w.heap.size w wr := (HB1.out.trans (HBW.out.mono (by have := HB.out; have := HB1.out.size; omega)))
      have HBL := Lib.hid hbw
      by_cases hkn : k < n
      · obtain ⟨b, off, rfl, hlt, hcell⟩ := (HH.out.kept hbw).cells (by omega)
        have hck := hcell k hkn
        obtain ⟨x, hx⟩ : ∃ x, x = L.getD k 0 := ⟨_, rfl⟩
        rw [← hx] at hck
        by_cases hx0 : x < 0
        · have HN := Lib.hid (show mk L = 1 by unfold mk; rw [if_neg (by rw [HL.out]; omega), if_pos (allOk_no (k := k) (by rw [HL.out]; exact hkn) (by rw [← hx]; omega))])
          clear hcell hx hT hS hok hbw
          go_wp2_with fail
          go_ret2
          rw [HN.out]
          exact ⟨none, rfl, HBL.out, fun _ => rfl, fun h => by cases h⟩
        · by_cases hx15 : 15 < x
          · have HN := Lib.hid (show mk L = 1 by unfold mk; rw [if_neg (by rw [HL.out]; omega), if_pos (allOk_no (k := k) (by rw [HL.out]; exact hkn) (by rw [← hx]; omega))])
            have hx0' : 0 ≤ x := by omega
            clear hx0 hcell hx hT hS hok hbw
            go_wp2_with fail
            go_ret2
            rw [HN.out]
            exact ⟨none, rfl, HBL.out, fun _ => rfl, fun h => by cases h⟩
          · by_cases hxz : x = 0
            · subst hxz
              have hS' := hS.miss hx.symm
              have hT' : TabBlk wr B (.slice a1 n c1) (fun _ => 0) V (mo L (k + 1)) := by
                have : mo L (k + 1) = mo L k := by rw [mo, ← hx]; simp
                rw [this]; exact hT
              have hok' : okL L (k + 1) := okL_succ hok (by rw [← hx]; omega)
              have HS' := Lib.hid hS'
              have HT' := Lib.hid hT'
              have HOK' := Lib.hid hok'
              clear hcell hx hT hS hok hbw hx0 hx15 hS' hT' hok'
              go_wp2_with fail
              go_roundw
              case rel => exact ⟨k + 1, V, by omega, by go_num, HOK'.out, HT'.out, HS'.out, HBW⟩
              case measure => simp [intOf]; omega
            · obtain ⟨m, rfl⟩ : ∃ m : Nat, x = (m : Int) := ⟨x.toNat, by omega⟩
              have hm1 : 0 < m := by omega
              have hm16 : m < 16 := by omega
              have hmi : (m : Int) < 16 := by omega
              obtain ⟨am, cm, hVm, hiV, _⟩ := IntsAt.ofOwn (hS.own m hm16) (fun z hz => wf_int (by have := sy_bound z hz; omega))
              have hcv := hT.cV m hm16
              rw [hVm] at hcv
              have hfv := hT.fr (17 + m)
              have hcm := hT.cM
              have hfm := hT.fr 33
              have hso := hS.own m hm16
              rw [hVm] at hso
              obtain ⟨q, hq⟩ : ∃ q, q = (sy L k m).length := ⟨_, rfl⟩
              rw [← hq] at hso hcv
              have hq2 : q ≤ 320 := by rw [hq]; exact Nat.le_trans (sy_len L k m) (by omega)
              have HSO := Lib.hid hso
              have HT := Lib.hid hT
              have HS := Lib.hid hS
              have HV := Lib.hid hVm
              have HX := Lib.hid hx
              have HOK := Lib.hid hok
              have HQ := Lib.hid hq
              have hBl := hT.lt
              clear hcell hx hiV hVm hT hS hso hok hbw hq hx0 hx15 hxz
              go_wp2_with fail
              go_region_law (first | (refine step_append_own_at rfl (.tmp 38) (.tmp 40) 77 rfl (B + 1) 3 i0 (.int .i64 0) 1 8 Tryz.underlying77 hi hz0 hz1 hz2 rfl (by decide) _ _ _ rfl ((HSO.out.alloc (.cells #[.int .i64 (k : Int)] 3)).drew) ⟨wr.heap.size, 0, none⟩ 1 1 [.int .i64 (k : Int)] rfl rfl (one_src _ _ _) (one_oneCell rfl) (by unfold maxLen; omega) (by omega) (by simp; omega) ?_; intro v4 w4 ho4 hg4 hat4; obtain ⟨g4, c4, rfl⟩ := own_some ho4 (by omega); have hT4 := Lib.hid (HT.out.other (w' := w4) (step_blk hg4 hBl (own_low HSO.out))); have hcv4 := hT4.out.cV m hm16; have hfv4 := hT4.out.fr (17 + m)))
              all_goals
                generalize hw5 : World.setCell _ _ _ = w5
                have hT5 := hT4.out.setV m hm16 (.slice (some ⟨g4, 0, none⟩) (q + 1) c4)
                rw [hw5] at hT5
                have hcM5 := hT5.cM
                have hfM5 := hT5.fr 33
                have HW5 := Lib.hid hw5
                have HT5 := Lib.hid hT5
                have HO4 := Lib.hid ho4
                have HG4 := Lib.hid hg4
                have HA4 := Lib.hid hat4
                clear hw5 hT5 ho4 hg4 hat4 hcv4 hfv4 hcv hfv hcm hfm
                go_wp2_with fail
                generalize hw6 : World.setCell _ _ _ = w6
                rw [max_cast] at hw6
                have hT6 := HT5.out.setM (max (mo L k) m)
                rw [hw6] at hT6
                have hmo : mo L (k + 1) = max (mo L k) m := by rw [mo, ← HX.out]; rfl
                rw [← hmo] at hT6
                have ho4 := HO4.out
                have hg4 := HG4.out
                have hvq : Value.slice am q cm = V m := by rw [HV.out, ← HQ.out]
                rw [hvq] at hg4
                have hat4 := HA4.out
                rw [hvq] at hat4
                have hS4 := HS.out.step hm16 hm1 HX.out.symm HQ.out ho4 hg4 hat4
                have hS6 : Syms w6 B (fun i => if i = m then .slice (some ⟨g4, 0, none⟩) (q + 1) c4 else V i) L (k + 1) := hS4.same (by
                  rw [← hw6, ← HW5.out]; exact two_sets _ _ _ _)
                have hB6 : Below B w1 w6 := by
                  rw [← hw6, ← HW5.out]
                  exact ((((HBW.out.alloc (by omega) _).drew).grown hg4 (by simp; omega) (fun j hj => by have := ((HS.out.own m hm16).lt j hj).1; omega)).setCell (Nat.le_refl _) _).setCell (Nat.le_refl _) _
                have hok6 : okL L (k + 1) := okL_succ HOK.out (by rw [← HX.out]; omega)
                clear hw6 hmo ho4 hg4 hat4 hS4 hvq
                go_roundw
                case rel => exact ⟨k + 1, _, by omega, by go_num, hok6, hT6, hS6, Lib.hid hB6⟩
                case measure => simp [intOf]; omega
      · obtain rfl : k = n := by omega
        have hLk : L.length = k := HL.out
        have hVc : ∀ i, i < 16 → ∃ a c, V i = .slice a (cn L i) c := fun i hi => by
          obtain ⟨a, c, he, _, _⟩ := IntsAt.ofOwn (hS.own i hi) (fun z hz => wf_int (by have := sy_bound z hz; omega))
          exact ⟨a, c, by rw [he]; unfold cn; rw [hLk]⟩
        have hcn := cn_le L (by omega)
        have HF := Lib.hid (fits_any hT hVc hcn)
        have hall : allOk L = true := allOk_of (by rw [hLk]; exact hok)
        have hmk : mk L = if fitsB (cn L) (mo L k) = false then 4 else 0 := by
          unfold mk; rw [if_neg (by omega), if_neg (by rw [hall]; simp), hLk]
        have HMK := Lib.hid hmk
        have HS := Lib.hid hS
        have HT := Lib.hid hT
        have HOK := Lib.hid hok
        have HVC := Lib.hid hVc
        have HCN := Lib.hid hcn
        have HLK := Lib.hid hLk
        clear hT hS hok hVc hcn hall hmk hbw hLk
        go_wp2_with fail
        refine HF.out.mono ?_
        rintro e w2 ⟨rfl, rfl⟩
        cases hfb : fitsB (cn L) (mo L k) with
        | false =>
          have HM := Lib.hid (show mk L = 4 by rw [HMK.out, hfb]; rfl)
          clear hfb
          go_wp2_with fail
          go_ret2
          rw [HM.out]
          exact ⟨none, rfl, HBL.out, fun _ => rfl, fun h => by cases h⟩
        | true =>
          have HM := Lib.hid (show mk L = 0 by rw [HMK.out, hfb]; rfl)
          have hF0 : (fun i => if i < 1 then fw (cn L) i else 0) = fun (_ : Nat) => 0 := by
            funext i
            split
            · obtain rfl : i = 0 := by omega
              rfl
            · rfl
          have hT1 : TabBlk wr B (.slice a1 k c1) (fun i => if i < 1 then fw (cn L) i else 0) V (mo L k) := by rw [hF0]; exact HT.out
          have HS1 := HS
          clear hfb hF0 HT HS
          go_wp2_with fail
          go_loopw [7, 8] (fun s7 s8 wq => ∃ j : Nat, 1 ≤ j ∧ j ≤ 16 ∧ s8 = .int .i64 j ∧ s7 = .int .u32 ((wd (cn L) j : Nat) : Int) ∧ TabBlk wq B (.slice a1 k c1) (fun i => if i < j then fw (cn L) i else 0) V (mo L k) ∧ Syms wq B V L k ∧ Hid (Below B w1 wq)) (fun _ s8 _ => 16 - (intOf s8).toNat)
          case atStart => exact ⟨1, by omega, by omega, rfl, rfl, hT1, HS1.out, HBW⟩
          case round =>
            clear hT1 HS1
            obtain ⟨j, hj1, hj16, rfl, rfl, hT, hS, HBQ⟩ := hrel
            rename World => wq
            by_cases hj : j ≤ 15
            · have h2 := wd_two (cn L) hj1
              have h26 := fw_26 (cn L) HCN.out hj
              have hs := wd_succ (cn L) hj1
              have hcj := HCN.out j
              obtain ⟨aj, cj, hVj⟩ := HVC.out j (by omega)
              have c1' := hT.cF j (by omega)
              have f1' := hT.fr (1 + j)
              have c2' := hT.cV j (by omega)
              rw [hVj] at c2'
              have hTn := hT.setF j (by omega) (fw (cn L) j)
              have hfe : (fun i => if i = j then fw (cn L) j else if i < j then fw (cn L) i else 0) = fun i => if i < j + 1 then fw (cn L) i else 0 := by
                funext i
                by_cases e : i = j
                · subst e; rw [if_pos rfl, if_pos (by omega)]
                · rw [if_neg e]
                  by_cases g : i < j
                  · rw [if_pos g, if_pos (by omega)]
                  · rw [if_neg g, if_neg (by omega)]
              rw [hfe] at hTn
              have hBl := hT.lt
              obtain ⟨u, hu⟩ : ∃ u, u = wd (cn L) j := ⟨_, rfl⟩
              obtain ⟨f, hf⟩ : ∃ f, f = fw (cn L) j := ⟨_, rfl⟩
              obtain ⟨cj', hcj'⟩ : ∃ x, x = cn L j := ⟨_, rfl⟩
              rw [← hu, ← hf] at h2
              rw [← hf] at h26 hTn
              rw [← hf, ← hcj'] at hs
              rw [← hcj'] at hcj c2'
              rw [if_neg (by omega)] at c1'
              rw [← hu]
              have hfu : (u : Int) * 2 = (f : Int) := by omega
              have hjb : (j : Int) < 16 := by omega
              have HTN := Lib.hid hTn
              have HSN := Lib.hid hs
              have HS2 := Lib.hid hS
              have hub : u ≤ 13107200 := by omega
              clear hT hS hVj hfe hTn hu hf hcj' hs h2
              go_wp2_with fail
              generalize hwq : World.setCell _ _ _ = wq2
              have hTn := HTN.out
              rw [hwq] at hTn
              have hSn : Syms wq2 B V L k := HS2.out.same (fun i hi _ => by rw [← hwq]; exact heap_setCell_other _ _ _ _ hi)
              have hBn : Below B w1 wq2 := by rw [← hwq]; exact HBQ.out.setCell (Nat.le_refl _) _
              clear hwq
              go_roundw
              case rel => exact ⟨j + 1, by omega, by omega, by go_num, by rw [HSN.out]; go_num, hTn, hSn, Lib.hid hBn⟩
              case measure => simp [intOf]; omega
            · obtain rfl : j = 16 := by omega
              have hfin : TabBlk wq B (.slice a1 k c1) (fw (cn L)) V (mo L k) := by
                obtain ⟨cs, g1, g2, g3, g4, g5, g6⟩ := hT.blk
                exact ⟨cs, g1, g2, g3, fun i hi => by have := g4 i hi; rw [if_pos hi] at this; exact this, g5, g6⟩
              have hwB : w.heap.size ≤ B := by have := HB.out; have := HB1.out.size; omega
              have hBw : Below w.heap.size w wq := HB1.out.trans (HBQ.out.mono (by have := HB.out; have := HB1.out.size; omega))
              have hI : IntsAt .i64 wq a1 k c1 L := HI1.out.keep HBQ.out (by have := HB.out; omega)
              have HT9 := Lib.hid (show TabAt wq B L from ⟨⟨a1, k, c1, V, by rw [HLK.out]; exact hfin, hI, by rw [HLK.out]; exact hS⟩, by rw [HLK.out]; exact HOK.out, by rw [HLK.out]; omega⟩)
              have HBW9 := Lib.hid hBw
              clear hT hS hfin hBw hI
              go_wp2_with fail
              go_ret2
              rw [HM.out]
              exact ⟨some ⟨B, 0, none⟩, rfl, HBW9.out, fun h => absurd rfl h, fun _ => ⟨B, rfl, hwB, HT9.out⟩⟩
end Go.Proofs.YtpbijdoemdoijaaGreatDoor
end PkCa21_1
section PkCa21_2
/- Package prefix's Next, walked; what it reads, plainly. -/
namespace Go.Proofs.YtpbijdoemdoijaaGreatDoor
open Go.RowKit PrefPlain BitsPlain
set_option linter.unusedVariables false

namespace PrefPlain
/-- reading on: behind k bits that say W; what came of it: the symbol, the error, how many bits -/
def nx (L : List Int) (bit : Nat → Nat) (left : Nat) : Nat → Nat → Nat → Int × Nat × Nat
  | 0, k, _ => (0, 4, k)
  | f + 1, k, W =>
    if left ≤ k then (0, 3, k)
    else if 2 * W + bit k < fw (cn L) (k + 1) + cn L (k + 1) then ((sy L L.length (k + 1)).getD (2 * W + bit k - fw (cn L) (k + 1)) 0, 0, k + 1)
    else nx L bit left f (k + 1) (2 * W + bit k)
end PrefPlain
/-- as at any place of bytes -/
def rn (L : List Int) (xs : List Nat) (p : Nat) : Int × Nat × Nat := nx L (fun k => bitAt xs (p + k)) (8 * xs.length - p) (mo L L.length) 0 0

/-- behind k bits nothing was found -/
structure Yet (L : List Int) (xs : List Nat) (p k W : Nat) : Prop where
  eq : rn L xs p = nx L (fun k => bitAt xs (p + k)) (8 * xs.length - p) (mo L L.length - k) k W
  lt : W < 2 ^ k
  ge : fw (cn L) (k + 1) ≤ 2 * W

theorem mo_le {L : List Int} {k : Nat} (h : okL L k) : mo L k ≤ 15 := by
  induction k with
  | zero => simp [mo]
  | succ k ih =>
    have h1 := ih (fun s hs => h s (by omega))
    have h2 := h k (by omega)
    rw [mo]; omega

set_option maxRecDepth 100000 in
set_option maxHeartbeats 4000000 in
theorem next_any {w : World} {B R : Nat} {L : List Int} {a : Option Addr} {n c : Nat} {xs : List Nat} {p : Nat} (h : TabAt w B L) (hr : RdAt w R a n c xs p) (hBR : B ≠ R) (hSR : ∀ w', w.grownBy w' (some R) → TabAt w' B L) :
    Calls Tryz.prog 197 #[.pointer (some ⟨B, 0, none⟩), .pointer (some ⟨R, 0, none⟩)] w fun e w' => e = .returned (.tuple #[.int .i64 (rn L xs p).1, .int .i64 ((rn L xs p).2.1 : Int)]) ∧ RdAt w' R a n c xs (p + (rn L xs p).2.2) ∧ w.grownBy w' (some R) := by
  have HT := Lib.hid hSR
  have HR := Lib.hid hr
  have hsh := h.short
  have hmo := mo_le h.ok
  have hlen := hr.src.len
  have HL := Lib.hid hlen
  have hY0 : Yet L xs p 0 0 := ⟨rfl, by simp, by simp [fw]⟩
  obtain ⟨M, hM⟩ : ∃ M, M = mo L L.length := ⟨_, rfl⟩
  rw [← hM] at hmo
  have HM := Lib.hid hM
  have hle := hr.le
  have hrch := hr.src.reach
  have HSH := Lib.hid hsh
  clear h hr hSR hlen hM hsh
  go_enter Tryz.func197, Tryz.ntmps197
  go_wp2_with fail
  go_loopw [6, 7] (fun s6 s7 wr => ∃ k W : Nat, k ≤ M ∧ s7 = .int .i64 ((k : Int) + 1) ∧ s6 = .int .u32 (W : Int) ∧ Yet L xs p k W ∧ Hid (RdAt wr R a n c xs (p + k)) ∧ Hid (w.grownBy wr (some R))) (fun _ s7 _ => M + 1 - (intOf s7).toNat)
  case atStart => exact ⟨0, 0, by omega, by rfl, rfl, hY0, HR, Lib.hid (World.grownBy.refl _ _)⟩
  case round =>
    clear hY0
    obtain ⟨k, W, hk, rfl, rfl, hY, HRD, HG⟩ := hrel
    rename World => wr
    have hT := HT.out wr HG.out
    obtain ⟨la, ln, lc, V, hTB, hI, hS⟩ := hT.tab
    have cM := hTB.cM
    rw [← HM.out] at cM
    by_cases hkM : k < M
    · have heq := hY.eq
      rw [← HM.out, show M - k = (M - k - 1) + 1 from by omega] at heq
      rw [nx] at heq
      have hb := rbits_any HRD.out 1
      have hge := hY.ge
      have hlt := hY.lt
      by_cases hleft : 8 * xs.length - p ≤ k
      · rw [if_pos hleft] at heq
        have hrb : rb xs (p + k) 1 = (0, 3, p + k) := by
          unfold rb
          rw [if_neg (by omega), if_pos (by simp; omega)]
        rw [hrb] at hb
        have HBT := Lib.hid hb
        have HE := Lib.hid heq
        clear heq hb hrb hge hlt hY hT hTB hI hS
        go_wp2_with fail
        refine HBT.out.mono ?_
        rintro e w1 ⟨rfl, hr1, hg1⟩
        have HR1 := Lib.hid hr1
        have HG1 := Lib.hid (HG.out.trans' hg1)
        clear hr1 hg1
        go_wp2_with fail
        go_ret2
        rw [HE.out]
        exact ⟨rfl, HR1.out, HG1.out⟩
      · rw [if_neg hleft] at heq
        have hrb : rb xs (p + k) 1 = (bitAt xs (p + k), 0, p + k + 1) := by
          unfold rb
          rw [if_neg (by omega), if_neg (by simp; omega)]
          simp [num]
        rw [hrb] at hb
        obtain ⟨b, hbb⟩ : ∃ b, b = bitAt xs (p + k) := ⟨_, rfl⟩
        have hb2 : b < 2 := by rw [hbb]; exact bitAt_lt _ _
        rw [← hbb] at hb heq
        have HBT := Lib.hid hb
        have hk15 : k + 1 ≤ 15 := by omega
        have hcl := sy_len L L.length (k + 1)
        have h26 := fw_26 (cn L) (cn_le L HSH.out) hk15
        have hW15 : W < 32768 := Nat.lt_of_lt_of_le hlt (Nat.le_trans (Nat.pow_le_pow_right (by omega) (show k ≤ 15 by omega)) (by decide))
        obtain ⟨x, hx⟩ : ∃ x, x = 2 * W + b := ⟨_, rfl⟩
        have hE : bits .or .u32 ((W : Int) * 2) (b : Int) = (x : Int) := by
          have := u32_or_nat (2 * W) b (by omega) (by omega)
          rw [show ((2 * W : Nat) : Int) = (W : Int) * 2 from by omega] at this
          rw [this, hx, nat_join 1 (2 * W) b (by omega) (by omega)]
        obtain ⟨f, hf⟩ : ∃ f, f = fw (cn L) (k + 1) := ⟨_, rfl⟩
        obtain ⟨q, hq⟩ : ∃ q, q = cn L (k + 1) := ⟨_, rfl⟩
        have hql : q ≤ 320 := by rw [hq]; have := HSH.out; unfold cn; omega
        rw [← hf] at heq hge h26
        rw [← hq, ← hx] at heq
        have hxf : f ≤ x := by omega
        obtain ⟨d, hd⟩ : ∃ d, d = x - f := ⟨_, rfl⟩
        have hdi : (x : Int) - (f : Int) = (d : Int) := by omega
        rw [← hd] at heq
        have hx17 : x ≤ 65536 := by omega
        have HEQ := Lib.hid heq
        have HF := Lib.hid hf
        have HQ := Lib.hid hq
        have HXF := Lib.hid hx
        have HD := Lib.hid hd
        have HBB := Lib.hid hbb
        have HLT := Lib.hid hlt
        have hk15i : (k : Int) + 1 < 16 := by omega
        have hkMi : (k : Int) + 1 ≤ (M : Int) := by omega
        clear heq hf hq hx hd hb hrb hge hlt hY hT hTB hI hS hbb hcl
        go_wp2_with fail
        refine HBT.out.mono ?_
        rintro e w1 ⟨rfl, hr1, hg1⟩
        have HR1 := Lib.hid hr1
        have HG1 := Lib.hid (HG.out.trans' hg1)
        obtain ⟨la, ln, lc, V, hTB, hI, hS⟩ := (HT.out w1 HG1.out).tab
        have c1' := hTB.cF (k + 1) (by omega)
        obtain ⟨av, cv, hVn, hiv, _⟩ := IntsAt.ofOwn (hS.own (k + 1) (by omega)) (fun z hz => wf_int (by have := sy_bound z hz; have := HSH.out; omega))
        have c2' := hTB.cV (k + 1) (by omega)
        rw [hVn, show (sy L L.length (k + 1)).length = q from HQ.out.symm] at c2'
        rw [← HF.out] at c1'
        have HIV := Lib.hid hiv
        clear hr1 hg1 hTB hI hS hVn hiv cM
        by_cases hfound : (d : Int) < (q : Int)
        · have hcl : 0 < q := by omega
          obtain ⟨b', off, rfl, hlt', hcell⟩ := HIV.out.cells (by rw [show (sy L L.length (k + 1)).length = q from HQ.out.symm]; exact hcl)
          have hcd := hcell d (by rw [show (sy L L.length (k + 1)).length = q from HQ.out.symm]; omega)
          have HRN := Lib.hid (show rn L xs p = ((sy L L.length (k + 1)).getD d 0, 0, k + 1) by
            rw [HEQ.out, if_pos (by have := HD.out; omega)])
          clear hcell
          go_wp2_with fail
          go_ret2
          rw [HRN.out]
          exact ⟨rfl, HR1.out, HG1.out⟩
        · have hnf : (q : Int) ≤ (d : Int) := by omega
          have HY2 : Yet L xs p (k + 1) x := by
            refine ⟨?_, ?_, ?_⟩
            · rw [HEQ.out, if_neg (by have := HD.out; omega), ← HM.out, show M - (k + 1) = M - k - 1 from by omega]
            · have := HLT.out; rw [Nat.pow_succ]; have := HXF.out; omega
            · rw [fw_next (cn L) (by omega), ← HF.out, ← HQ.out]
              have := HD.out; omega
          clear hfound
          go_wp2_with fail
          go_roundw
          case rel => exact ⟨k + 1, x, by omega, by go_num, rfl, HY2, HR1, HG1⟩
          case measure => simp [intOf]; omega
    · obtain rfl : k = M := by omega
      have heq := hY.eq
      rw [← HM.out, Nat.sub_self] at heq
      have HE := Lib.hid (show rn L xs p = (0, 4, k) from heq)
      have hkMi : (k : Int) < (k : Int) + 1 := by omega
      clear heq hY hT hTB hI hS
      go_wp2_with fail
      go_ret2
      rw [HE.out]
      exact ⟨rfl, HRD.out, HG.out⟩
end Go.Proofs.YtpbijdoemdoijaaGreatDoor
end PkCa21_2
