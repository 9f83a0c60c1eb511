/- Package inflate: put, walked: one byte out. -/
import Derived.Test.YtnfdojdppifmoaaDoorInfObj
import Derived.Test.YtnfdojdppifmoaaDoorBitsWriter
namespace Go.Proofs.YtnfdojdppifmoaaDoor
open Go.RowKit PrefPlain BitsPlain InfPlain
set_option linter.unusedVariables false

theorem ne_inf_u8 : (41 : TypeId) ≠ 5 := by decide
theorem own_neI {w : World} {base : Nat} {v : Value} {n : Nat} {xs : List Value} {B R most : Nat} {u : Value} {fl fd : Option Addr} (h : w.ownsRow base 5 1 v n xs) (hb : InBlk w B R u most fl fd) : v.ownBlock ≠ some B := by
  intro e1
  rcases h.2 with ⟨h0, _⟩ | ⟨g, cap, cur, h0, _, hh, _⟩
  · subst h0; cases e1
  · subst h0
    simp [Value.ownBlock] at e1
    subst e1
    rw [hb.blk] at hh
    simp at hh
theorem touch_drewN (w : World) (q B : Nat) (v : Value) : Touch w (w.drewN q) B v := ⟨rfl, rfl, rfl, Nat.le_refl _, fun _ _ _ _ => rfl⟩
/-- a row's append, and the store of what it gave -/
theorem out_step {w1 w2 : World} {B R base n most : Nat} {v v2 : Value} {xs : List Value} {ys : List Value} {fl fd : Option Addr} (o : Obj) (hb : InBlk w1 B R v most fl fd) (ho : w1.ownsRow base 5 1 v n ys) (h2 : w2.ownsRow base 5 1 v2 (n + 1) xs) (hg : (w1.alloc o).grownBy w2 v.ownBlock) :
    InBlk w2 B R v most fl fd ∧ InBlk (w2.setCell ⟨B, 1, none⟩ v2) B R v2 most fl fd ∧ (w2.setCell ⟨B, 1, none⟩ v2).ownsRow base 5 1 v2 (n + 1) xs ∧ Touch w1 (w2.setCell ⟨B, 1, none⟩ v2) B v := by
  have hne := own_neI ho hb
  have hb2 : InBlk w2 B R v most fl fd := ⟨by
    rw [hg.block B (by have := hb.lt; simp; omega) (fun e => hne e.symm), Below.heap_alloc w1 _ B hb.lt]
    exact hb.blk⟩
  have hne2 := own_neI h2 hb2
  refine ⟨hb2, ⟨by rw [heap_setCell_same w2 B 1 _ _ _ hb2.blk]; rfl⟩, ?_, ?_⟩
  · refine ⟨h2.1, ?_⟩
    rcases h2.2 with h0 | ⟨g, cap, cur, rfl, hb', hg', rest⟩
    · exact Or.inl h0
    · refine Or.inr ⟨g, cap, cur, rfl, hb', ?_, rest⟩
      rw [heap_setCell_other _ _ _ _ (fun e => hne2 (by rw [e]; rfl))]
      exact hg'
  · refine ⟨hg.os, hg.tape, hg.output, ?_, fun k hk hkB hkv => ?_⟩
    · have := hg.size; simp at this ⊢; omega
    · rw [heap_setCell_other _ _ _ _ hkB, hg.block k (by simp; omega) hkv, Below.heap_alloc w1 _ k hk]

set_option maxRecDepth 100000 in
set_option maxHeartbeats 2000000 in
theorem iput_any {w : World} {B R base most : Nat} {v : Value} {o : List Nat} {fl fd : Option Addr} (hb : InBlk w B R v most fl fd) (ho : w.ownsRow base 5 1 v o.length (bv o)) (hby : ∀ x ∈ o, x < 256) (hbase : base ≤ w.heap.size) (hlim : o.length ≤ most) (hm : most ≤ 65536) (x : Nat) (hx : x < 256) :
    Calls Tryd.prog 37 #[.pointer (some ⟨B, 0, none⟩), .int .u8 (x : Int)] w fun e w' =>
      (most < o.length + 1 ∧ e = .returned (.int .i64 5) ∧ Touch w w' B v) ∨
      (o.length + 1 ≤ most ∧ e = .returned (.int .i64 0) ∧ Touch w w' B v ∧ ∃ v', InBlk w' B R v' most fl fd ∧ w'.ownsRow base 5 1 v' (o.length + 1) (bv (o ++ [x])) ∧ Went w v v') := by
  obtain ⟨i0, hi, hz0, hz1, hz2⟩ := info_parts info_u8
  obtain ⟨a, c, rfl, hby', _⟩ := BytesAt.ofOwn ho hby (by omega)
  have HR := Lib.hid (room_any hb hlim hm 1 (by omega))
  have HB := Lib.hid hb
  have HO := Lib.hid ho
  obtain ⟨n, hn⟩ : ∃ n, n = o.length := ⟨_, rfl⟩
  rw [← hn] at HB HO HR hlim ⊢
  clear hb ho hby' hn
  by_cases hr : n + 1 ≤ most
  · have hd : decide (n + 1 ≤ most) = true := decide_eq_true hr
    rw [hd] at HR
    clear hd
    go_enter Tryd.func37, Tryd.ntmps37
    go_wp2_with fail
    refine HR.out.mono ?_
    rintro e w1 ⟨rfl, q, hq⟩
    have hb1 : InBlk w1 B R (.slice a n c) most fl fd := by rw [hq]; exact HB.out.other rfl
    have ho1 : w1.ownsRow base 5 1 (.slice a n c) n (bv o) := by rw [hq]; exact own_below HO.out ⟨rfl, rfl, rfl, Nat.le_refl _, fun _ _ => rfl⟩
    have HT1 := Lib.hid (show Touch w w1 B (.slice a n c) by rw [hq]; exact touch_drewN _ _ _ _)
    have hbase1 : base ≤ w1.heap.size := by rw [hq]; exact hbase
    have c1 := hb1.c1
    have HB1 := Lib.hid hb1
    have HO1 := Lib.hid ho1
    have HOA := Lib.hid (ho1.alloc (.cells #[.int .u8 (x : Int)] 5))
    clear hb1 ho1 hq
    go_wp2_with (at_builtin; refine wpList_append_own_at _ rfl (.tmp 12) (.tmp 14) 22 rfl base 5 i0 (.int .u8 0) 1 1 Tryd.underlying22 hi hz0 hz1 hz2 rfl (by decide) _ _ _ rfl HOA.out ⟨w1.heap.size, 0, none⟩ 1 1 [.int .u8 (x : Int)] rfl rfl (one_src _ _ _) (one_oneCell rfl) (by unfold maxLen; omega) (by omega) (by simp; omega) ?_)
    intro v2 w2 hown2 hg2 _ hat2
    have hwent : Went w1 (.slice a n c) v2 := by
      rcases hat2 with e | e
      · exact .inl e
      · exact .inr ⟨_, e, by simp⟩
    have HWT := Lib.hid ((Went.refl w (.slice a n c)).trans HT1.out.size hwent)
    clear hwent hat2
    obtain ⟨g2, cc2, rfl⟩ := own_some hown2 (by omega)
    obtain ⟨hb2, hb3, ho3, ht3⟩ := out_step _ HB1.out HO1.out hown2 hg2
    have c2 := hb2.c1
    have f2 := hb2.f 1
    have HB3 := Lib.hid hb3
    have HO3 := Lib.hid ho3
    have HT3 := Lib.hid (HT1.out.trans (Went.refl _ _) ht3)
    clear hb2 hb3 ho3 ht3 hown2 hg2 c1
    go_wp2_with fail
    go_ret
    exact .inr ⟨hr, rfl, HT3.out, _, HB3.out, by rw [bv_append]; exact HO3.out, HWT.out⟩
  · have hd : decide (n + 1 ≤ most) = false := decide_eq_false hr
    rw [hd] at HR
    clear hd
    go_enter Tryd.func37, Tryd.ntmps37
    go_wp2_with fail
    refine HR.out.mono ?_
    rintro e w1 ⟨rfl, q, hq⟩
    have HT1 := Lib.hid (show Touch w w1 B (.slice a n c) by rw [hq]; exact touch_drewN _ _ _ _)
    clear hq
    go_wp2_with fail
    go_ret
    exact .inl ⟨by omega, rfl, HT1.out⟩
end Go.Proofs.YtnfdojdppifmoaaDoor
