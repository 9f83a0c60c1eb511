/- Package bits' Writer: put, Bits, Code, Bytes, walked. A writer is its bits. Condition: fewer than 100,000 bits. -/
import Derived.Test.YteggmbfhfoijoaaDoorTwin
import Derived.Test.YteggmbfhfoijoaaDoorBitsPack
import Derived.Maps.AppendAt
import Derived.StillTailTactics
import Derived.BigRegion
namespace Go.Proofs.YteggmbfhfoijoaaDoor
open Go.RowKit BitsPlain
set_option linter.unusedVariables false

/-- a writer's block, and the bytes that it owns: those of its bits -/
structure WrAt (w : World) (B base : Nat) (v : Value) (l : List Nat) : Prop where
  blk : w.heap[B]? = some (.cells #[v, .int .i64 (l.length : Int)] 65 (0, 0))
  own : w.ownsRow base 5 1 v (pack l).length (bv (pack l))
  bin : Bin l

/-- what a writer's call may turn: its block, the row of its bytes -/
structure Touch (w w' : World) (B : Nat) (v : Value) : Prop where
  os : w'.os = w.os
  tape : w'.tape = w.tape
  output : w'.output = w.output
  size : w.heap.size ≤ w'.heap.size
  block : ∀ k, k < w.heap.size → k ≠ B → some k ≠ v.ownBlock → w'.heap[k]? = w.heap[k]?

/-- where its bytes lie behind: where they lay, or in a new block -/
def Went (w : World) (v v' : Value) : Prop := v'.ownBlock = v.ownBlock ∨ ∃ g, v'.ownBlock = some g ∧ w.heap.size ≤ g

theorem Touch.refl (w : World) (B : Nat) (v : Value) : Touch w w B v := ⟨rfl, rfl, rfl, Nat.le_refl _, fun _ _ _ _ => rfl⟩
theorem Touch.drew {w w' : World} {B : Nat} {v : Value} (h : Touch w w' B v) : Touch w w'.drew B v := ⟨h.os, h.tape, h.output, h.size, h.block⟩
theorem Went.refl (w : World) (v : Value) : Went w v v := Or.inl rfl
theorem Touch.trans {a b c : World} {B : Nat} {v v' : Value} (h : Touch a b B v) (hw : Went a v v') (k : Touch b c B v') : Touch a c B v :=
  ⟨k.os.trans h.os, k.tape.trans h.tape, k.output.trans h.output, Nat.le_trans h.size k.size, fun i hi hB hv => (k.block i (Nat.lt_of_lt_of_le hi h.size) hB (by
    rcases hw with e | ⟨g, e, hg⟩
    · rw [e]; exact hv
    · rw [e]; intro e2; have := Option.some.inj e2; omega)).trans (h.block i hi hB hv)⟩
theorem Went.trans {a b : World} {v v' v'' : Value} (h : Went a v v') (hs : a.heap.size ≤ b.heap.size) (k : Went b v' v'') : Went a v v'' := by
  rcases k with e | ⟨g, e, hg⟩
  · rcases h with e2 | ⟨g, e2, hg⟩
    · exact Or.inl (e.trans e2)
    · exact Or.inr ⟨g, e.trans e2, hg⟩
  · exact Or.inr ⟨g, e, by omega⟩
theorem Touch.below {w0 w w' : World} {B : Nat} {v : Value} (h : Below w0.heap.size w0 w) (ht : Touch w w' B v) (hB : w0.heap.size ≤ B) (hv : ∀ k, v.ownBlock = some k → w0.heap.size ≤ k) : Below w0.heap.size w0 w' :=
  ⟨ht.os.trans h.os, ht.tape.trans h.tape, ht.output.trans h.output, Nat.le_trans h.size ht.size, fun k hk => (ht.block k (Nat.lt_of_lt_of_le hk h.size) (by omega) (fun e => by have := hv k e.symm; omega)).trans (h.block k hk)⟩

section
variable {w : World} {B base : Nat} {v : Value} {l : List Nat}
theorem WrAt.c0 (h : WrAt w B base v l) : w.cell? ⟨B, 0, none⟩ = some v := by rw [cell_of_row w B 0 _ _ (0, 0) h.blk]; rfl
theorem WrAt.c1 (h : WrAt w B base v l) : w.cell? ⟨B, 1, none⟩ = some (.int .i64 (l.length : Int)) := by rw [cell_of_row w B 1 _ _ (0, 0) h.blk]; rfl
theorem WrAt.f (h : WrAt w B base v l) (j : Nat) : w.frozen? ⟨B, j, none⟩ = false := frozen_of_row w B j _ _ h.blk
theorem WrAt.lt (h : WrAt w B base v l) : B < w.heap.size := (Array.getElem?_eq_some_iff.1 h.blk).1
theorem WrAt.ne (h : WrAt w B base v l) : v.ownBlock ≠ some B := by
  intro e
  rcases h.own.2 with ⟨h0, _⟩ | ⟨g, cap, cur, h0, _, hh, _⟩
  · subst h0; cases e
  · subst h0
    simp [Value.ownBlock] at e
    subst e
    rw [h.blk] at hh
    simp at hh
/-- another's writes leave it -/
theorem WrAt.other {w' : World} (h : WrAt w B base v l) {B' : Nat} {u : Value} (ht : Touch w w' B' u) (hB : B ≠ B') (hu : some B ≠ u.ownBlock) (hv : ∀ k, v.ownBlock = some k → k ≠ B' ∧ some k ≠ u.ownBlock) : WrAt w' B base v l := by
  refine ⟨(ht.block B h.lt hB hu).trans h.blk, ?_, h.bin⟩
  refine ⟨h.own.1, ?_⟩
  rcases h.own.2 with h0 | ⟨g, cap, cur, rfl, hb, hg, rest⟩
  · exact Or.inl h0
  · obtain ⟨n1, n2⟩ := hv g rfl
    exact Or.inr ⟨g, cap, cur, rfl, hb, (ht.block g (Array.getElem?_eq_some_iff.1 hg).1 n1 n2).trans hg, rest⟩
end

theorem bv_set (l : List Nat) (j y : Nat) : bv (l.set j y) = (bv l).set j (.int .u8 (y : Int)) := by simp [bv, List.map_set]

theorem put_end {w2 : World} {B base g cap n : Nat} {bs : List Nat} (hb : w2.heap[B]? = some (.cells #[.slice (some ⟨g, 0, none⟩) bs.length cap, .int .i64 (n : Int)] 65 (0, 0)))
    (ho : w2.ownsRow base 5 1 (.slice (some ⟨g, 0, none⟩) bs.length cap) bs.length (bv bs)) (hgB : g ≠ B) (j y : Nat) :
    ((w2.setCell ⟨g, j, none⟩ (.int .u8 (y : Int))).setCell ⟨B, 1, none⟩ (.int .i64 ((n : Int) + 1))).heap[B]? = some (.cells #[.slice (some ⟨g, 0, none⟩) bs.length cap, .int .i64 ((n + 1 : Nat) : Int)] 65 (0, 0)) ∧
    ((w2.setCell ⟨g, j, none⟩ (.int .u8 (y : Int))).setCell ⟨B, 1, none⟩ (.int .i64 ((n : Int) + 1))).ownsRow base 5 1 (.slice (some ⟨g, 0, none⟩) bs.length cap) bs.length (bv (bs.set j y)) ∧
    Touch w2 ((w2.setCell ⟨g, j, none⟩ (.int .u8 (y : Int))).setCell ⟨B, 1, none⟩ (.int .i64 ((n : Int) + 1))) B (.slice (some ⟨g, 0, none⟩) bs.length cap) := by
  have h1 : (w2.setCell ⟨g, j, none⟩ (.int .u8 (y : Int))).heap[B]? = some (.cells #[.slice (some ⟨g, 0, none⟩) bs.length cap, .int .i64 (n : Int)] 65 (0, 0)) := by
    rw [heap_setCell_other _ _ _ _ (show B ≠ g from fun e => hgB e.symm)]; exact hb
  refine ⟨?_, ?_, ⟨rfl, rfl, rfl, by simp, fun k hk hkB hkv => ?_⟩⟩
  · rw [heap_setCell_same _ B 1 _ _ _ h1]; rfl
  · rw [bv_set]
    exact ownsRow_setCell_other (ho.stored j (.int .u8 (y : Int))).1 (by simp [Value.ownBlock]; exact hgB) _
  · have hkg : k ≠ g := fun e => hkv (by rw [e]; rfl)
    rw [heap_setCell_other _ _ _ _ hkB, heap_setCell_other _ _ _ _ hkg]

set_option maxRecDepth 100000 in
set_option maxHeartbeats 4000000 in
theorem put_any {w : World} {B base : Nat} {v : Value} {l : List Nat} (h : WrAt w B base v l) (hbase : base ≤ w.heap.size) (hlen : l.length ≤ 10000000) (b : Nat) (hb : b < 2) :
    Calls Tryd.prog 57 #[.pointer (some ⟨B, 0, none⟩), .int .u32 (b : Int)] w fun e w' => e = .returned (.tuple #[]) ∧ ∃ v', WrAt w' B base v' (l ++ [b]) ∧ Touch w w' B v ∧ Went w v v' := by
  obtain ⟨i0, hi, hz0, hz1, hz2⟩ := info_parts info_u8
  have h0 := h.c0
  have h1 := h.c1
  have f0 := h.f 0
  have f1 := h.f 1
  have hne := h.ne
  have hpl := pack_length l
  by_cases h8 : l.length % 8 = 0
  · have z8 : ((l.length : Int) % 8 == 0) = true := by rw [beq_iff_eq]; omega
    have HH := Lib.hid h
    have HNE := Lib.hid hne
    have HPL := Lib.hid hpl
    have hown := h.own
    have hown1 := hown.alloc (.cells #[.int .u8 0] 5)
    obtain ⟨pl, hpl2⟩ : ∃ n, n = (pack l).length := ⟨_, rfl⟩
    rw [← hpl2] at hown1
    have hplb : pl ≤ 1250001 := by omega
    have HP2 := Lib.hid hpl2
    have HO1 := Lib.hid hown1
    clear h hown hown1 hne hpl hpl2
    go_enter Tryd.func57, Tryd.ntmps57
    go_wp2_with (at_builtin; refine wpList_append_own_at _ rfl (.tmp 14) (.tmp 15) 24 rfl base 5 i0 (.int .u8 0) 1 1 Tryd.underlying24 hi hz0 hz1 hz2 rfl (by decide) _ _ _ rfl HO1.out ⟨w.heap.size, 0, none⟩ 1 1 [.int .u8 0] rfl rfl (one_src _ _ _) (one_oneCell rfl) (by unfold maxLen; omega) (by omega) (by simp; omega) ?_)
    intro v' w1 hown' hgrow _ hat
    have hbk : w1.heap[B]? = some (.cells #[v, .int .i64 (l.length : Int)] 65 (0, 0)) := by
      rw [hgrow.block B (by have := HH.out.lt; simp; omega) (fun e => HNE.out e.symm), Below.heap_alloc w _ B HH.out.lt]
      exact HH.out.blk
    have g0 : w1.cell? ⟨B, 0, none⟩ = some v := by rw [cell_of_row w1 B 0 _ _ (0, 0) hbk]; rfl
    have gf : w1.frozen? ⟨B, 0, none⟩ = false := frozen_of_row w1 B 0 _ _ hbk
    rcases hown'.2 with ⟨_, hn0⟩ | ⟨g, cap, cur, rfl, hbg, hgh, hgn, hgc, hgs, htk⟩
    · exact absurd hn0 (by omega)
    have hgB : g ≠ B := by
      intro e
      subst e
      rw [hgh] at hbk
      simp at hbk
    -- the world behind the append and the store
    obtain ⟨w2, hw2⟩ : ∃ w2, w2 = w1.setCell ⟨B, 0, none⟩ (.slice (some ⟨g, 0, none⟩) (pl + 1) cap) := ⟨_, rfl⟩
    have hb2 : w2.heap[B]? = some (.cells #[.slice (some ⟨g, 0, none⟩) (pl + 1) cap, .int .i64 (l.length : Int)] 65 (0, 0)) := by
      rw [hw2, heap_setCell_same w1 B 0 _ _ _ hbk]; rfl
    have ho2 : w2.ownsRow base 5 1 (.slice (some ⟨g, 0, none⟩) (pl + 1) cap) (pl + 1) (bv (pack l ++ [0])) := by
      rw [hw2, bv_append]
      exact ownsRow_setCell_other hown' (by simp [Value.ownBlock]; exact hgB) _
    have m0 : w2.cell? ⟨B, 0, none⟩ = some (.slice (some ⟨g, 0, none⟩) (pl + 1) cap) := by rw [cell_of_row w2 B 0 _ _ (0, 0) hb2]; rfl
    have m1 : w2.cell? ⟨B, 1, none⟩ = some (.int .i64 (l.length : Int)) := by rw [cell_of_row w2 B 1 _ _ (0, 0) hb2]; rfl
    have mf : w2.frozen? ⟨B, 1, none⟩ = false := frozen_of_row w2 B 1 _ _ hb2
    have mg : w2.frozen? ⟨g, l.length / 8, none⟩ = false := ho2.frozenAt _
    have hpe : pl = l.length / 8 := by have := HP2.out; have := HPL.out; omega
    have mc : w2.cell? ⟨g, l.length / 8, none⟩ = some (.int .u8 0) := by
      have hl2 : (pack l).length = l.length / 8 := by rw [← HP2.out, hpe]
      rw [ho2.cellAt (l.length / 8) (by omega)]
      have : (bv (pack l ++ [0]))[l.length / 8]? = some (Value.int .u8 ((0 : Nat) : Int)) := by
        rw [← hl2]; simp [bv]
      simpa using this
    have ht2 : Touch w w2 B v := by
      rw [hw2]
      refine ⟨hgrow.os, hgrow.tape, hgrow.output, ?_, fun k hk hkB hkv => ?_⟩
      · have := hgrow.size; simp at this ⊢; omega
      · rw [heap_setCell_other _ _ _ _ hkB, hgrow.block k (by simp; omega) hkv, Below.heap_alloc w _ k hk]
    have hwt : Went w v (.slice (some ⟨g, 0, none⟩) (pl + 1) cap) := by
      rcases hat with e | e
      · exact Or.inl e
      · exact Or.inr ⟨_, e, by simp⟩
    have hnk : ((l.length : Int) / 8) < ((pl + 1 : Nat) : Int) := by omega
    have hn0 : (0 : Int) ≤ (l.length : Int) / 8 := by omega
    have HW2 := Lib.hid hw2
    have HB2 := Lib.hid hb2
    have HO2 := Lib.hid ho2
    have HT2 := Lib.hid ht2
    have HWT := Lib.hid hwt
    have HPE := Lib.hid hpe
    clear hown' hgrow hat hbk hbg hgh hgn hgc hgs htk hw2 hb2 ho2 ht2 hwt hpe
    go_wp2_with fail
    rw [← HW2.out]
    go_wp2_with fail
    go_region
    go_wp2_with fail
    go_end0
    have e0 : bits BinOp.or IntKind.u8 0 ((b : Int) % 4294967296) = ((b : Nat) : Int) := by
      have h := or_byte (x := 0) (b := b) (s := 0) (by omega) (by omega) hb
      simp only [Nat.pow_zero, Nat.mul_one, Nat.zero_add, Int.pow_zero, Int.mul_one] at h
      rw [show (b : Int) % 4294967296 = (b : Int) from by omega]
      exact h
    rw [e0]
    have hpe := HPE.out
    have hl2 : (pack l).length = l.length / 8 := by rw [← HP2.out, hpe]
    have hbl : (pack l ++ [0]).length = pl + 1 := by rw [List.length_append, ← HP2.out]; rfl
    obtain ⟨r1, r2, r3⟩ := put_end (bs := pack l ++ [0]) (base := base) (by rw [hbl]; exact HB2.out) (by rw [hbl]; exact HO2.out) hgB (l.length / 8) b
    have hset : (pack l ++ [0]).set (l.length / 8) b = pack (l ++ [b]) := by
      rw [pack_new b h8, ← hl2]; simp
    rw [hset, hbl] at r2
    rw [hbl] at r1 r3
    have hpn : (pack (l ++ [b])).length = pl + 1 := by rw [← hset, List.length_set, hbl]
    refine ⟨rfl, _, ⟨by rw [List.length_append]; exact r1, by rw [hpn]; exact r2, HH.out.bin.snoc hb⟩, ?_, HWT.out⟩
    exact HT2.out.trans HWT.out r3.drew
  · have z8 : ((l.length : Int) % 8 == 0) = false := by rw [beq_eq_false_iff_ne]; omega
    rcases h.own.2 with ⟨_, hn0⟩ | ⟨g, cap, cur, rfl, hbg, hgh, hgn, hgc, hgs, htk⟩
    · exact absurd hn0 (by omega)
    have hgB : g ≠ B := fun e => hne (by rw [e]; rfl)
    have hlt : l.length / 8 < (pack l).length := by omega
    obtain ⟨x, hx⟩ : ∃ x, x = (pack l).getD (l.length / 8) 0 := ⟨_, rfl⟩
    have hxl : x < 2 ^ (l.length % 8) := by rw [hx]; exact pack_last h.bin
    have mg : w.frozen? ⟨g, l.length / 8, none⟩ = false := h.own.frozenAt _
    have mc : w.cell? ⟨g, l.length / 8, none⟩ = some (.int .u8 (x : Int)) := by
      rw [h.own.cellAt (l.length / 8) (by omega), bv_get _ _ hlt, ← hx]
    obtain ⟨pl, hpl2⟩ : ∃ n, n = (pack l).length := ⟨_, rfl⟩
    have HH := Lib.hid h
    have HX := Lib.hid hx
    have HXL := Lib.hid hxl
    have HP2 := Lib.hid hpl2
    rw [← hpl2] at h0 hgn hlt
    rw [← hpl2]
    have hnk : ((l.length : Int) / 8) < (pl : Int) := by omega
    have hn0 : (0 : Int) ≤ (l.length : Int) / 8 := by omega
    clear h hx hxl hpl hpl2 hne hbg hgh hgc hgs htk
    go_enter Tryd.func57, Tryd.ntmps57
    go_wp2_with fail
    go_region
    go_wp2_with fail
    go_end0
    have hpp : (2 : Nat) ^ (l.length % 8) ≤ 2 ^ 7 := Nat.pow_le_pow_right (by omega) (by omega)
    have h27 : (2 : Nat) ^ 7 = 128 := by decide
    have h1b : b * 2 ^ (l.length % 8) ≤ 1 * 2 ^ (l.length % 8) := Nat.mul_le_mul_right _ (by omega)
    have e0 : bits BinOp.or IntKind.u8 (x : Int) ((b : Int) * 2 ^ (l.length % 8) % 256) = ((x + b * 2 ^ (l.length % 8) : Nat) : Int) := by
      rw [← or_byte HXL.out (by omega) hb]
      have e1 : (b : Int) * 2 ^ (l.length % 8) = ((b * 2 ^ (l.length % 8) : Nat) : Int) := by push_cast; rfl
      rw [e1, show ((b * 2 ^ (l.length % 8) : Nat) : Int) % 256 = ((b * 2 ^ (l.length % 8) : Nat) : Int) from by omega]
    rw [e0]
    have hb' := HH.out.blk
    have ho' := HH.out.own
    obtain ⟨r1, r2, r3⟩ := put_end (bs := pack l) (base := base) hb' ho' hgB (l.length / 8) (x + b * 2 ^ (l.length % 8))
    rw [HX.out, ← pack_old b h8] at r2
    have hpn : (pack (l ++ [b])).length = (pack l).length := by rw [pack_old b h8, List.length_set]
    rw [← HP2.out] at r1 r2 r3 hpn
    rw [HX.out]
    rw [HX.out] at r1 r3
    refine ⟨rfl, _, ⟨by rw [List.length_append]; exact r1, by rw [hpn]; exact r2, HH.out.bin.snoc hb⟩, r3.drew, Went.refl _ _⟩
end Go.Proofs.YteggmbfhfoijoaaDoor
