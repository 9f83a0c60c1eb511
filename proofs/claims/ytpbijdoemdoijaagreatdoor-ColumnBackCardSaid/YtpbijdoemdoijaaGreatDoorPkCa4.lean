/- Texts put together by packtpl2.py: BitsPack, BitsWriter, BitsWriter2, SqLet. -/
import Derived.Test.YtpbijdoemdoijaaGreatDoorPkCa1
import Derived.Test.YtpbijdoemdoijaaGreatDoorPkCa3
import Derived.Maps.AppendAt
import Derived.StillTailTactics
import Derived.BigRegion
section PkCa4_0
/- Plain facts on bits into bytes. No Go in sight. -/
namespace Go.Proofs.YtpbijdoemdoijaaGreatDoor.BitsPlain
open Go

def bsum (l : List Nat) (p : Nat) : Nat → Nat
  | 0 => 0
  | k + 1 => bsum l p k + l.getD (p + k) 0 * 2 ^ k
/-- bits as bytes, the lowest first, noughts behind the last -/
def pack (l : List Nat) : List Nat := (List.range ((l.length + 7) / 8)).map fun j => bsum l (8 * j) 8

theorem pack_length (l : List Nat) : (pack l).length = (l.length + 7) / 8 := by simp [pack]

def Bin (l : List Nat) : Prop := ∀ x ∈ l, x < 2
theorem Bin.get {l : List Nat} (h : Bin l) (p : Nat) : l.getD p 0 < 2 := by
  rcases Nat.lt_or_ge p l.length with g | g
  · have : l.getD p 0 = l[p] := by simp [g]
    rw [this]; exact h _ (List.getElem_mem g)
  · have : l.getD p 0 = 0 := by simp [g]
    omega
theorem Bin.snoc {l : List Nat} (h : Bin l) {b : Nat} (hb : b < 2) : Bin (l ++ [b]) := by
  intro x hx
  rcases List.mem_append.1 hx with g | g
  · exact h x g
  · simp at g; omega
theorem Bin.app {l r : List Nat} (h : Bin l) (hr : Bin r) : Bin (l ++ r) := by
  intro x hx
  rcases List.mem_append.1 hx with g | g
  · exact h x g
  · exact hr x g

theorem bsum_lt {l : List Nat} (h : Bin l) (p : Nat) : ∀ k, bsum l p k < 2 ^ k
  | 0 => by simp [bsum]
  | k + 1 => by
    have h1 := bsum_lt h p k
    have h2 := h.get (p + k)
    have h3 : l.getD (p + k) 0 * 2 ^ k ≤ 1 * 2 ^ k := Nat.mul_le_mul_right _ (by omega)
    have h4 : (2 : Nat) ^ (k + 1) = 2 ^ k * 2 := Nat.pow_succ ..
    simp only [bsum]
    omega
theorem bsum_end (l : List Nat) (p : Nat) : ∀ k, l.length ≤ p + k → ∀ m, bsum l p (k + m) = bsum l p k
  | k, h, 0 => rfl
  | k, h, m + 1 => by
    have h1 := bsum_end l p k h m
    have h2 : l.getD (p + (k + m)) 0 = 0 := by simp [show l.length ≤ p + (k + m) by omega]
    show bsum l p (k + m) + l.getD (p + (k + m)) 0 * 2 ^ (k + m) = _
    rw [h1, h2, Nat.zero_mul, Nat.add_zero]
theorem bsum_snoc (l : List Nat) (b p : Nat) : ∀ k, bsum (l ++ [b]) p k = bsum l p k + (if p ≤ l.length ∧ l.length < p + k then b * 2 ^ (l.length - p) else 0)
  | 0 => by rw [if_neg (by omega)]; rfl
  | k + 1 => by
    have h1 := bsum_snoc l b p k
    simp only [bsum]
    rw [h1]
    rcases Nat.lt_trichotomy (p + k) l.length with g | g | g
    · have e : (l ++ [b]).getD (p + k) 0 = l.getD (p + k) 0 := by simp [List.getElem?_append_left g]
      rw [e, if_neg (by omega), if_neg (by omega)]; omega
    · have e : (l ++ [b]).getD (p + k) 0 = b := by rw [g]; simp
      have e2 : l.getD (p + k) 0 = 0 := by simp [show l.length ≤ p + k by omega]
      rw [e, e2, if_neg (by omega), if_pos (by omega), show l.length - p = k by omega]
      omega
    · have e : (l ++ [b]).getD (p + k) 0 = 0 := by simp [show l.length + 1 ≤ p + k by omega]
      have e2 : l.getD (p + k) 0 = 0 := by simp [show l.length ≤ p + k by omega]
      rw [e, e2]
      by_cases hp : p ≤ l.length
      · rw [if_pos (by omega), if_pos (by omega)]; omega
      · rw [if_neg (by omega), if_neg (by omega)]; omega

theorem pack_get (l : List Nat) (j : Nat) : (pack l).getD j 0 = bsum l (8 * j) 8 := by
  rcases Nat.lt_or_ge j ((l.length + 7) / 8) with g | g
  · simp [pack, g]
  · have e : (pack l).getD j 0 = 0 := by simp [pack, g]
    have h := bsum_end l (8 * j) 0 (by omega) 8
    rw [e]
    simpa [bsum] using h.symm
theorem pack_byte {l : List Nat} (h : Bin l) : ∀ x ∈ pack l, x < 256 := by
  intro x hx
  simp only [pack, List.mem_map] at hx
  obtain ⟨j, _, rfl⟩ := hx
  exact bsum_lt h _ 8

theorem ext_getD {l r : List Nat} (hl : l.length = r.length) (h : ∀ j, j < l.length → l.getD j 0 = r.getD j 0) : l = r := by
  apply List.ext_getElem hl
  intro j h1 h2
  have := h j h1
  simpa [h1, h2] using this

/-- one bit more, at the beginning of a byte -/
theorem pack_new {l : List Nat} (b : Nat) (h8 : l.length % 8 = 0) : pack (l ++ [b]) = pack l ++ [b] := by
  apply ext_getD
  · simp [pack_length]; omega
  · intro j hj
    rw [pack_length] at hj
    simp only [List.length_append, List.length_cons, List.length_nil] at hj
    rw [pack_get, bsum_snoc]
    rcases Nat.lt_or_ge j (l.length / 8) with g | g
    · rw [if_neg (by omega)]
      have e : (pack l ++ [b]).getD j 0 = (pack l).getD j 0 := by simp [List.getElem?_append_left (show j < (pack l).length by rw [pack_length]; omega)]
      rw [e, pack_get]; rfl
    · have hj2 : j = (pack l).length := by rw [pack_length]; omega
      have e : (pack l ++ [b]).getD j 0 = b := by rw [hj2]; simp
      have h0 := bsum_end l (8 * j) 0 (by rw [hj2, pack_length]; omega) 8
      have h1 : bsum l (8 * j) 8 = 0 := by simpa [bsum] using h0
      have hjl : 8 * j = l.length := by rw [hj2, pack_length]; omega
      rw [e, h1, if_pos (by omega), hjl]
      simp
/-- one bit more, within a byte -/
theorem pack_old {l : List Nat} (b : Nat) (h8 : l.length % 8 ≠ 0) : pack (l ++ [b]) = (pack l).set (l.length / 8) ((pack l).getD (l.length / 8) 0 + b * 2 ^ (l.length % 8)) := by
  apply ext_getD
  · simp [pack_length]; omega
  · intro j hj
    rw [pack_length] at hj
    simp only [List.length_append, List.length_cons, List.length_nil] at hj
    rw [pack_get, bsum_snoc]
    rcases Nat.lt_or_ge j (l.length / 8) with g | g
    · rw [if_neg (by omega)]
      have e : ((pack l).set (l.length / 8) ((pack l).getD (l.length / 8) 0 + b * 2 ^ (l.length % 8))).getD j 0 = (pack l).getD j 0 := by
        simp [show ¬ l.length / 8 = j by omega]
      rw [e, pack_get]; rfl
    · have hj2 : j = l.length / 8 := by omega
      subst hj2
      have e : ((pack l).set (l.length / 8) ((pack l).getD (l.length / 8) 0 + b * 2 ^ (l.length % 8))).getD (l.length / 8) 0 = (pack l).getD (l.length / 8) 0 + b * 2 ^ (l.length % 8) := by
        have : l.length / 8 < (pack l).length := by rw [pack_length]; omega
        simp [this]
      rw [e, pack_get, if_pos (by omega), show l.length - 8 * (l.length / 8) = l.length % 8 by omega]
/-- what stands in the last byte -/
theorem pack_last {l : List Nat} (h : Bin l) : (pack l).getD (l.length / 8) 0 < 2 ^ (l.length % 8) := by
  rw [pack_get]
  have h1 := bsum_end l (8 * (l.length / 8)) (l.length % 8) (by omega) (8 - l.length % 8)
  rw [show l.length % 8 + (8 - l.length % 8) = 8 by omega] at h1
  rw [h1]
  exact bsum_lt h _ _

theorem bsum_bit {l : List Nat} (h : Bin l) (q : Nat) : ∀ (k t : Nat), t < k → bsum l q k / 2 ^ t % 2 = l.getD (q + t) 0
  | k + 1, t, ht => by
    have hb := h.get (q + k)
    have hs := bsum_lt h q k
    have hp : 0 < 2 ^ t := Nat.pow_pos (by omega)
    simp only [bsum]
    rcases Nat.lt_or_ge t k with g | g
    · have e : (2 : Nat) ^ k = 2 ^ t * (2 * 2 ^ (k - t - 1)) := by
        rw [← Nat.pow_succ', ← Nat.pow_add]; congr 1; omega
      rw [e, ← Nat.mul_assoc, Nat.mul_comm (l.getD (q + k) 0) (2 ^ t), Nat.mul_assoc, Nat.add_mul_div_left _ _ hp, ← bsum_bit h q k t g]
      have e2 : l.getD (q + k) 0 * (2 * 2 ^ (k - t - 1)) = 2 * (l.getD (q + k) 0 * 2 ^ (k - t - 1)) := by
        rw [← Nat.mul_assoc, Nat.mul_comm (l.getD (q + k) 0) 2, Nat.mul_assoc]
      omega
    · have hk : t = k := by omega
      subst hk
      rw [Nat.add_mul_div_right _ _ hp, Nat.div_eq_of_lt hs]
      omega
theorem bitAt_pack {l : List Nat} (h : Bin l) (p : Nat) : bitAt (pack l) p = l.getD p 0 := by
  unfold bitAt
  rw [pack_get, bsum_bit h _ 8 (p % 8) (by omega)]
  congr 1
  omega

/-- a number's bits, the lowest first -/
def bitsOf (v n : Nat) : List Nat := (List.range n).map fun i => v / 2 ^ i % 2
theorem bitsOf_succ (v n : Nat) : bitsOf v (n + 1) = bitsOf v n ++ [v / 2 ^ n % 2] := by simp [bitsOf, List.range_succ]
theorem bitsOf_length (v n : Nat) : (bitsOf v n).length = n := by simp [bitsOf]
theorem bitsOf_bin (v n : Nat) : Bin (bitsOf v n) := by
  intro x hx
  simp only [bitsOf, List.mem_map] at hx
  obtain ⟨i, _, rfl⟩ := hx
  exact Nat.mod_lt _ (by omega)
/-- a code's bits, the highest first -/
def codeOf (v n : Nat) (k : Nat) : List Nat := (List.range k).map fun i => v / 2 ^ (n - 1 - i) % 2
theorem codeOf_succ (v n k : Nat) : codeOf v n (k + 1) = codeOf v n k ++ [v / 2 ^ (n - 1 - k) % 2] := by simp [codeOf, List.range_succ]
theorem codeOf_length (v n k : Nat) : (codeOf v n k).length = k := by simp [codeOf]
theorem codeOf_bin (v n k : Nat) : Bin (codeOf v n k) := by
  intro x hx
  simp only [codeOf, List.mem_map] at hx
  obtain ⟨i, _, rfl⟩ := hx
  exact Nat.mod_lt _ (by omega)

theorem or_byte {x b s : Nat} (hx : x < 2 ^ s) (hs : s < 8) (hb : b < 2) :
    bits .or .u8 (x : Int) ((b : Int) * 2 ^ s) = ((x + b * 2 ^ s : Nat) : Int) := by
  have hp : (2 : Nat) ^ s ≤ 2 ^ 7 := Nat.pow_le_pow_right (by omega) (by omega)
  have h7 : (2 : Nat) ^ 7 = 128 := by decide
  have h1 : b * 2 ^ s ≤ 1 * 2 ^ s := Nat.mul_le_mul_right _ (by omega)
  have e1 : (b : Int) * 2 ^ s = ((b * 2 ^ s : Nat) : Int) := by push_cast; rfl
  rw [e1, u8_or_nat x (b * 2 ^ s) (by omega) (by omega), Nat.or_comm, nat_join s (b * 2 ^ s) x (Nat.mul_mod_left _ _) hx, Nat.add_comm]
end Go.Proofs.YtpbijdoemdoijaaGreatDoor.BitsPlain
end PkCa4_0
section PkCa4_1
/- Package bits' Writer: put, Bits, Code, Bytes, walked. A writer is its bits. Condition: fewer than 100,000 bits. -/
namespace Go.Proofs.YtpbijdoemdoijaaGreatDoor
open Go.RowKit BitsPlain
set_option linter.unusedVariables false

/-- a writer's block, and the bytes that it owns: those of its bits -/
structure WrAt (w : World) (B base : Nat) (v : Value) (l : List Nat) : Prop where
  blk : w.heap[B]? = some (.cells #[v, .int .i64 (l.length : Int)] 97 (0, 0))
  own : w.ownsRow base 5 1 v (pack l).length (bv (pack l))
  bin : Bin l

/-- what a writer's call may turn: its block, the row of its bytes -/
structure Touch (w w' : World) (B : Nat) (v : Value) : Prop where
  os : w'.os = w.os
  tape : w'.tape = w.tape
  output : w'.output = w.output
  size : w.heap.size ≤ w'.heap.size
  block : ∀ k, k < w.heap.size → k ≠ B → some k ≠ v.ownBlock → w'.heap[k]? = w.heap[k]?

/-- where its bytes lie behind: where they lay, or in a new block -/
def Went (w : World) (v v' : Value) : Prop := v'.ownBlock = v.ownBlock ∨ ∃ g, v'.ownBlock = some g ∧ w.heap.size ≤ g

theorem Touch.refl (w : World) (B : Nat) (v : Value) : Touch w w B v := ⟨rfl, rfl, rfl, Nat.le_refl _, fun _ _ _ _ => rfl⟩
theorem Touch.drew {w w' : World} {B : Nat} {v : Value} (h : Touch w w' B v) : Touch w w'.drew B v := ⟨h.os, h.tape, h.output, h.size, h.block⟩
theorem Went.refl (w : World) (v : Value) : Went w v v := Or.inl rfl
theorem Touch.trans {a b c : World} {B : Nat} {v v' : Value} (h : Touch a b B v) (hw : Went a v v') (k : Touch b c B v') : Touch a c B v :=
  ⟨k.os.trans h.os, k.tape.trans h.tape, k.output.trans h.output, Nat.le_trans h.size k.size, fun i hi hB hv => (k.block i (Nat.lt_of_lt_of_le hi h.size) hB (by
    rcases hw with e | ⟨g, e, hg⟩
    · rw [e]; exact hv
    · rw [e]; intro e2; have := Option.some.inj e2; omega)).trans (h.block i hi hB hv)⟩
theorem Went.trans {a b : World} {v v' v'' : Value} (h : Went a v v') (hs : a.heap.size ≤ b.heap.size) (k : Went b v' v'') : Went a v v'' := by
  rcases k with e | ⟨g, e, hg⟩
  · rcases h with e2 | ⟨g, e2, hg⟩
    · exact Or.inl (e.trans e2)
    · exact Or.inr ⟨g, e.trans e2, hg⟩
  · exact Or.inr ⟨g, e, by omega⟩
theorem Touch.below {w0 w w' : World} {B : Nat} {v : Value} (h : Below w0.heap.size w0 w) (ht : Touch w w' B v) (hB : w0.heap.size ≤ B) (hv : ∀ k, v.ownBlock = some k → w0.heap.size ≤ k) : Below w0.heap.size w0 w' :=
  ⟨ht.os.trans h.os, ht.tape.trans h.tape, ht.output.trans h.output, Nat.le_trans h.size ht.size, fun k hk => (ht.block k (Nat.lt_of_lt_of_le hk h.size) (by omega) (fun e => by have := hv k e.symm; omega)).trans (h.block k hk)⟩

section
variable {w : World} {B base : Nat} {v : Value} {l : List Nat}
theorem WrAt.c0 (h : WrAt w B base v l) : w.cell? ⟨B, 0, none⟩ = some v := by rw [cell_of_row w B 0 _ _ (0, 0) h.blk]; rfl
theorem WrAt.c1 (h : WrAt w B base v l) : w.cell? ⟨B, 1, none⟩ = some (.int .i64 (l.length : Int)) := by rw [cell_of_row w B 1 _ _ (0, 0) h.blk]; rfl
theorem WrAt.f (h : WrAt w B base v l) (j : Nat) : w.frozen? ⟨B, j, none⟩ = false := frozen_of_row w B j _ _ h.blk
theorem WrAt.lt (h : WrAt w B base v l) : B < w.heap.size := (Array.getElem?_eq_some_iff.1 h.blk).1
theorem WrAt.ne (h : WrAt w B base v l) : v.ownBlock ≠ some B := by
  intro e
  rcases h.own.2 with ⟨h0, _⟩ | ⟨g, cap, cur, h0, _, hh, _⟩
  · subst h0; cases e
  · subst h0
    simp [Value.ownBlock] at e
    subst e
    rw [h.blk] at hh
    simp at hh
/-- another's writes leave it -/
theorem WrAt.other {w' : World} (h : WrAt w B base v l) {B' : Nat} {u : Value} (ht : Touch w w' B' u) (hB : B ≠ B') (hu : some B ≠ u.ownBlock) (hv : ∀ k, v.ownBlock = some k → k ≠ B' ∧ some k ≠ u.ownBlock) : WrAt w' B base v l := by
  refine ⟨(ht.block B h.lt hB hu).trans h.blk, ?_, h.bin⟩
  refine ⟨h.own.1, ?_⟩
  rcases h.own.2 with h0 | ⟨g, cap, cur, rfl, hb, hg, rest⟩
  · exact Or.inl h0
  · obtain ⟨n1, n2⟩ := hv g rfl
    exact Or.inr ⟨g, cap, cur, rfl, hb, (ht.block g (Array.getElem?_eq_some_iff.1 hg).1 n1 n2).trans hg, rest⟩
end

theorem bv_set (l : List Nat) (j y : Nat) : bv (l.set j y) = (bv l).set j (.int .u8 (y : Int)) := by simp [bv, List.map_set]

theorem put_end {w2 : World} {B base g cap n : Nat} {bs : List Nat} (hb : w2.heap[B]? = some (.cells #[.slice (some ⟨g, 0, none⟩) bs.length cap, .int .i64 (n : Int)] 97 (0, 0)))
    (ho : w2.ownsRow base 5 1 (.slice (some ⟨g, 0, none⟩) bs.length cap) bs.length (bv bs)) (hgB : g ≠ B) (j y : Nat) :
    ((w2.setCell ⟨g, j, none⟩ (.int .u8 (y : Int))).setCell ⟨B, 1, none⟩ (.int .i64 ((n : Int) + 1))).heap[B]? = some (.cells #[.slice (some ⟨g, 0, none⟩) bs.length cap, .int .i64 ((n + 1 : Nat) : Int)] 97 (0, 0)) ∧
    ((w2.setCell ⟨g, j, none⟩ (.int .u8 (y : Int))).setCell ⟨B, 1, none⟩ (.int .i64 ((n : Int) + 1))).ownsRow base 5 1 (.slice (some ⟨g, 0, none⟩) bs.length cap) bs.length (bv (bs.set j y)) ∧
    Touch w2 ((w2.setCell ⟨g, j, none⟩ (.int .u8 (y : Int))).setCell ⟨B, 1, none⟩ (.int .i64 ((n : Int) + 1))) B (.slice (some ⟨g, 0, none⟩) bs.length cap) := by
  have h1 : (w2.setCell ⟨g, j, none⟩ (.int .u8 (y : Int))).heap[B]? = some (.cells #[.slice (some ⟨g, 0, none⟩) bs.length cap, .int .i64 (n : Int)] 97 (0, 0)) := by
    rw [heap_setCell_other _ _ _ _ (show B ≠ g from fun e => hgB e.symm)]; exact hb
  refine ⟨?_, ?_, ⟨rfl, rfl, rfl, by simp, fun k hk hkB hkv => ?_⟩⟩
  · rw [heap_setCell_same _ B 1 _ _ _ h1]; rfl
  · rw [bv_set]
    exact ownsRow_setCell_other (ho.stored j (.int .u8 (y : Int))).1 (by simp [Value.ownBlock]; exact hgB) _
  · have hkg : k ≠ g := fun e => hkv (by rw [e]; rfl)
    rw [heap_setCell_other _ _ _ _ hkB, heap_setCell_other _ _ _ _ hkg]

set_option maxRecDepth 100000 in
set_option maxHeartbeats 4000000 in
theorem put_any {w : World} {B base : Nat} {v : Value} {l : List Nat} (h : WrAt w B base v l) (hbase : base ≤ w.heap.size) (hlen : l.length ≤ 10000000) (b : Nat) (hb : b < 2) :
    Calls Tryz.prog 123 #[.pointer (some ⟨B, 0, none⟩), .int .u32 (b : Int)] w fun e w' => e = .returned (.tuple #[]) ∧ ∃ v', WrAt w' B base v' (l ++ [b]) ∧ Touch w w' B v ∧ Went w v v' := by
  obtain ⟨i0, hi, hz0, hz1, hz2⟩ := info_parts info_u8
  have h0 := h.c0
  have h1 := h.c1
  have f0 := h.f 0
  have f1 := h.f 1
  have hne := h.ne
  have hpl := pack_length l
  by_cases h8 : l.length % 8 = 0
  · have z8 : ((l.length : Int) % 8 == 0) = true := by rw [beq_iff_eq]; omega
    have HH := Lib.hid h
    have HNE := Lib.hid hne
    have HPL := Lib.hid hpl
    have hown := h.own
    have hown1 := hown.alloc (.cells #[.int .u8 0] 5)
    obtain ⟨pl, hpl2⟩ : ∃ n, n = (pack l).length := ⟨_, rfl⟩
    rw [← hpl2] at hown1
    have hplb : pl ≤ 1250001 := by omega
    have HP2 := Lib.hid hpl2
    have HO1 := Lib.hid hown1
    clear h hown hown1 hne hpl hpl2
    go_enter Tryz.func123, Tryz.ntmps123
    go_wp2_with (at_builtin; refine wpList_append_own_at _ rfl (.tmp 14) (.tmp 15) 27 rfl base 5 i0 (.int .u8 0) 1 1 Tryz.underlying27 hi hz0 hz1 hz2 rfl (by decide) _ _ _ rfl HO1.out ⟨w.heap.size, 0, none⟩ 1 1 [.int .u8 0] rfl rfl (one_src _ _ _) (one_oneCell rfl) (by unfold maxLen; omega) (by omega) (by simp; omega) ?_)
    intro v' w1 hown' hgrow _ hat
    have hbk : w1.heap[B]? = some (.cells #[v, .int .i64 (l.length : Int)] 97 (0, 0)) := by
      rw [hgrow.block B (by have := HH.out.lt; simp; omega) (fun e => HNE.out e.symm), Below.heap_alloc w _ B HH.out.lt]
      exact HH.out.blk
    have g0 : w1.cell? ⟨B, 0, none⟩ = some v := by rw [cell_of_row w1 B 0 _ _ (0, 0) hbk]; rfl
    have gf : w1.frozen? ⟨B, 0, none⟩ = false := frozen_of_row w1 B 0 _ _ hbk
    rcases hown'.2 with ⟨_, hn0⟩ | ⟨g, cap, cur, rfl, hbg, hgh, hgn, hgc, hgs, htk⟩
    · exact absurd hn0 (by omega)
    have hgB : g ≠ B := by
      intro e
      subst e
      rw [hgh] at hbk
      simp at hbk
    -- the world behind the append and the store
    obtain ⟨w2, hw2⟩ : ∃ w2, w2 = w1.setCell ⟨B, 0, none⟩ (.slice (some ⟨g, 0, none⟩) (pl + 1) cap) := ⟨_, rfl⟩
    have hb2 : w2.heap[B]? = some (.cells #[.slice (some ⟨g, 0, none⟩) (pl + 1) cap, .int .i64 (l.length : Int)] 97 (0, 0)) := by
      rw [hw2, heap_setCell_same w1 B 0 _ _ _ hbk]; rfl
    have ho2 : w2.ownsRow base 5 1 (.slice (some ⟨g, 0, none⟩) (pl + 1) cap) (pl + 1) (bv (pack l ++ [0])) := by
      rw [hw2, bv_append]
      exact ownsRow_setCell_other hown' (by simp [Value.ownBlock]; exact hgB) _
    have m0 : w2.cell? ⟨B, 0, none⟩ = some (.slice (some ⟨g, 0, none⟩) (pl + 1) cap) := by rw [cell_of_row w2 B 0 _ _ (0, 0) hb2]; rfl
    have m1 : w2.cell? ⟨B, 1, none⟩ = some (.int .i64 (l.length : Int)) := by rw [cell_of_row w2 B 1 _ _ (0, 0) hb2]; rfl
    have mf : w2.frozen? ⟨B, 1, none⟩ = false := frozen_of_row w2 B 1 _ _ hb2
    have mg : w2.frozen? ⟨g, l.length / 8, none⟩ = false := ho2.frozenAt _
    have hpe : pl = l.length / 8 := by have := HP2.out; have := HPL.out; omega
    have mc : w2.cell? ⟨g, l.length / 8, none⟩ = some (.int .u8 0) := by
      have hl2 : (pack l).length = l.length / 8 := by rw [← HP2.out, hpe]
      rw [ho2.cellAt (l.length / 8) (by omega)]
      have : (bv (pack l ++ [0]))[l.length / 8]? = some (Value.int .u8 ((0 : Nat) : Int)) := by
        rw [← hl2]; simp [bv]
      simpa using this
    have ht2 : Touch w w2 B v := by
      rw [hw2]
      refine ⟨hgrow.os, hgrow.tape, hgrow.output, ?_, fun k hk hkB hkv => ?_⟩
      · have := hgrow.size; simp at this ⊢; omega
      · rw [heap_setCell_other _ _ _ _ hkB, hgrow.block k (by simp; omega) hkv, Below.heap_alloc w _ k hk]
    have hwt : Went w v (.slice (some ⟨g, 0, none⟩) (pl + 1) cap) := by
      rcases hat with e | e
      · exact Or.inl e
      · exact Or.inr ⟨_, e, by simp⟩
    have hnk : ((l.length : Int) / 8) < ((pl + 1 : Nat) : Int) := by omega
    have hn0 : (0 : Int) ≤ (l.length : Int) / 8 := by omega
    have HW2 := Lib.hid hw2
    have HB2 := Lib.hid hb2
    have HO2 := Lib.hid ho2
    have HT2 := Lib.hid ht2
    have HWT := Lib.hid hwt
    have HPE := Lib.hid hpe
    clear hown' hgrow hat hbk hbg hgh hgn hgc hgs htk hw2 hb2 ho2 ht2 hwt hpe
    go_wp2_with fail
    rw [← HW2.out]
    go_wp2_with fail
    go_region
    go_wp2_with fail
    go_end0
    have e0 : bits BinOp.or IntKind.u8 0 ((b : Int) % 4294967296) = ((b : Nat) : Int) := by
      have h := or_byte (x := 0) (b := b) (s := 0) (by omega) (by omega) hb
      simp only [Nat.pow_zero, Nat.mul_one, Nat.zero_add, Int.pow_zero, Int.mul_one] at h
      rw [show (b : Int) % 4294967296 = (b : Int) from by omega]
      exact h
    rw [e0]
    have hpe := HPE.out
    have hl2 : (pack l).length = l.length / 8 := by rw [← HP2.out, hpe]
    have hbl : (pack l ++ [0]).length = pl + 1 := by rw [List.length_append, ← HP2.out]; rfl
    obtain ⟨r1, r2, r3⟩ := put_end (bs := pack l ++ [0]) (base := base) (by rw [hbl]; exact HB2.out) (by rw [hbl]; exact HO2.out) hgB (l.length / 8) b
    have hset : (pack l ++ [0]).set (l.length / 8) b = pack (l ++ [b]) := by
      rw [pack_new b h8, ← hl2]; simp
    rw [hset, hbl] at r2
    rw [hbl] at r1 r3
    have hpn : (pack (l ++ [b])).length = pl + 1 := by rw [← hset, List.length_set, hbl]
    refine ⟨rfl, _, ⟨by rw [List.length_append]; exact r1, by rw [hpn]; exact r2, HH.out.bin.snoc hb⟩, ?_, HWT.out⟩
    exact HT2.out.trans HWT.out r3.drew
  · have z8 : ((l.length : Int) % 8 == 0) = false := by rw [beq_eq_false_iff_ne]; omega
    rcases h.own.2 with ⟨_, hn0⟩ | ⟨g, cap, cur, rfl, hbg, hgh, hgn, hgc, hgs, htk⟩
    · exact absurd hn0 (by omega)
    have hgB : g ≠ B := fun e => hne (by rw [e]; rfl)
    have hlt : l.length / 8 < (pack l).length := by omega
    obtain ⟨x, hx⟩ : ∃ x, x = (pack l).getD (l.length / 8) 0 := ⟨_, rfl⟩
    have hxl : x < 2 ^ (l.length % 8) := by rw [hx]; exact pack_last h.bin
    have mg : w.frozen? ⟨g, l.length / 8, none⟩ = false := h.own.frozenAt _
    have mc : w.cell? ⟨g, l.length / 8, none⟩ = some (.int .u8 (x : Int)) := by
      rw [h.own.cellAt (l.length / 8) (by omega), bv_get _ _ hlt, ← hx]
    obtain ⟨pl, hpl2⟩ : ∃ n, n = (pack l).length := ⟨_, rfl⟩
    have HH := Lib.hid h
    have HX := Lib.hid hx
    have HXL := Lib.hid hxl
    have HP2 := Lib.hid hpl2
    rw [← hpl2] at h0 hgn hlt
    rw [← hpl2]
    have hnk : ((l.length : Int) / 8) < (pl : Int) := by omega
    have hn0 : (0 : Int) ≤ (l.length : Int) / 8 := by omega
    clear h hx hxl hpl hpl2 hne hbg hgh hgc hgs htk
    go_enter Tryz.func123, Tryz.ntmps123
    go_wp2_with fail
    go_region
    go_wp2_with fail
    go_end0
    have hpp : (2 : Nat) ^ (l.length % 8) ≤ 2 ^ 7 := Nat.pow_le_pow_right (by omega) (by omega)
    have h27 : (2 : Nat) ^ 7 = 128 := by decide
    have h1b : b * 2 ^ (l.length % 8) ≤ 1 * 2 ^ (l.length % 8) := Nat.mul_le_mul_right _ (by omega)
    have e0 : bits BinOp.or IntKind.u8 (x : Int) ((b : Int) * 2 ^ (l.length % 8) % 256) = ((x + b * 2 ^ (l.length % 8) : Nat) : Int) := by
      rw [← or_byte HXL.out (by omega) hb]
      have e1 : (b : Int) * 2 ^ (l.length % 8) = ((b * 2 ^ (l.length % 8) : Nat) : Int) := by push_cast; rfl
      rw [e1, show ((b * 2 ^ (l.length % 8) : Nat) : Int) % 256 = ((b * 2 ^ (l.length % 8) : Nat) : Int) from by omega]
    rw [e0]
    have hb' := HH.out.blk
    have ho' := HH.out.own
    obtain ⟨r1, r2, r3⟩ := put_end (bs := pack l) (base := base) hb' ho' hgB (l.length / 8) (x + b * 2 ^ (l.length % 8))
    rw [HX.out, ← pack_old b h8] at r2
    have hpn : (pack (l ++ [b])).length = (pack l).length := by rw [pack_old b h8, List.length_set]
    rw [← HP2.out] at r1 r2 r3 hpn
    rw [HX.out]
    rw [HX.out] at r1 r3
    refine ⟨rfl, _, ⟨by rw [List.length_append]; exact r1, by rw [hpn]; exact r2, HH.out.bin.snoc hb⟩, r3.drew, Went.refl _ _⟩
end Go.Proofs.YtpbijdoemdoijaaGreatDoor
end PkCa4_1
section PkCa4_2
/- Package bits' Writer: Bits, Code, Bytes, walked. -/
namespace Go.Proofs.YtpbijdoemdoijaaGreatDoor
open Go.RowKit BitsPlain
set_option linter.unusedVariables false

theorem Touch.keepW {w0 w w' : World} {B : Nat} {v : Value} (h : Touch w w' B v) : w.heap.size ≤ w'.heap.size := h.size

theorem shr_and (V i : Nat) (hV : V < 4294967296) : bits .and .u32 ((V : Int) / 2 ^ i) 1 = ((V / 2 ^ i % 2 : Nat) : Int) := by
  have e1 : (V : Int) / 2 ^ i = ((V / 2 ^ i : Nat) : Int) := by push_cast; rfl
  have h1 : V / 2 ^ i ≤ V := Nat.div_le_self _ _
  rw [e1, and_one_u32 _ (by omega)]

set_option maxRecDepth 100000 in
set_option maxHeartbeats 2000000 in
theorem wbits_bad (w : World) (B V : Nat) (k : Int) (hk : k < 0 ∨ 32 < k) :
    Calls Tryz.prog 82 #[.pointer (some ⟨B, 0, none⟩), .int .u32 (V : Int), .int .i64 k] w fun e w' => e = .returned (.int .i64 1) ∧ w = w' := by
  by_cases hneg : k < 0
  · have d1 : decide (k < 0) = true := by simp; omega
    clear hk
    go_enter Tryz.func82, Tryz.ntmps82
    go_wp2_with fail
    go_ret
    exact ⟨rfl, rfl⟩
  · have hbig : 32 < k := by omega
    clear hk
    go_enter Tryz.func82, Tryz.ntmps82
    go_wp2_with fail
    go_ret
    exact ⟨rfl, rfl⟩

set_option maxRecDepth 100000 in
set_option maxHeartbeats 2000000 in
theorem wcode_bad (w : World) (B V : Nat) (k : Int) (hk : k < 0 ∨ 16 < k) :
    Calls Tryz.prog 145 #[.pointer (some ⟨B, 0, none⟩), .int .u32 (V : Int), .int .i64 k] w fun e w' => e = .returned (.int .i64 1) ∧ w = w' := by
  by_cases hneg : k < 0
  · have d1 : decide (k < 0) = true := by simp; omega
    clear hk
    go_enter Tryz.func145, Tryz.ntmps145
    go_wp2_with fail
    go_ret
    exact ⟨rfl, rfl⟩
  · have hbig : 16 < k := by omega
    clear hk
    go_enter Tryz.func145, Tryz.ntmps145
    go_wp2_with fail
    go_ret
    exact ⟨rfl, rfl⟩

set_option maxRecDepth 100000 in
set_option maxHeartbeats 4000000 in
theorem wbits_any {w : World} {B base : Nat} {v : Value} {l : List Nat} (h : WrAt w B base v l) (hbase : base ≤ w.heap.size) (V : Nat) (hV : V < 4294967296) (k : Nat) (hk : k ≤ 32) (hlen : l.length + k ≤ 10000000) :
    Calls Tryz.prog 82 #[.pointer (some ⟨B, 0, none⟩), .int .u32 (V : Int), .int .i64 (k : Int)] w fun e w' => e = .returned (.int .i64 0) ∧ ∃ v', WrAt w' B base v' (l ++ bitsOf V k) ∧ Touch w w' B v ∧ Went w v v' := by
  have HH := Lib.hid h
  have HV := Lib.hid hV
  clear h hV
  go_enter Tryz.func82, Tryz.ntmps82
  go_wp2_with fail
  go_loopw [19] (fun si wr => ∃ (i : Nat) (v' : Value), i ≤ k ∧ si = .int .i64 i ∧ WrAt wr B base v' (l ++ bitsOf V i) ∧ Touch w wr B v ∧ Went w v v') (fun si _ => k - (intOf si).toNat)
  case atStart => exact ⟨0, v, by omega, rfl, by simpa [bitsOf] using HH.out, Touch.refl _ _ _, Went.refl _ _⟩
  case round =>
    obtain ⟨i, v', hi, rfl, hw, ht, hwt⟩ := hrel
    by_cases hik : i < k
    · obtain ⟨x, hx⟩ : ∃ x, x = V / 2 ^ i % 2 := ⟨_, rfl⟩
      have hx2 : x < 2 := by rw [hx]; exact Nat.mod_lt _ (by omega)
      have e1 := shr_and V i HV.out
      rw [← hx] at e1
      have hp := put_any hw (Nat.le_trans hbase ht.size) (by rw [List.length_append, bitsOf_length]; omega) x hx2
      have HP := Lib.hid hp
      have HX := Lib.hid hx
      have HT := Lib.hid ht
      have HW := Lib.hid hwt
      clear hp hw hx ht hwt
      go_wp2_with fail
      refine HP.out.mono ?_
      rintro e w1 ⟨rfl, v1, hw1, ht1, hwt1⟩
      have hw2 : WrAt w1 B base v1 (l ++ bitsOf V (i + 1)) := by
        rw [bitsOf_succ, ← HX.out, ← List.append_assoc]; exact hw1
      have HW2 := Lib.hid hw2
      have HT2 := Lib.hid (HT.out.trans HW.out ht1)
      have HWT2 := Lib.hid (HW.out.trans HT.out.size hwt1)
      clear hw1 ht1 hwt1 hw2
      go_wp2_with fail
      go_roundw
      case rel => exact ⟨i + 1, v1, by omega, by go_num, HW2.out, HT2.out, HWT2.out⟩
      case measure => simp [intOf]; omega
    · have hik2 : i = k := by omega
      subst hik2
      have HWW := Lib.hid hw
      have HT := Lib.hid ht
      have HW := Lib.hid hwt
      clear hw ht hwt
      go_wp2_with fail
      go_ret
      exact ⟨rfl, v', HWW.out, HT.out, HW.out⟩

set_option maxRecDepth 100000 in
set_option maxHeartbeats 4000000 in
theorem wcode_any {w : World} {B base : Nat} {v : Value} {l : List Nat} (h : WrAt w B base v l) (hbase : base ≤ w.heap.size) (V : Nat) (hV : V < 4294967296) (k : Nat) (hk : k ≤ 16) (hlen : l.length + k ≤ 10000000) :
    Calls Tryz.prog 145 #[.pointer (some ⟨B, 0, none⟩), .int .u32 (V : Int), .int .i64 (k : Int)] w fun e w' => e = .returned (.int .i64 0) ∧ ∃ v', WrAt w' B base v' (l ++ codeOf V k k) ∧ Touch w w' B v ∧ Went w v v' := by
  have HH := Lib.hid h
  have HV := Lib.hid hV
  clear h hV
  go_enter Tryz.func145, Tryz.ntmps145
  go_wp2_with fail
  go_loopw [19] (fun si wr => ∃ (i : Nat) (v' : Value), i ≤ k ∧ si = .int .i64 i ∧ WrAt wr B base v' (l ++ codeOf V k i) ∧ Touch w wr B v ∧ Went w v v') (fun si _ => k - (intOf si).toNat)
  case atStart => exact ⟨0, v, by omega, rfl, by simpa [codeOf] using HH.out, Touch.refl _ _ _, Went.refl _ _⟩
  case round =>
    obtain ⟨i, v', hi, rfl, hw, ht, hwt⟩ := hrel
    by_cases hik : i < k
    · obtain ⟨x, hx⟩ : ∃ x, x = V / 2 ^ (k - 1 - i) % 2 := ⟨_, rfl⟩
      have hx2 : x < 2 := by rw [hx]; exact Nat.mod_lt _ (by omega)
      have e1 := shr_and V (k - 1 - i) HV.out
      rw [← hx] at e1
      have hp := put_any hw (Nat.le_trans hbase ht.size) (by rw [List.length_append, codeOf_length]; omega) x hx2
      have HP := Lib.hid hp
      have HX := Lib.hid hx
      have HT := Lib.hid ht
      have HW := Lib.hid hwt
      have HE := Lib.hid e1
      clear hp hw hx ht hwt e1
      go_wp2_with fail
      first
        | rw [show (bits BinOp.and IntKind.u32 ((V : Int) / 2 ^ (k - 1 - i)) 1) = (x : Int) from HE.out]
        | rw [show ((k : Int) - 1 - (i : Int)).toNat = k - 1 - i from by omega, show (bits BinOp.and IntKind.u32 ((V : Int) / 2 ^ (k - 1 - i)) 1) = (x : Int) from HE.out]
      refine HP.out.mono ?_
      rintro e w1 ⟨rfl, v1, hw1, ht1, hwt1⟩
      have hw2 : WrAt w1 B base v1 (l ++ codeOf V k (i + 1)) := by
        rw [codeOf_succ, ← HX.out, ← List.append_assoc]; exact hw1
      have HW2 := Lib.hid hw2
      have HT2 := Lib.hid (HT.out.trans HW.out ht1)
      have HWT2 := Lib.hid (HW.out.trans HT.out.size hwt1)
      clear hw1 ht1 hwt1 hw2
      go_wp2_with fail
      go_roundw
      case rel => exact ⟨i + 1, v1, by omega, by go_num, HW2.out, HT2.out, HWT2.out⟩
      case measure => simp [intOf]; omega
    · have hik2 : i = k := by omega
      subst hik2
      have HWW := Lib.hid hw
      have HT := Lib.hid ht
      have HW := Lib.hid hwt
      clear hw ht hwt
      go_wp2_with fail
      go_ret
      exact ⟨rfl, v', HWW.out, HT.out, HW.out⟩

theorem pack_len_le (l : List Nat) (h : l.length ≤ 10000000) : (pack l).length ≤ 1250001 := by rw [pack_length]; omega

set_option maxRecDepth 100000 in
set_option maxHeartbeats 1000000 in
theorem wbytes_any {w : World} {B base : Nat} {v : Value} {l : List Nat} (h : WrAt w B base v l) (hlen : l.length ≤ 10000000) :
    Calls Tryz.prog 83 #[.pointer (some ⟨B, 0, none⟩)] w fun e w' => ∃ a c, e = .returned (.slice a (pack l).length c) ∧ BytesAt w' a (pack l).length c (pack l) ∧ Below w.heap.size w w' ∧ (∀ b off s, a = some ⟨b, off, s⟩ → w.heap.size ≤ b) := by
  have hpl := pack_len_le l hlen
  obtain ⟨a, c, rfl, hb, _⟩ := BytesAt.ofOwn h.own (pack_byte h.bin) (by omega)
  have h0 := h.c0
  have hc := clone_any hb
  have HC := Lib.hid hc
  clear h hb hc
  go_enter Tryz.func83, Tryz.ntmps83
  go_wp2_with fail
  refine HC.out.mono ?_
  rintro e w1 ⟨a', c', rfl, hb1, hbel, hfr⟩
  have HB1 := Lib.hid hb1
  clear hb1
  go_wp2_with fail
  go_ret
  exact ⟨a', c', rfl, HB1.out, hbel, hfr⟩
end Go.Proofs.YtpbijdoemdoijaaGreatDoor
end PkCa4_2
section PkCa4_3
/- A letter's word, written: walked. -/
namespace Go.Proofs.YtpbijdoemdoijaaGreatDoor
open Go.RowKit BitsPlain
set_option linter.unusedVariables false

/-- a letter's word and its length -/
def lw (s : Nat) : Nat × Nat := if s < 144 then (48 + s, 8) else if s < 256 then (400 + s - 144, 9) else if s < 280 then (s - 256, 7) else (192 + s - 280, 8)
def lcode (s : Nat) : List Nat := codeOf (lw s).1 (lw s).2 (lw s).2

set_option maxRecDepth 100000 in
set_option maxHeartbeats 2000000 in
theorem letter_any {w : World} {B base : Nat} {v : Value} {l : List Nat} (h : WrAt w B base v l) (hbase : base ≤ w.heap.size) {s : Nat} (hs : s < 288) (hlen : l.length + 9 ≤ 10000000) :
    Calls Tryz.prog 142 #[.pointer (some ⟨B, 0, none⟩), .int .i64 (s : Int)] w fun e w' => e = .returned (.tuple #[]) ∧ ∃ v', WrAt w' B base v' (l ++ lcode s) ∧ Touch w w' B v ∧ Went w v v' := by
  by_cases h1 : s < 144
  · have hi : (s : Int) < 144 := by omega
    have HC := Lib.hid (wcode_any h hbase (48 + s) (by omega) 8 (by omega) (by omega))
    have HL := Lib.hid (show lcode s = codeOf (48 + s) 8 8 by unfold lcode lw; rw [if_pos h1])
    have HW := Lib.hid (show (48 : Int) + (s : Int) = ((48 + s : Nat) : Int) by omega)
    clear h hbase hs hlen
    go_enter Tryz.func142, Tryz.ntmps142
    go_wp2_with fail
    rw [HW.out]
    refine HC.out.mono ?_
    rintro e w1 ⟨rfl, v', h2, h3, h4⟩
    have H2 := Lib.hid h2
    have H3 := Lib.hid h3
    clear h2 h3
    go_wp2_with fail
    first | go_end0 | refine bodyPost_ret (results_none rfl _ _ _) rfl ?_
    exact ⟨rfl, v', by rw [HL.out]; exact H2.out, H3.out, h4⟩
  · by_cases h2 : s < 256
    · have hi : (s : Int) < 256 := by omega
      have hj : (144 : Int) ≤ (s : Int) := by omega
      have HC := Lib.hid (wcode_any h hbase (400 + s - 144) (by omega) 9 (by omega) (by omega))
      have HL := Lib.hid (show lcode s = codeOf (400 + s - 144) 9 9 by unfold lcode lw; rw [if_neg h1, if_pos h2])
      have HW := Lib.hid (show (400 : Int) + (s : Int) - 144 = ((400 + s - 144 : Nat) : Int) by omega)
      clear h hbase hs hlen h1
      go_enter Tryz.func142, Tryz.ntmps142
      go_wp2_with fail
      rw [HW.out]
      refine HC.out.mono ?_
      rintro e w1 ⟨rfl, v', h2, h3, h4⟩
      have H2 := Lib.hid h2
      have H3 := Lib.hid h3
      clear h2 h3
      go_wp2_with fail
      first | go_end0 | refine bodyPost_ret (results_none rfl _ _ _) rfl ?_
      exact ⟨rfl, v', by rw [HL.out]; exact H2.out, H3.out, h4⟩
    · by_cases h5 : s < 280
      · have hi : (s : Int) < 280 := by omega
        have hj : (256 : Int) ≤ (s : Int) := by omega
        have HC := Lib.hid (wcode_any h hbase (s - 256) (by omega) 7 (by omega) (by omega))
        have HL := Lib.hid (show lcode s = codeOf (s - 256) 7 7 by unfold lcode lw; rw [if_neg h1, if_neg h2, if_pos h5])
        have HW := Lib.hid (show (s : Int) - 256 = ((s - 256 : Nat) : Int) by omega)
        clear h hbase hs hlen h1 h2
        go_enter Tryz.func142, Tryz.ntmps142
        go_wp2_with fail
        rw [HW.out]
        refine HC.out.mono ?_
        rintro e w1 ⟨rfl, v', h2, h3, h4⟩
        have H2 := Lib.hid h2
        have H3 := Lib.hid h3
        clear h2 h3
        go_wp2_with fail
        first | go_end0 | refine bodyPost_ret (results_none rfl _ _ _) rfl ?_
        exact ⟨rfl, v', by rw [HL.out]; exact H2.out, H3.out, h4⟩
      · have hj : (280 : Int) ≤ (s : Int) := by omega
        have hi : (s : Int) < 288 := by omega
        have HC := Lib.hid (wcode_any h hbase (192 + s - 280) (by omega) 8 (by omega) (by omega))
        have HL := Lib.hid (show lcode s = codeOf (192 + s - 280) 8 8 by unfold lcode lw; rw [if_neg h1, if_neg h2, if_neg h5])
        have HW := Lib.hid (show (192 : Int) + (s : Int) - 280 = ((192 + s - 280 : Nat) : Int) by omega)
        clear h hbase hs hlen h1 h2 h5
        go_enter Tryz.func142, Tryz.ntmps142
        go_wp2_with fail
        rw [HW.out]
        refine HC.out.mono ?_
        rintro e w1 ⟨rfl, v', h2, h3, h4⟩
        have H2 := Lib.hid h2
        have H3 := Lib.hid h3
        clear h2 h3
        go_wp2_with fail
        first | go_end0 | refine bodyPost_ret (results_none rfl _ _ _) rfl ?_
        exact ⟨rfl, v', by rw [HL.out]; exact H2.out, H3.out, h4⟩
end Go.Proofs.YtpbijdoemdoijaaGreatDoor
end PkCa4_3
