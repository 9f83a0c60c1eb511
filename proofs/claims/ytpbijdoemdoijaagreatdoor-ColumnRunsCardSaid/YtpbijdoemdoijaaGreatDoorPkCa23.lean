/- Texts put together by packtpl2.py: InfPut, InfCopied, InfRep, InfRepWalk, InfSym. -/
import Derived.Test.YtpbijdoemdoijaaGreatDoorPkCa4
import Derived.Test.YtpbijdoemdoijaaGreatDoorPkCa16
import Derived.Test.YtpbijdoemdoijaaGreatDoorPkCa22
section PkCa23_0
/- Package inflate: put, walked: one byte out. -/
namespace Go.Proofs.YtpbijdoemdoijaaGreatDoor
open Go.RowKit PrefPlain BitsPlain InfPlain
set_option linter.unusedVariables false

theorem ne_inf_u8 : (189 : TypeId) ≠ 5 := by decide
theorem own_neI {w : World} {base : Nat} {v : Value} {n : Nat} {xs : List Value} {B R most : Nat} {u : Value} {fl fd : Option Addr} (h : w.ownsRow base 5 1 v n xs) (hb : InBlk w B R u most fl fd) : v.ownBlock ≠ some B := by
  intro e1
  rcases h.2 with ⟨h0, _⟩ | ⟨g, cap, cur, h0, _, hh, _⟩
  · subst h0; cases e1
  · subst h0
    simp [Value.ownBlock] at e1
    subst e1
    rw [hb.blk] at hh
    simp at hh
theorem touch_drewN (w : World) (q B : Nat) (v : Value) : Touch w (w.drewN q) B v := ⟨rfl, rfl, rfl, Nat.le_refl _, fun _ _ _ _ => rfl⟩
/-- a row's append, and the store of what it gave -/
theorem out_step {w1 w2 : World} {B R base n most : Nat} {v v2 : Value} {xs : List Value} {ys : List Value} {fl fd : Option Addr} (o : Obj) (hb : InBlk w1 B R v most fl fd) (ho : w1.ownsRow base 5 1 v n ys) (h2 : w2.ownsRow base 5 1 v2 (n + 1) xs) (hg : (w1.alloc o).grownBy w2 v.ownBlock) :
    InBlk w2 B R v most fl fd ∧ InBlk (w2.setCell ⟨B, 1, none⟩ v2) B R v2 most fl fd ∧ (w2.setCell ⟨B, 1, none⟩ v2).ownsRow base 5 1 v2 (n + 1) xs ∧ Touch w1 (w2.setCell ⟨B, 1, none⟩ v2) B v := by
  have hne := own_neI ho hb
  have hb2 : InBlk w2 B R v most fl fd := ⟨by
    rw [hg.block B (by have := hb.lt; simp; omega) (fun e => hne e.symm), Below.heap_alloc w1 _ B hb.lt]
    exact hb.blk⟩
  have hne2 := own_neI h2 hb2
  refine ⟨hb2, ⟨by rw [heap_setCell_same w2 B 1 _ _ _ hb2.blk]; rfl⟩, ?_, ?_⟩
  · refine ⟨h2.1, ?_⟩
    rcases h2.2 with h0 | ⟨g, cap, cur, rfl, hb', hg', rest⟩
    · exact Or.inl h0
    · refine Or.inr ⟨g, cap, cur, rfl, hb', ?_, rest⟩
      rw [heap_setCell_other _ _ _ _ (fun e => hne2 (by rw [e]; rfl))]
      exact hg'
  · refine ⟨hg.os, hg.tape, hg.output, ?_, fun k hk hkB hkv => ?_⟩
    · have := hg.size; simp at this ⊢; omega
    · rw [heap_setCell_other _ _ _ _ hkB, hg.block k (by simp; omega) hkv, Below.heap_alloc w1 _ k hk]

set_option maxRecDepth 100000 in
set_option maxHeartbeats 2000000 in
theorem iput_any {w : World} {B R base most : Nat} {v : Value} {o : List Nat} {fl fd : Option Addr} (hb : InBlk w B R v most fl fd) (ho : w.ownsRow base 5 1 v o.length (bv o)) (hby : ∀ x ∈ o, x < 256) (hbase : base ≤ w.heap.size) (hlim : o.length ≤ most) (hm : most ≤ 65536) (x : Nat) (hx : x < 256) :
    Calls Tryz.prog 198 #[.pointer (some ⟨B, 0, none⟩), .int .u8 (x : Int)] w fun e w' =>
      (most < o.length + 1 ∧ e = .returned (.int .i64 5) ∧ Touch w w' B v) ∨
      (o.length + 1 ≤ most ∧ e = .returned (.int .i64 0) ∧ Touch w w' B v ∧ ∃ v', InBlk w' B R v' most fl fd ∧ w'.ownsRow base 5 1 v' (o.length + 1) (bv (o ++ [x])) ∧ Went w v v') := by
  obtain ⟨i0, hi, hz0, hz1, hz2⟩ := info_parts info_u8
  obtain ⟨a, c, rfl, hby', _⟩ := BytesAt.ofOwn ho hby (by omega)
  have HR := Lib.hid (room_any hb hlim hm 1 (by omega))
  have HB := Lib.hid hb
  have HO := Lib.hid ho
  obtain ⟨n, hn⟩ : ∃ n, n = o.length := ⟨_, rfl⟩
  rw [← hn] at HB HO HR hlim ⊢
  clear hb ho hby' hn
  by_cases hr : n + 1 ≤ most
  · have hd : decide (n + 1 ≤ most) = true := decide_eq_true hr
    rw [hd] at HR
    clear hd
    go_enter Tryz.func198, Tryz.ntmps198
    go_wp2_with fail
    refine HR.out.mono ?_
    rintro e w1 ⟨rfl, q, hq⟩
    have hb1 : InBlk w1 B R (.slice a n c) most fl fd := by rw [hq]; exact HB.out.other rfl
    have ho1 : w1.ownsRow base 5 1 (.slice a n c) n (bv o) := by rw [hq]; exact own_below HO.out ⟨rfl, rfl, rfl, Nat.le_refl _, fun _ _ => rfl⟩
    have HT1 := Lib.hid (show Touch w w1 B (.slice a n c) by rw [hq]; exact touch_drewN _ _ _ _)
    have hbase1 : base ≤ w1.heap.size := by rw [hq]; exact hbase
    have c1 := hb1.c1
    have HB1 := Lib.hid hb1
    have HO1 := Lib.hid ho1
    have HOA := Lib.hid (ho1.alloc (.cells #[.int .u8 (x : Int)] 5))
    clear hb1 ho1 hq
    go_wp2_with (at_builtin; refine wpList_append_own_at _ rfl (.tmp 12) (.tmp 14) 27 rfl base 5 i0 (.int .u8 0) 1 1 Tryz.underlying27 hi hz0 hz1 hz2 rfl (by decide) _ _ _ rfl HOA.out ⟨w1.heap.size, 0, none⟩ 1 1 [.int .u8 (x : Int)] rfl rfl (one_src _ _ _) (one_oneCell rfl) (by unfold maxLen; omega) (by omega) (by simp; omega) ?_)
    intro v2 w2 hown2 hg2 _ hat2
    have hwent : Went w1 (.slice a n c) v2 := by
      rcases hat2 with e | e
      · exact .inl e
      · exact .inr ⟨_, e, by simp⟩
    have HWT := Lib.hid ((Went.refl w (.slice a n c)).trans HT1.out.size hwent)
    clear hwent hat2
    obtain ⟨g2, cc2, rfl⟩ := own_some hown2 (by omega)
    obtain ⟨hb2, hb3, ho3, ht3⟩ := out_step _ HB1.out HO1.out hown2 hg2
    have c2 := hb2.c1
    have f2 := hb2.f 1
    have HB3 := Lib.hid hb3
    have HO3 := Lib.hid ho3
    have HT3 := Lib.hid (HT1.out.trans (Went.refl _ _) ht3)
    clear hb2 hb3 ho3 ht3 hown2 hg2 c1
    go_wp2_with fail
    go_ret
    exact .inr ⟨hr, rfl, HT3.out, _, HB3.out, by rw [bv_append]; exact HO3.out, HWT.out⟩
  · have hd : decide (n + 1 ≤ most) = false := decide_eq_false hr
    rw [hd] at HR
    clear hd
    go_enter Tryz.func198, Tryz.ntmps198
    go_wp2_with fail
    refine HR.out.mono ?_
    rintro e w1 ⟨rfl, q, hq⟩
    have HT1 := Lib.hid (show Touch w w1 B (.slice a n c) by rw [hq]; exact touch_drewN _ _ _ _)
    clear hq
    go_wp2_with fail
    go_ret
    exact .inl ⟨by omega, rfl, HT1.out⟩
end Go.Proofs.YtpbijdoemdoijaaGreatDoor
end PkCa23_0
section PkCa23_1
/- Package inflate: copied, walked: bytes as they are. -/
namespace Go.Proofs.YtpbijdoemdoijaaGreatDoor
open Go.RowKit PrefPlain BitsPlain InfPlain
set_option linter.unusedVariables false

/-- an inflater's state -/
structure InAt (w : World) (B R base : Nat) (ra : Option Addr) (n c : Nat) (xs : List Nat) (p : Nat) (v : Value) (o : List Nat) (most : Nat) (fl fd : Option Addr) : Prop where
  ib : InBlk w B R v most fl fd
  rd : RdAt w R ra n c xs p
  own : w.ownsRow base 5 1 v o.length (bv o)
  byte : ∀ x ∈ o, x < 256
  lim : o.length ≤ most
  most : most ≤ 65536
  low : base ≤ w.heap.size
  hB : B < base
  hR : R < base
  ne : B ≠ R
  src : ∀ b off s, 0 < n → ra = some ⟨b, off, s⟩ → b < base ∧ b ≠ B
/-- what a call may turn: the inflater, its reader, the row of what is out -/
structure Fr (w w' : World) (B R : Nat) (v : Value) : Prop where
  os : w'.os = w.os
  tape : w'.tape = w.tape
  output : w'.output = w.output
  size : w.heap.size ≤ w'.heap.size
  block : ∀ k, k < w.heap.size → k ≠ B → k ≠ R → some k ≠ v.ownBlock → w'.heap[k]? = w.heap[k]?
theorem Fr.refl (w : World) (B R : Nat) (v : Value) : Fr w w B R v := ⟨rfl, rfl, rfl, Nat.le_refl _, fun _ _ _ _ _ => rfl⟩
theorem Fr.trans {a b c : World} {B R : Nat} {v v' : Value} (h : Fr a b B R v) (hw : Went a v v') (k : Fr b c B R v') : Fr a c B R v :=
  ⟨k.os.trans h.os, k.tape.trans h.tape, k.output.trans h.output, Nat.le_trans h.size k.size, fun i hi hB hR hv => (k.block i (Nat.lt_of_lt_of_le hi h.size) hB hR (by
    rcases hw with e | ⟨g, e, hg⟩
    · rw [e]; exact hv
    · rw [e]; intro e2; have := Option.some.inj e2; omega)).trans (h.block i hi hB hR hv)⟩
theorem Fr.touch {w w' : World} {B : Nat} {v : Value} (R : Nat) (h : Touch w w' B v) : Fr w w' B R v := ⟨h.os, h.tape, h.output, h.size, fun k hk hB _ hv => h.block k hk hB hv⟩
theorem Fr.rd {w w' : World} {R : Nat} (B : Nat) (v : Value) (h : w.grownBy w' (some R)) : Fr w w' B R v := ⟨h.os, h.tape, h.output, h.size, fun k hk _ hR _ => h.block k hk (fun e => hR (Option.some.inj e))⟩

section
variable {w : World} {B R base : Nat} {ra : Option Addr} {n c : Nat} {xs : List Nat} {p : Nat} {v : Value} {o : List Nat} {most : Nat} {fl fd : Option Addr}
theorem InAt.read {w' : World} {q : Nat} (h : InAt w B R base ra n c xs p v o most fl fd) (hr : RdAt w' R ra n c xs q) (hg : w.grownBy w' (some R)) : InAt w' B R base ra n c xs q v o most fl fd := by
  refine ⟨h.ib.other (hg.block B h.ib.lt (fun e => h.ne (Option.some.inj e))), hr, h.own.kept hg ?_, h.byte, h.lim, h.most, Nat.le_trans h.low hg.size, h.hB, h.hR, h.ne, h.src⟩
  cases hv : v.ownBlock with
  | none => exact .inl rfl
  | some k =>
    refine .inr fun e => ?_
    have h1 := (h.own.lt k hv).1
    have h2 := h.hR
    have := Option.some.inj e
    omega
theorem InAt.wrote {w' : World} {v' : Value} {x : Nat} (h : InAt w B R base ra n c xs p v o most fl fd) (hx : x < 256) (hl : o.length + 1 ≤ most) (ht : Touch w w' B v) (hib : InBlk w' B R v' most fl fd) (hown : w'.ownsRow base 5 1 v' (o.length + 1) (bv (o ++ [x]))) : InAt w' B R base ra n c xs p v' (o ++ [x]) most fl fd := by
  have hlow : ∀ b, b < base → some b ≠ v.ownBlock := fun b hb e => by have := (h.own.lt b e.symm).1; omega
  have hbase := h.low
  have hRb := ht.block R h.rd.lt (fun e => h.ne e.symm) (hlow R h.hR)
  refine ⟨hib, ⟨hRb.trans h.rd.blk, ?_, h.rd.apart, h.rd.le⟩, by rw [List.length_append]; exact hown, ?_, by rw [List.length_append]; exact hl, h.most, Nat.le_trans h.low ht.size, h.hB, h.hR, h.ne, h.src⟩
  · have hs := h.rd.src
    exact ⟨hs.len, hs.cap, hs.byte, hs.reach, hs.capm, hs.nl, fun hp => by
      obtain ⟨b, off, ha, hlt, hc⟩ := hs.cells hp
      obtain ⟨s1, s2⟩ := h.src b off _ hp ha
      exact ⟨b, off, ha, Nat.lt_of_lt_of_le hlt ht.size, fun k hk => (World.cell?_of_block (w := w) (ht.block b hlt s2 (hlow b s1))).trans (hc k hk)⟩⟩
  · intro y hy
    rcases List.mem_append.1 hy with hy | hy
    · exact h.byte y hy
    · rw [List.mem_singleton.1 hy]; exact hx
theorem InAt.drewN (h : InAt w B R base ra n c xs p v o most fl fd) (q : Nat) : InAt (w.drewN q) B R base ra n c xs p v o most fl fd :=
  h.read (h.rd.drewN q) (grown_drewN _ _ _)
end

set_option maxHeartbeats 400000 in
theorem ialign_any {w : World} {B : Nat} {a : Option Addr} {n c : Nat} {xs : List Nat} {p : Nat} (h : RdAt w B a n c xs p) :
    Calls Tryz.prog 193 #[.pointer (some ⟨B, 0, none⟩)] w fun e w' => e = .returned (.tuple #[]) ∧ RdAt w' B a n c xs ((p + 7) / 8 * 8) ∧ w.grownBy w' (some B) := by
  have h1 := h.c1
  have f1 := h.f 1
  have hle := h.le
  have hr := h.src.reach
  obtain ⟨s1, g1⟩ := h.set1 ((p + 7) / 8 * 8) (by omega)
  have S1 := Lib.hid s1
  have G1 := Lib.hid g1
  have e1 : IntKind.i64.wrap ((p : Int) + 7) = (p : Int) + 7 := IntWalk.i64_in _ (by omega)
  have e2 : IntKind.i64.wrap (((p : Int) + 7) / 8 * 8) = (((p + 7) / 8 * 8 : Nat) : Int) := by rw [IntWalk.i64_in _ (by omega)]; omega
  clear h s1 g1
  go_enter Tryz.func193, Tryz.ntmps193
  go_wp2_with fail
  go_end0
  exact ⟨rfl, S1.out, G1.out⟩

/-- bits, where there are enough; where there aren't -/
theorem ibits_yes {w : World} {B : Nat} {a : Option Addr} {n c : Nat} {xs : List Nat} {p : Nat} (h : RdAt w B a n c xs p) (k : Nat) (hk : k ≤ 32) (hp : p + k ≤ 8 * xs.length) :
    Calls Tryz.prog 101 #[.pointer (some ⟨B, 0, none⟩), .int .i64 (k : Int)] w fun e w' => e = .returned (.tuple #[.int .u32 (num xs p k : Int), .int .i64 0]) ∧ RdAt w' B a n c xs (p + k) ∧ w.grownBy w' (some B) := by
  have hb := rbits_any h (k : Int)
  have e : rb xs p (k : Int) = (num xs p k, 0, p + k) := by unfold rb; rw [if_neg (by omega), Int.toNat_natCast, if_neg (by omega)]
  rw [e] at hb
  exact hb
theorem ibits_no {w : World} {B : Nat} {a : Option Addr} {n c : Nat} {xs : List Nat} {p : Nat} (h : RdAt w B a n c xs p) (k : Nat) (hk : k ≤ 32) (hp : 8 * xs.length < p + k) :
    Calls Tryz.prog 101 #[.pointer (some ⟨B, 0, none⟩), .int .i64 (k : Int)] w fun e w' => e = .returned (.tuple #[.int .u32 0, .int .i64 3]) ∧ RdAt w' B a n c xs p ∧ w.grownBy w' (some B) := by
  have hb := rbits_any h (k : Int)
  have h1 := h.le
  have h2 := h.src.len
  have e : rb xs p (k : Int) = (0, 3, p) := by unfold rb; rw [if_neg (by omega), Int.toNat_natCast, if_pos (by omega)]
  rw [e] at hb
  exact hb

/-- the loop over what is stored -/
structure Cp (xs : List Nat) (most : Nat) (p0 : Nat) (o0 : List Nat) (N k p : Nat) (o : List Nat) : Prop where
  run : run xs most (bytesR N) p0 o0 = run xs most (bytesR (N - k)) p o
  room : o.length + (N - k) ≤ most
theorem Cp.next {xs : List Nat} {most p0 N k p : Nat} {o0 o : List Nat} (h : Cp xs most p0 o0 N k p o) (hk : k < N) (hp : p + 8 ≤ 8 * xs.length) : Cp xs most p0 o0 N (k + 1) (p + 8) (o ++ [num xs p 8]) := by
  have hr := h.room
  refine ⟨?_, by rw [List.length_append]; show o.length + 1 + (N - (k + 1)) ≤ most; omega⟩
  rw [h.run, show N - k = (N - (k + 1)) + 1 from by omega, bytesR, run_bind, run_bits _ _ _ _ _ (by omega), if_neg (by omega)]
  show InfPlain.run xs most (.put (num xs p 8) (bytesR (N - (k + 1)))) (p + 8) o = _
  rw [InfPlain.run, if_neg (by omega)]
theorem Cp.short {xs : List Nat} {most p0 N k p : Nat} {o0 o : List Nat} (h : Cp xs most p0 o0 N k p o) (hk : k < N) (hp : p ≤ 8 * xs.length) (hs : 8 * xs.length < p + 8) : InfPlain.run xs most (bytesR N) p0 o0 = .error 3 := by
  rw [h.run, show N - k = (N - (k + 1)) + 1 from by omega, bytesR, run_bind, run_bits _ _ _ _ _ hp, if_pos hs]
theorem Cp.done {xs : List Nat} {most p0 N p : Nat} {o0 o : List Nat} (h : Cp xs most p0 o0 N N p o) : InfPlain.run xs most (bytesR N) p0 o0 = .ok ((), p, o) := by
  rw [h.run, Nat.sub_self]; rfl

/-- what the answer is, by what the tree says -/
def Says (w : World) (B R base : Nat) (ra : Option Addr) (n c : Nat) (xs : List Nat) (v : Value) (most : Nat) (fl fd : Option Addr) {α : Type} (r : Except Nat (α × Nat × List Nat)) (e : Ending) (w' : World) : Prop :=
  match r with
  | .ok (_, q, o') => e = .returned (.int .i64 0) ∧ Fr w w' B R v ∧ ∃ v', InAt w' B R base ra n c xs q v' o' most fl fd ∧ Went w v v'
  | .error er => e = .returned (.int .i64 (er : Int)) ∧ Fr w w' B R v
theorem xor_ffff (a : Nat) (ha : a < 4294967296) : bits .xor .u32 (a : Int) 65535 = ((a ^^^ 65535 : Nat) : Int) := u32_xor_nat a 65535 ha (by omega)

/-- what copyR says, step by step -/
theorem copy_1 {xs : List Nat} {most p : Nat} {o : List Nat} (hp : p ≤ 8 * xs.length) (h : 8 * xs.length < (p + 7) / 8 * 8 + 16) : run xs most copyR p o = .error 3 := by
  rw [copyR, run, run_bind, run_bits _ _ _ _ _ (by omega), if_pos h]
theorem copy_2 {xs : List Nat} {most p : Nat} {o : List Nat} (h : (p + 7) / 8 * 8 + 16 ≤ 8 * xs.length) (hr : most < o.length + num xs ((p + 7) / 8 * 8) 16) : run xs most copyR p o = .error 5 := by
  rw [copyR, run, run_bind, run_bits _ _ _ _ _ (by omega), if_neg (by omega)]
  show run xs most (.chk _ _) _ o = _
  rw [run, if_pos hr]
theorem copy_3 {xs : List Nat} {most p : Nat} {o : List Nat} (h : (p + 7) / 8 * 8 + 16 ≤ 8 * xs.length) (hr : o.length + num xs ((p + 7) / 8 * 8) 16 ≤ most) (h2 : 8 * xs.length < (p + 7) / 8 * 8 + 16 + 16) : run xs most copyR p o = .error 3 := by
  rw [copyR, run, run_bind, run_bits _ _ _ _ _ (by omega), if_neg (by omega)]
  show run xs most (.chk _ _) _ o = _
  rw [run, if_neg (by omega), run_bind, run_bits _ _ _ _ _ (by omega), if_pos h2]
theorem copy_4 {xs : List Nat} {most p : Nat} {o : List Nat} (h : (p + 7) / 8 * 8 + 16 + 16 ≤ 8 * xs.length) (hr : o.length + num xs ((p + 7) / 8 * 8) 16 ≤ most) :
    run xs most copyR p o = if num xs ((p + 7) / 8 * 8 + 16) 16 ≠ num xs ((p + 7) / 8 * 8) 16 ^^^ 65535 then .error 4 else run xs most (bytesR (num xs ((p + 7) / 8 * 8) 16)) ((p + 7) / 8 * 8 + 16 + 16) o := by
  rw [copyR, run, run_bind, run_bits _ _ _ _ _ (by omega), if_neg (by omega)]
  show run xs most (.chk _ _) _ o = _
  rw [run, if_neg (by omega), run_bind, run_bits _ _ _ _ _ (by omega), if_neg (by omega)]
  show run xs most (if _ then _ else _) _ o = _
  split
  · rfl
  · rfl
end Go.Proofs.YtpbijdoemdoijaaGreatDoor
end PkCa23_1
section PkCa23_2
/- Package inflate: what repR says, step by step; put over a whole state. -/
namespace Go.Proofs.YtpbijdoemdoijaaGreatDoor
open Go.RowKit PrefPlain BitsPlain InfPlain
set_option linter.unusedVariables false

theorem lenOf_le : ∀ s, s < 29 → (lenOf s).2 ≤ 5 ∧ (lenOf s).1 ≤ 258 := by decide
theorem disOf_le : ∀ d, d < 30 → (disOf d).2 ≤ 13 ∧ (disOf d).1 ≤ 24577 ∧ 1 ≤ (disOf d).1 := by decide
theorem nx_nonneg (L : List Int) (bit : Nat → Nat) (left : Nat) : ∀ f k W, 0 ≤ (nx L bit left f k W).1
  | 0, k, W => by simp [nx]
  | f + 1, k, W => by
    rw [nx]
    split
    · simp
    · split
      · show 0 ≤ (sy L L.length (k + 1)).getD _ 0
        rw [List.getD_eq_getElem?_getD]
        cases h : (sy L L.length (k + 1))[2 * W + bit k - fw (cn L) (k + 1)]? with
        | none => simp
        | some z => exact (sy_bound z (List.mem_of_getElem? h)).1
      · exact nx_nonneg L bit left f _ _
theorem rn_nonneg (L : List Int) (xs : List Nat) (p : Nat) : 0 ≤ (rn L xs p).1 := nx_nonneg _ _ _ _ _ _

variable {xs : List Nat} {most p : Nat} {o : List Nat} {s : Nat} {D : List Int}
theorem rep_1 (hp : p ≤ 8 * xs.length) (h : 8 * xs.length < p + (lenOf s).2) : run xs most (repR s D) p o = .error 3 := by
  rw [repR, run_bind, run_bits _ _ _ _ _ hp, if_pos h]
theorem rep_2 (h : p + (lenOf s).2 ≤ 8 * xs.length) (he : (rn D xs (p + (lenOf s).2)).2.1 ≠ 0) : run xs most (repR s D) p o = .error (rn D xs (p + (lenOf s).2)).2.1 := by
  rw [repR, run_bind, run_bits _ _ _ _ _ (by omega), if_neg (by omega)]
  show run xs most (Rd.bind (nextR D) _) _ o = _
  rw [run_bind, run_next _ _ _ _ _ h, if_neg he]
/-- behind the two reads -/
theorem rep_3 (h : p + (lenOf s).2 ≤ 8 * xs.length) (he : (rn D xs (p + (lenOf s).2)).2.1 = 0) :
    run xs most (repR s D) p o = if 30 ≤ (rn D xs (p + (lenOf s).2)).1 then .error 4 else
      run xs most ((bitsR (disOf (rn D xs (p + (lenOf s).2)).1.toNat).2).bind fun b => .rep ((lenOf s).1 + num xs p (lenOf s).2) ((disOf (rn D xs (p + (lenOf s).2)).1.toNat).1 + b) (.ret ())) (p + (lenOf s).2 + (rn D xs (p + (lenOf s).2)).2.2) o := by
  rw [repR, run_bind, run_bits _ _ _ _ _ (by omega), if_neg (by omega)]
  show run xs most (Rd.bind (nextR D) _) _ o = _
  rw [run_bind, run_next _ _ _ _ _ h, if_pos he]
  show run xs most (if _ then _ else _) _ o = _
  split
  · rfl
  · rfl
theorem rep_4 {q m N A : Nat} (hq : q ≤ 8 * xs.length) :
    run xs most ((bitsR m).bind fun b => .rep N (A + b) (.ret ())) q o = if 8 * xs.length < q + m then .error 3 else if o.length < A + num xs q m then .error 4 else if most < o.length + N then .error 5 else .ok ((), q + m, repn o (A + num xs q m) N) := by
  rw [run_bind, run_bits _ _ _ _ _ hq]
  by_cases h : 8 * xs.length < q + m
  · rw [if_pos h, if_pos h]
  · rw [if_neg h, if_neg h]
    show run xs most (.rep _ _ _) _ o = _
    rw [run]
    rfl
/-- the loop that repeats: one byte more -/
theorem repn_next (o : List Nat) (a k : Nat) : repn o a (k + 1) = repn o a k ++ [(repn o a k).getD ((repn o a k).length - a) 0] := by
  induction k generalizing o with
  | zero => rfl
  | succ k ih => rw [repn, ih]; rfl
theorem repn_byte {o : List Nat} (a : Nat) (h : ∀ x ∈ o, x < 256) : ∀ k, ∀ x ∈ repn o a k, x < 256
  | 0 => h
  | k + 1 => by
    rw [repn_next]
    intro x hx
    rcases List.mem_append.1 hx with hx | hx
    · exact repn_byte a h k x hx
    · rw [List.mem_singleton.1 hx, List.getD_eq_getElem?_getD]
      cases h2 : (repn o a k)[(repn o a k).length - a]? with
      | none => simp
      | some z => exact repn_byte a h k z (List.mem_of_getElem? h2)

/-- put, over a whole state -/
theorem iput_all {w : World} {B R base : Nat} {ra : Option Addr} {n c : Nat} {v : Value} {fl fd : Option Addr} (h : InAt w B R base ra n c xs p v o most fl fd) (x : Nat) (hx : x < 256) :
    Calls Tryz.prog 198 #[.pointer (some ⟨B, 0, none⟩), .int .u8 (x : Int)] w fun e w' => Says w B R base ra n c xs v most fl fd (run xs most (.put x (.ret ())) p o) e w' := by
  refine (iput_any h.ib h.own h.byte h.low h.lim h.most x hx).mono ?_
  rintro e w' (⟨h1, rfl, ht⟩ | ⟨h1, rfl, ht, v', hb, ho, hw⟩)
  · rw [run, if_pos h1]
    exact ⟨rfl, Fr.touch R ht⟩
  · rw [run, if_neg (by omega)]
    exact ⟨rfl, Fr.touch R ht, v', h.wrote hx h1 ht hb ho, hw⟩
/-- a count: a number of bits, and the least -/
theorem icount_any {w : World} {B R base : Nat} {ra : Option Addr} {n c : Nat} {v : Value} {fl fd : Option Addr} (h : InAt w B R base ra n c xs p v o most fl fd) (k least : Nat) (hk : k ≤ 16) (hl : least ≤ 1000) :
    Calls Tryz.prog 201 #[.pointer (some ⟨B, 0, none⟩), .int .i64 (k : Int), .int .i64 (least : Int)] w fun e w' =>
      (8 * xs.length < p + k ∧ e = .returned (.tuple #[.int .i64 (least : Int), .int .i64 3]) ∧ w.grownBy w' (some R) ∧ InAt w' B R base ra n c xs p v o most fl fd) ∨
      (p + k ≤ 8 * xs.length ∧ e = .returned (.tuple #[.int .i64 ((num xs p k + least : Nat) : Int), .int .i64 0]) ∧ w.grownBy w' (some R) ∧ InAt w' B R base ra n c xs (p + k) v o most fl fd) := by
  have c0 := h.ib.c0
  have HI := Lib.hid h
  by_cases hs : 8 * xs.length < p + k
  · have HB := Lib.hid (ibits_no h.rd k (by omega) hs)
    clear h
    go_enter Tryz.func201, Tryz.ntmps201
    go_wp2_with fail
    refine HB.out.mono ?_
    rintro e w2 ⟨rfl, hr2, hg2⟩
    have HJ := Lib.hid (HI.out.read hr2 hg2)
    go_wp2_with fail
    go_ret2
    exact .inl ⟨hs, rfl, hg2, HJ.out⟩
  · have HB := Lib.hid (ibits_yes h.rd k (by omega) (by omega))
    have hN := num_lt xs p k
    have hp16 : 2 ^ k ≤ 2 ^ 16 := Nat.pow_le_pow_right (by omega) hk
    have hN2 : num xs p k < 65536 := by have : (2 : Nat) ^ 16 = 65536 := by decide
                                        omega
    obtain ⟨N, hNe⟩ : ∃ N, N = num xs p k := ⟨_, rfl⟩
    rw [← hNe] at HB hN2 ⊢
    have hps : p + k ≤ 8 * xs.length := by omega
    clear h hN hp16 hNe hs
    go_enter Tryz.func201, Tryz.ntmps201
    go_wp2_with fail
    refine HB.out.mono ?_
    rintro e w2 ⟨rfl, hr2, hg2⟩
    have HJ := Lib.hid (HI.out.read hr2 hg2)
    go_wp2_with fail
    go_ret2
    exact .inr ⟨hps, rfl, hg2, HJ.out⟩
end Go.Proofs.YtpbijdoemdoijaaGreatDoor
end PkCa23_2
section PkCa23_3
/- Package inflate: repetition, walked. -/
namespace Go.Proofs.YtpbijdoemdoijaaGreatDoor
open Go.RowKit PrefPlain BitsPlain InfPlain
set_option linter.unusedVariables false

set_option maxRecDepth 100000 in
set_option maxHeartbeats 8000000 in
theorem irep_any {w : World} {B R base : Nat} {ra : Option Addr} {n c : Nat} {xs : List Nat} {p : Nat} {v : Value} {o : List Nat} {most : Nat} {fl fd : Option Addr} (h : InAt w B R base ra n c xs p v o most fl fd) (s : Nat) (hs : s < 29) {TB : Nat} {D : List Int} (hT : ∀ w', Fr w w' B R v → TabAt w' TB D) (hTR : TB ≠ R) :
    Calls Tryz.prog 199 #[.pointer (some ⟨B, 0, none⟩), .int .i64 (s : Int), .pointer (some ⟨TB, 0, none⟩)] w fun e w' => Says w B R base ra n c xs v most fl fd (run xs most (repR s D) p o) e w' := by
  obtain ⟨i0, hi, hz0, hz1, hz2⟩ := info_parts info_u8
  obtain ⟨av, cv, rfl, _, _⟩ := BytesAt.ofOwn h.own h.byte (by have := h.lim; have := h.most; omega)
  have c0 := h.ib.c0
  have hm := h.most
  have hlb := lenOf_le s hs
  have HLN := Lib.hid (length_any s hs w)
  have E1 := @rep_1 xs most p o s D
  have E2 := @rep_2 xs most p o s D
  have E3 := @rep_3 xs most p o s D
  obtain ⟨X, hX⟩ : ∃ X, X = (lenOf s).2 := ⟨_, rfl⟩
  obtain ⟨LB, hLB⟩ : ∃ LB, LB = (lenOf s).1 := ⟨_, rfl⟩
  rw [← hX] at hlb HLN E1 E2 E3
  rw [← hLB] at hlb HLN E3
  obtain ⟨hX5, hLB2⟩ := hlb
  have HE1 := Lib.hid E1
  have HE2 := Lib.hid E2
  have HE3 := Lib.hid E3
  have HI := Lib.hid h
  have HT := Lib.hid hT
  have hpl : p ≤ 8 * xs.length := by have := h.rd.le; have := h.rd.src.len; omega
  have HPL := Lib.hid hpl
  clear h hT E1 E2 E3 hX hLB hpl
  go_enter Tryz.func199, Tryz.ntmps199
  go_wp2_with fail
  refine HLN.out.mono ?_
  rintro e w1 ⟨rfl, rfl⟩
  by_cases s1 : 8 * xs.length < p + X
  · have HB := Lib.hid (ibits_no HI.out.rd X (by omega) s1)
    have HE := Lib.hid (HE1.out HPL.out s1)
    clear s1
    go_wp2_with fail
    refine HB.out.mono ?_
    rintro e w2 ⟨rfl, hr2, hg2⟩
    have HF2 := Lib.hid (Fr.rd B (.slice av o.length cv) hg2)
    clear hr2 hg2
    go_wp2_with fail
    go_ret
    rw [HE.out]
    exact ⟨rfl, HF2.out⟩
  · have hp1 : p + X ≤ 8 * xs.length := by omega
    have HB := Lib.hid (ibits_yes HI.out.rd X (by omega) hp1)
    have E2 := HE2.out hp1
    have E3 := HE3.out hp1
    have hN := num_lt xs p X
    have hp16 : 2 ^ X ≤ 2 ^ 5 := Nat.pow_le_pow_right (by omega) hX5
    have h32 : (2 : Nat) ^ 5 = 32 := by decide
    obtain ⟨N1, hN1⟩ : ∃ N1, N1 = num xs p X := ⟨_, rfl⟩
    rw [← hN1] at HB hN E3
    have hN32 : N1 < 32 := by omega
    have hrn := rn_nonneg D xs (p + X)
    have HP1 := Lib.hid hp1
    have HEE2 := Lib.hid E2
    have HEE3 := Lib.hid E3
    have HRN := Lib.hid hrn
    clear hN hp16 h32 hN1 s1 E2 E3 hp1 hrn
    go_wp2_with fail
    refine HB.out.mono ?_
    rintro e w2 ⟨rfl, hr2, hg2⟩
    have hf2 := Fr.rd B (.slice av o.length cv) hg2
    have hi2 := HI.out.read hr2 hg2
    have hc2 := hi2.ib.c0
    have HF2 := Lib.hid hf2
    have HI2 := Lib.hid hi2
    have hnx := next_any (HT.out w2 hf2) hi2.rd hTR (fun w' hg => HT.out w' (hf2.trans (Went.refl _ _) (Fr.rd B _ hg)))
    obtain ⟨d, hd⟩ : ∃ d, d = (rn D xs (p + X)).1 := ⟨_, rfl⟩
    obtain ⟨er, her⟩ : ∃ er, er = (rn D xs (p + X)).2.1 := ⟨_, rfl⟩
    obtain ⟨ct, hct⟩ : ∃ ct, ct = (rn D xs (p + X)).2.2 := ⟨_, rfl⟩
    rw [← hd, ← her, ← hct] at hnx
    have HNX := Lib.hid hnx
    have hd0 : 0 ≤ d := by rw [hd]; exact HRN.out
    have EE2 := HEE2.out
    have EE3 := HEE3.out
    rw [← her] at EE2 EE3
    rw [← hd, ← hct] at EE3
    have HQ2 := Lib.hid EE2
    have HQ3 := Lib.hid EE3
    clear hr2 hg2 hf2 hi2 hnx hd her hct c0 HEE2 HEE3 HRN EE2 EE3
    go_wp2_with fail
    refine HNX.out.mono ?_
    rintro e w3 ⟨rfl, hr3, hg3⟩
    have hi3 := HI2.out.read hr3 hg3
    have hc3 := hi3.ib.c0
    have hc31 := hi3.ib.c1
    have HF3 := Lib.hid (HF2.out.trans (Went.refl _ _) (Fr.rd B _ hg3))
    have HI3 := Lib.hid hi3
    clear hr3 hg3 hi3 hc2
    by_cases her0 : er = 0
    · subst her0
      have hz : ((0 : Int) != 0) = false := by decide
      have HQ := Lib.hid (HQ3.out rfl)
      by_cases hd30 : 30 ≤ d
      · have HE := Lib.hid (show run xs most (repR s D) p o = .error 4 by rw [HQ.out, if_pos hd30])
        go_wp2_with fail
        go_ret
        rw [HE.out]
        exact ⟨rfl, HF3.out⟩
      · obtain ⟨dn, rfl⟩ := Int.eq_ofNat_of_zero_le hd0
        have hdn : dn < 30 := by omega
        have hdi : (dn : Int) < 30 := by omega
        have hq : p + X + ct ≤ 8 * xs.length := by have := HI3.out.rd.le; have := HI3.out.rd.src.len; omega
        have HE := HQ.out
        rw [if_neg hd30, Int.toNat_natCast, rep_4 hq] at HE
        have hdl := disOf_le dn hdn
        have HDS := Lib.hid (distance_any dn hdn w3)
        obtain ⟨DX, hDX⟩ : ∃ DX, DX = (disOf dn).2 := ⟨_, rfl⟩
        obtain ⟨DB, hDB⟩ : ∃ DB, DB = (disOf dn).1 := ⟨_, rfl⟩
        rw [← hDX, ← hDB] at hdl HDS HE
        obtain ⟨hDX2, hDB2, hDB1⟩ := hdl
        have HEE := Lib.hid HE
        have HQQ := Lib.hid hq
        clear hd30 HE hq hDX hDB hdn HQ
        go_wp2_with fail
        refine HDS.out.mono ?_
        rintro e w4 ⟨rfl, rfl⟩
        by_cases s2 : 8 * xs.length < p + X + ct + DX
        · have HB4 := Lib.hid (ibits_no HI3.out.rd DX (by omega) s2)
          have HE := Lib.hid (show run xs most (repR s D) p o = .error 3 by rw [HEE.out, if_pos s2])
          clear s2
          go_wp2_with fail
          refine HB4.out.mono ?_
          rintro e w5 ⟨rfl, hr5, hg5⟩
          have HF5 := Lib.hid (HF3.out.trans (Went.refl _ _) (Fr.rd B _ hg5))
          clear hr5 hg5
          go_wp2_with fail
          go_ret
          rw [HE.out]
          exact ⟨rfl, HF5.out⟩
        · have HB4 := Lib.hid (ibits_yes HI3.out.rd DX (by omega) (by omega))
          have hE := HEE.out
          rw [if_neg s2] at hE
          have hN := num_lt xs (p + X + ct) DX
          have hp13 : 2 ^ DX ≤ 2 ^ 13 := Nat.pow_le_pow_right (by omega) hDX2
          have h8192 : (2 : Nat) ^ 13 = 8192 := by decide
          obtain ⟨N2, hN2⟩ : ∃ N2, N2 = num xs (p + X + ct) DX := ⟨_, rfl⟩
          rw [← hN2] at HB4 hN hE
          have hN82 : N2 < 8192 := by omega
          have HE := Lib.hid hE
          clear hE hN hp13 h8192 hN2 s2
          go_wp2_with fail
          refine HB4.out.mono ?_
          rintro e w5 ⟨rfl, hr5, hg5⟩
          have hi5 := HI3.out.read hr5 hg5
          have hc5 := hi5.ib.c1
          have HF5 := Lib.hid (HF3.out.trans (Went.refl _ _) (Fr.rd B _ hg5))
          have HR5 := Lib.hid (room_any hi5.ib hi5.lim hi5.most (LB + N1) (by omega))
          have HI5 := Lib.hid hi5
          clear hr5 hg5 hi5 hc3 hc31
          obtain ⟨A, hA⟩ : ∃ A, A = DB + N2 := ⟨_, rfl⟩
          obtain ⟨NN, hNN⟩ : ∃ NN, NN = LB + N1 := ⟨_, rfl⟩
          obtain ⟨l, hl⟩ : ∃ l, l = o.length := ⟨_, rfl⟩
          have hAi : (DB : Int) + (N2 : Int) = (A : Int) := by omega
          have hNi : (LB : Int) + (N1 : Int) = (NN : Int) := by omega
          have hAb : A ≤ 40000 := by omega
          have hA1 : 1 ≤ A := by omega
          have hNb : NN ≤ 1000 := by omega
          have hE := HE.out
          rw [← hA, ← hNN, ← hl] at hE
          rw [← hNN, ← hl] at HR5
          have hlm : l ≤ most := by rw [hl]; exact HI5.out.lim
          have HEL := Lib.hid hE
          have HLO := Lib.hid hl
          clear hE hNN hA
          rw [← hl] at hc5
          clear hl
          by_cases ha : l < A
          · have hE := HEL.out
            rw [if_pos ha] at hE
            have HE4 := Lib.hid hE
            have hai : (l : Int) < (A : Int) := by omega
            clear hE
            go_wp2_with fail
            go_ret
            rw [HE4.out]
            exact ⟨rfl, HF5.out⟩
          · have hE := HEL.out
            rw [if_neg ha] at hE
            have hai : (A : Int) ≤ (l : Int) := by omega
            by_cases hroom : l + NN ≤ most
            · have hd : decide (l + NN ≤ most) = true := decide_eq_true hroom
              rw [hd] at HR5
              rw [if_neg (by omega)] at hE
              have HE5 := Lib.hid hE
              clear hE hd
              go_wp2_with fail
              refine HR5.out.mono ?_
              rintro e w6 ⟨rfl, d6, rfl⟩
              have HF6 := Lib.hid (HF5.out.trans (Went.refl _ _) (Fr.touch R (touch_drewN w5 d6 B _)))
              have HI6 := Lib.hid (HI5.out.drewN d6)
              clear hc5
              go_wp2_with fail
              go_loopw [82] (fun s82 wr => ∃ (k : Nat) (v' : Value), k ≤ NN ∧ s82 = .int .i64 (k : Int) ∧ Hid (InAt wr B R base ra n c xs (p + X + ct + DX) v' (repn o A k) most fl fd) ∧ Hid (Fr w wr B R (.slice av o.length cv)) ∧ Hid (Went w (.slice av o.length cv) v')) (fun s82 _ => NN - (intOf s82).toNat)
              case atStart => exact ⟨0, _, by omega, rfl, HI6, HF6, Lib.hid (Went.refl _ _)⟩
              case round =>
                obtain ⟨k, v', hk, rfl, HJ, HF, HW⟩ := hrel
                rename World => wr
                by_cases hkN : k < NN
                · have hO := repn_len A k o
                  have hnext := repn_next o A k
                  have hlo := HLO.out
                  obtain ⟨O, hOe⟩ : ∃ O, O = repn o A k := ⟨_, rfl⟩
                  rw [← hOe] at HJ hO hnext
                  have hl1 : O.length + 1 ≤ most := by omega
                  obtain ⟨m, hme⟩ : ∃ m, m = O.length := ⟨_, rfl⟩
                  have hmA : A ≤ m := by omega
                  have hown := HJ.out.own
                  rw [← hme] at hown hl1 hnext
                  obtain ⟨g', c', rfl⟩ := own_some hown (by omega)
                  obtain ⟨j, hj⟩ : ∃ j, j = m - A := ⟨_, rfl⟩
                  rw [← hj] at hnext
                  obtain ⟨x, hx⟩ : ∃ x, x = O.getD j 0 := ⟨_, rfl⟩
                  rw [← hx] at hnext
                  have hjm : j < m := by omega
                  have hjO : j < O.length := by omega
                  have hxO : O.getD j 0 = O[j] := by simp [hjO]
                  have hx256 : x < 256 := by rw [hx, hxO]; exact HJ.out.byte _ (List.getElem_mem hjO)
                  have hcx : wr.cell? ⟨g', j, none⟩ = some (.int .u8 (x : Int)) := by
                    rw [hown.cellAt j (by omega), hx, hxO]
                    simp [bv, hjO]
                  have ej : (m : Int) - (A : Int) = (j : Int) := by omega
                  have ej2 : IntKind.i64.wrap (j : Int) = (j : Int) := IntWalk.i64_in _ (by omega)
                  have hji : (j : Int) < (m : Int) := by omega
                  have c1 := HJ.out.ib.c1
                  have hlow := HJ.out.low
                  have hBl := HJ.out.ib.lt
                  have hgl : g' < wr.heap.size := (hown.lt g' rfl).2
                  have HNX := Lib.hid hnext
                  have HOW := Lib.hid hown
                  have HOA := Lib.hid ((hown.alloc (.cells #[.int .u8 (x : Int)] 5)).drew)
                  have HOE := Lib.hid hOe
                  have HME := Lib.hid hme
                  clear hO hnext hlo hOe hme hown hj hx hjO hxO
                  go_wp2_with fail
                  go_region_law (first | (refine step_append_own_at rfl (.tmp 88) (.tmp 102) 27 rfl base 5 i0 (.int .u8 0) 1 1 Tryz.underlying27 hi hz0 hz1 hz2 rfl (by decide) _ _ _ rfl HOA.out ⟨wr.heap.size, 0, none⟩ 1 1 [.int .u8 (x : Int)] rfl rfl (one_src _ _ _) (one_oneCell rfl) (by unfold maxLen; omega) (by omega) (by simp; omega) ?_; intro v2 w7 hown7 hg7 hat7; obtain ⟨g2, cc2, rfl⟩ := own_some hown7 (by omega); have hst := out_step (.cells #[.int .u8 (x : Int)] 5) HJ.out.ib HOW.out hown7 ⟨hg7.os, hg7.tape, hg7.output, hg7.size, hg7.block⟩; have HST := Lib.hid hst; have c7 := hst.1.c1; have f7 := hst.1.f 1; clear hst))
                  all_goals
                    have hwent : Went wr (.slice (some ⟨g', 0, none⟩) m c') (.slice (some ⟨g2, 0, none⟩) (m + 1) cc2) := by
                      rcases hat7 with e | e
                      · exact .inl e
                      · exact .inr ⟨_, e, by simp⟩
                    have HWT := Lib.hid hwent
                    clear hwent hat7 hown7 hg7
                    go_wp2_with fail
                    go_roundw
                    case rel => exact ⟨k + 1, _, by omega, by go_num, Lib.hid (by rw [HNX.out]; exact HJ.out.wrote hx256 (by rw [← HME.out]; exact hl1) HST.out.2.2.2 HST.out.2.1 (by rw [bv_append, ← HME.out]; exact HST.out.2.2.1)), Lib.hid (HF.out.trans HW.out (Fr.touch R HST.out.2.2.2)), Lib.hid (HW.out.trans HF.out.size HWT.out)⟩
                    case measure => simp [intOf]; omega
                · obtain rfl : k = NN := by omega
                  go_wp2_with fail
                  go_ret
                  rw [HE5.out]
                  exact ⟨rfl, HF.out, _, HJ.out, HW.out⟩
            · have hd : decide (l + NN ≤ most) = false := decide_eq_false hroom
              rw [hd] at HR5
              rw [if_pos (by omega)] at hE
              have HE5 := Lib.hid hE
              clear hE hd
              go_wp2_with fail
              refine HR5.out.mono ?_
              rintro e w6 ⟨rfl, d6, rfl⟩
              have HF6 := Lib.hid (HF5.out.trans (Went.refl _ _) (Fr.touch R (touch_drewN w5 d6 B _)))
              go_wp2_with fail
              go_ret
              rw [HE5.out]
              exact ⟨rfl, HF6.out⟩
    · have hz : ((er : Int) != 0) = true := by rw [bne_iff_ne]; omega
      have HE := Lib.hid (HQ2.out her0)
      clear her0
      go_wp2_with fail
      go_ret
      rw [HE.out]
      exact ⟨rfl, HF3.out⟩
end Go.Proofs.YtpbijdoemdoijaaGreatDoor
end PkCa23_3
section PkCa23_4
/- Package inflate: what symR says, step by step; tables that the calls of an inflater leave alone. -/
namespace Go.Proofs.YtpbijdoemdoijaaGreatDoor
open Go.RowKit PrefPlain BitsPlain InfPlain
set_option linter.unusedVariables false

theorem nx_one (L : List Int) (bit : Nat → Nat) (left : Nat) : ∀ f k W, (nx L bit left f k W).2.1 = 0 → k + 1 ≤ (nx L bit left f k W).2.2
  | 0, k, W => by rw [nx]; intro h; cases h
  | f + 1, k, W => by
    rw [nx]
    split
    · intro h; cases h
    · split
      · intro _; exact Nat.le_refl _
      · intro h; have := nx_one L bit left f (k + 1) _ h; omega
theorem rn_one {L : List Int} {xs : List Nat} {p : Nat} (h : (rn L xs p).2.1 = 0) : 1 ≤ (rn L xs p).2.2 := by
  have := nx_one _ _ _ _ _ _ h
  unfold rn; omega
theorem nx_le (L : List Int) (bit : Nat → Nat) (left : Nat) : ∀ f k W, (nx L bit left f k W).1 ≤ L.length
  | 0, k, W => by simp [nx]
  | f + 1, k, W => by
    rw [nx]
    split
    · simp
    · split
      · show (sy L L.length (k + 1)).getD _ 0 ≤ _
        rw [List.getD_eq_getElem?_getD]
        cases h : (sy L L.length (k + 1))[2 * W + bit k - fw (cn L) (k + 1)]? with
        | none => simp
        | some z => exact Int.le_of_lt (sy_bound z (List.mem_of_getElem? h)).2
      · exact nx_le L bit left f _ _
theorem rn_le (L : List Int) (xs : List Nat) (p : Nat) : (rn L xs p).1 ≤ L.length := nx_le _ _ _ _ _ _

/-- a table that whatever the inflater's calls may turn leaves as it is -/
structure Kept (w : World) (B R : Nat) (v : Value) (TB : Nat) (L : List Int) : Prop where
  tab : ∀ w', Fr w w' B R v → TabAt w' TB L
  ne : TB ≠ R
theorem Kept.on {w w' : World} {B R TB : Nat} {v v' : Value} {L : List Int} (h : Kept w B R v TB L) (hf : Fr w w' B R v) (hw : Went w v v') : Kept w' B R v' TB L := ⟨fun w'' hf2 => h.tab w'' (hf.trans hw hf2), h.ne⟩
theorem Kept.at {w : World} {B R TB : Nat} {v : Value} {L : List Int} (h : Kept w B R v TB L) : TabAt w TB L := h.tab w (Fr.refl _ _ _ _)
theorem tab_kept {b0 : Nat} {w : World} {B R TB : Nat} {v : Value} {L : List Int} (h : TabUp b0 w TB L) (hB : B < b0) (hR : R < b0) (hv : ∀ g, v.ownBlock = some g → g < b0) (hT : b0 ≤ TB) : Kept w B R v TB L :=
  ⟨fun w' hf => h w' hf.size (fun k hk hlt => hf.block k hlt (by omega) (by omega) (fun e => by have := hv k e.symm; omega)), by omega⟩
theorem TabUp.on {b0 b1 : Nat} {w w' : World} {TB : Nat} {L : List Int} (h : TabUp b0 w TB L) (hb : Below w.heap.size w w') (h01 : b1 ≤ b0) : TabUp b1 w' TB L := fun w'' hs hk =>
  h w'' (Nat.le_trans hb.size hs) (fun k hk0 hlt => (hk k (by omega) (Nat.lt_of_lt_of_le hlt hb.size)).trans (hb.block k hlt))
theorem TabUp.on' {b0 b1 : Nat} {w w' : World} {TB : Nat} {L : List Int} (h : TabUp b0 w TB L) (hs : w.heap.size ≤ w'.heap.size) (hk : ∀ k, b0 ≤ k → k < w.heap.size → w'.heap[k]? = w.heap[k]?) (h01 : b1 ≤ b0) : TabUp b1 w' TB L := fun w'' hs2 hk2 =>
  h w'' (Nat.le_trans hs hs2) (fun k hk0 hlt => (hk2 k (by omega) (Nat.lt_of_lt_of_le hlt hs)).trans (hk k hk0 hlt))
theorem Fr.below {w w' : World} {B R : Nat} {v : Value} (h : Below w.heap.size w w') : Fr w w' B R v := ⟨h.os, h.tape, h.output, h.size, fun k hk _ _ _ => h.block k hk⟩

section
variable {w : World} {B R base : Nat} {ra : Option Addr} {n c : Nat} {xs : List Nat} {p : Nat} {v : Value} {o : List Nat} {most : Nat} {fl fd : Option Addr}
theorem InAt.below {w' : World} (h : InAt w B R base ra n c xs p v o most fl fd) (hb : Below w.heap.size w w') : InAt w' B R base ra n c xs p v o most fl fd :=
  ⟨h.ib.other (hb.block B h.ib.lt), ⟨(hb.block R h.rd.lt).trans h.rd.blk, h.rd.src.kept hb, h.rd.apart, h.rd.le⟩, own_below h.own hb, h.byte, h.lim, h.most, Nat.le_trans h.low hb.size, h.hB, h.hR, h.ne, h.src⟩
theorem InAt.vlt (h : InAt w B R base ra n c xs p v o most fl fd) : ∀ g, v.ownBlock = some g → g < w.heap.size := fun g hg => (h.own.lt g hg).2
theorem InAt.pl (h : InAt w B R base ra n c xs p v o most fl fd) : p ≤ 8 * xs.length := by have := h.rd.le; have := h.rd.src.len; omega
end

section
variable {xs : List Nat} {most p : Nat} {o : List Nat} {L D : List Int} {f : Nat}
theorem sym_1 (hp : p ≤ 8 * xs.length) (he : (rn L xs p).2.1 ≠ 0) : run xs most (symR L D (f + 1)) p o = .error (rn L xs p).2.1 := by
  rw [symR, run_bind, run_next _ _ _ _ _ hp, if_neg he]
/-- what comes behind one letter -/
def SymThen (xs : List Nat) (most : Nat) (L D : List Int) (f : Nat) (r : Except Nat (Unit × Nat × List Nat)) : Except Nat (Unit × Nat × List Nat) := match r with | .error e => .error e | .ok (_, q, o) => run xs most (symR L D f) q o
theorem sym_2 (hp : p ≤ 8 * xs.length) (he : (rn L xs p).2.1 = 0) (hs : (rn L xs p).1 = 256) : run xs most (symR L D (f + 1)) p o = .ok ((), p + (rn L xs p).2.2, o) := by
  rw [symR, run_bind, run_next _ _ _ _ _ hp, if_pos he]
  show run xs most (if _ then _ else _) _ o = _
  rw [if_pos hs]; rfl
theorem sym_3 (hp : p ≤ 8 * xs.length) (he : (rn L xs p).2.1 = 0) (hs : (rn L xs p).1 < 256) : run xs most (symR L D (f + 1)) p o = SymThen xs most L D f (run xs most (.put (rn L xs p).1.toNat (.ret ())) (p + (rn L xs p).2.2) o) := by
  rw [symR, run_bind, run_next _ _ _ _ _ hp, if_pos he]
  show run xs most (if _ then _ else _) _ o = _
  rw [if_neg (by omega), if_pos hs, run, run]
  by_cases hm : most < o.length + 1
  · rw [if_pos hm, if_pos hm]; rfl
  · rw [if_neg hm, if_neg hm]; rfl
theorem sym_4 (hp : p ≤ 8 * xs.length) (he : (rn L xs p).2.1 = 0) (hs : 286 ≤ (rn L xs p).1) : run xs most (symR L D (f + 1)) p o = .error 4 := by
  rw [symR, run_bind, run_next _ _ _ _ _ hp, if_pos he]
  show run xs most (if _ then _ else _) _ o = _
  rw [if_neg (by omega), if_neg (by omega), if_pos hs]; rfl
theorem sym_5 (hp : p ≤ 8 * xs.length) (he : (rn L xs p).2.1 = 0) (h1 : 256 < (rn L xs p).1) (h2 : (rn L xs p).1 < 286) : run xs most (symR L D (f + 1)) p o = SymThen xs most L D f (run xs most (repR ((rn L xs p).1 - 257).toNat D) (p + (rn L xs p).2.2) o) := by
  rw [symR, run_bind, run_next _ _ _ _ _ hp, if_pos he]
  show run xs most (if _ then _ else _) _ o = _
  rw [if_neg (by omega), if_neg (by omega), if_neg (by omega), run_bind]
  unfold SymThen
  cases run xs most (repR ((rn L xs p).1 - 257).toNat D) (p + (rn L xs p).2.2) o <;> rfl
end

/-- the loop over letters -/
structure Sy (xs : List Nat) (most : Nat) (L D : List Int) (f0 p0 : Nat) (o0 : List Nat) (f p : Nat) (o : List Nat) : Prop where
  run : run xs most (symR L D f0) p0 o0 = run xs most (symR L D f) p o
  fuel : 8 * xs.length < p + f
end Go.Proofs.YtpbijdoemdoijaaGreatDoor
end PkCa23_4
