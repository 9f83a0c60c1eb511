/- Package inflate: copied, walked: bytes as they are. -/
import Derived.Test.YtnfdojdppifmoaaDoorInfPut
namespace Go.Proofs.YtnfdojdppifmoaaDoor
open Go.RowKit PrefPlain BitsPlain InfPlain
set_option linter.unusedVariables false

/-- an inflater's state -/
structure InAt (w : World) (B R base : Nat) (ra : Option Addr) (n c : Nat) (xs : List Nat) (p : Nat) (v : Value) (o : List Nat) (most : Nat) (fl fd : Option Addr) : Prop where
  ib : InBlk w B R v most fl fd
  rd : RdAt w R ra n c xs p
  own : w.ownsRow base 5 1 v o.length (bv o)
  byte : ∀ x ∈ o, x < 256
  lim : o.length ≤ most
  most : most ≤ 65536
  low : base ≤ w.heap.size
  hB : B < base
  hR : R < base
  ne : B ≠ R
  src : ∀ b off s, 0 < n → ra = some ⟨b, off, s⟩ → b < base ∧ b ≠ B
/-- what a call may turn: the inflater, its reader, the row of what is out -/
structure Fr (w w' : World) (B R : Nat) (v : Value) : Prop where
  os : w'.os = w.os
  tape : w'.tape = w.tape
  output : w'.output = w.output
  size : w.heap.size ≤ w'.heap.size
  block : ∀ k, k < w.heap.size → k ≠ B → k ≠ R → some k ≠ v.ownBlock → w'.heap[k]? = w.heap[k]?
theorem Fr.refl (w : World) (B R : Nat) (v : Value) : Fr w w B R v := ⟨rfl, rfl, rfl, Nat.le_refl _, fun _ _ _ _ _ => rfl⟩
theorem Fr.trans {a b c : World} {B R : Nat} {v v' : Value} (h : Fr a b B R v) (hw : Went a v v') (k : Fr b c B R v') : Fr a c B R v :=
  ⟨k.os.trans h.os, k.tape.trans h.tape, k.output.trans h.output, Nat.le_trans h.size k.size, fun i hi hB hR hv => (k.block i (Nat.lt_of_lt_of_le hi h.size) hB hR (by
    rcases hw with e | ⟨g, e, hg⟩
    · rw [e]; exact hv
    · rw [e]; intro e2; have := Option.some.inj e2; omega)).trans (h.block i hi hB hR hv)⟩
theorem Fr.touch {w w' : World} {B : Nat} {v : Value} (R : Nat) (h : Touch w w' B v) : Fr w w' B R v := ⟨h.os, h.tape, h.output, h.size, fun k hk hB _ hv => h.block k hk hB hv⟩
theorem Fr.rd {w w' : World} {R : Nat} (B : Nat) (v : Value) (h : w.grownBy w' (some R)) : Fr w w' B R v := ⟨h.os, h.tape, h.output, h.size, fun k hk _ hR _ => h.block k hk (fun e => hR (Option.some.inj e))⟩

section
variable {w : World} {B R base : Nat} {ra : Option Addr} {n c : Nat} {xs : List Nat} {p : Nat} {v : Value} {o : List Nat} {most : Nat} {fl fd : Option Addr}
theorem InAt.read {w' : World} {q : Nat} (h : InAt w B R base ra n c xs p v o most fl fd) (hr : RdAt w' R ra n c xs q) (hg : w.grownBy w' (some R)) : InAt w' B R base ra n c xs q v o most fl fd := by
  refine ⟨h.ib.other (hg.block B h.ib.lt (fun e => h.ne (Option.some.inj e))), hr, h.own.kept hg ?_, h.byte, h.lim, h.most, Nat.le_trans h.low hg.size, h.hB, h.hR, h.ne, h.src⟩
  cases hv : v.ownBlock with
  | none => exact .inl rfl
  | some k =>
    refine .inr fun e => ?_
    have h1 := (h.own.lt k hv).1
    have h2 := h.hR
    have := Option.some.inj e
    omega
theorem InAt.wrote {w' : World} {v' : Value} {x : Nat} (h : InAt w B R base ra n c xs p v o most fl fd) (hx : x < 256) (hl : o.length + 1 ≤ most) (ht : Touch w w' B v) (hib : InBlk w' B R v' most fl fd) (hown : w'.ownsRow base 5 1 v' (o.length + 1) (bv (o ++ [x]))) : InAt w' B R base ra n c xs p v' (o ++ [x]) most fl fd := by
  have hlow : ∀ b, b < base → some b ≠ v.ownBlock := fun b hb e => by have := (h.own.lt b e.symm).1; omega
  have hbase := h.low
  have hRb := ht.block R h.rd.lt (fun e => h.ne e.symm) (hlow R h.hR)
  refine ⟨hib, ⟨hRb.trans h.rd.blk, ?_, h.rd.apart, h.rd.le⟩, by rw [List.length_append]; exact hown, ?_, by rw [List.length_append]; exact hl, h.most, Nat.le_trans h.low ht.size, h.hB, h.hR, h.ne, h.src⟩
  · have hs := h.rd.src
    exact ⟨hs.len, hs.cap, hs.byte, hs.reach, hs.capm, hs.nl, fun hp => by
      obtain ⟨b, off, ha, hlt, hc⟩ := hs.cells hp
      obtain ⟨s1, s2⟩ := h.src b off _ hp ha
      exact ⟨b, off, ha, Nat.lt_of_lt_of_le hlt ht.size, fun k hk => (World.cell?_of_block (w := w) (ht.block b hlt s2 (hlow b s1))).trans (hc k hk)⟩⟩
  · intro y hy
    rcases List.mem_append.1 hy with hy | hy
    · exact h.byte y hy
    · rw [List.mem_singleton.1 hy]; exact hx
theorem InAt.drewN (h : InAt w B R base ra n c xs p v o most fl fd) (q : Nat) : InAt (w.drewN q) B R base ra n c xs p v o most fl fd :=
  h.read (h.rd.drewN q) (grown_drewN _ _ _)
end

set_option maxHeartbeats 400000 in
theorem ialign_any {w : World} {B : Nat} {a : Option Addr} {n c : Nat} {xs : List Nat} {p : Nat} (h : RdAt w B a n c xs p) :
    Calls Tryd.prog 32 #[.pointer (some ⟨B, 0, none⟩)] w fun e w' => e = .returned (.tuple #[]) ∧ RdAt w' B a n c xs ((p + 7) / 8 * 8) ∧ w.grownBy w' (some B) := by
  have h1 := h.c1
  have f1 := h.f 1
  have hle := h.le
  have hr := h.src.reach
  obtain ⟨s1, g1⟩ := h.set1 ((p + 7) / 8 * 8) (by omega)
  have S1 := Lib.hid s1
  have G1 := Lib.hid g1
  have e1 : IntKind.i64.wrap ((p : Int) + 7) = (p : Int) + 7 := IntWalk.i64_in _ (by omega)
  have e2 : IntKind.i64.wrap (((p : Int) + 7) / 8 * 8) = (((p + 7) / 8 * 8 : Nat) : Int) := by rw [IntWalk.i64_in _ (by omega)]; omega
  clear h s1 g1
  go_enter Tryd.func32, Tryd.ntmps32
  go_wp2_with fail
  go_end0
  exact ⟨rfl, S1.out, G1.out⟩

/-- bits, where there are enough; where there aren't -/
theorem ibits_yes {w : World} {B : Nat} {a : Option Addr} {n c : Nat} {xs : List Nat} {p : Nat} (h : RdAt w B a n c xs p) (k : Nat) (hk : k ≤ 32) (hp : p + k ≤ 8 * xs.length) :
    Calls Tryd.prog 18 #[.pointer (some ⟨B, 0, none⟩), .int .i64 (k : Int)] w fun e w' => e = .returned (.tuple #[.int .u32 (num xs p k : Int), .int .i64 0]) ∧ RdAt w' B a n c xs (p + k) ∧ w.grownBy w' (some B) := by
  have hb := rbits_any h (k : Int)
  have e : rb xs p (k : Int) = (num xs p k, 0, p + k) := by unfold rb; rw [if_neg (by omega), Int.toNat_natCast, if_neg (by omega)]
  rw [e] at hb
  exact hb
theorem ibits_no {w : World} {B : Nat} {a : Option Addr} {n c : Nat} {xs : List Nat} {p : Nat} (h : RdAt w B a n c xs p) (k : Nat) (hk : k ≤ 32) (hp : 8 * xs.length < p + k) :
    Calls Tryd.prog 18 #[.pointer (some ⟨B, 0, none⟩), .int .i64 (k : Int)] w fun e w' => e = .returned (.tuple #[.int .u32 0, .int .i64 3]) ∧ RdAt w' B a n c xs p ∧ w.grownBy w' (some B) := by
  have hb := rbits_any h (k : Int)
  have h1 := h.le
  have h2 := h.src.len
  have e : rb xs p (k : Int) = (0, 3, p) := by unfold rb; rw [if_neg (by omega), Int.toNat_natCast, if_pos (by omega)]
  rw [e] at hb
  exact hb

/-- the loop over what is stored -/
structure Cp (xs : List Nat) (most : Nat) (p0 : Nat) (o0 : List Nat) (N k p : Nat) (o : List Nat) : Prop where
  run : run xs most (bytesR N) p0 o0 = run xs most (bytesR (N - k)) p o
  room : o.length + (N - k) ≤ most
theorem Cp.next {xs : List Nat} {most p0 N k p : Nat} {o0 o : List Nat} (h : Cp xs most p0 o0 N k p o) (hk : k < N) (hp : p + 8 ≤ 8 * xs.length) : Cp xs most p0 o0 N (k + 1) (p + 8) (o ++ [num xs p 8]) := by
  have hr := h.room
  refine ⟨?_, by rw [List.length_append]; show o.length + 1 + (N - (k + 1)) ≤ most; omega⟩
  rw [h.run, show N - k = (N - (k + 1)) + 1 from by omega, bytesR, run_bind, run_bits _ _ _ _ _ (by omega), if_neg (by omega)]
  show InfPlain.run xs most (.put (num xs p 8) (bytesR (N - (k + 1)))) (p + 8) o = _
  rw [InfPlain.run, if_neg (by omega)]
theorem Cp.short {xs : List Nat} {most p0 N k p : Nat} {o0 o : List Nat} (h : Cp xs most p0 o0 N k p o) (hk : k < N) (hp : p ≤ 8 * xs.length) (hs : 8 * xs.length < p + 8) : InfPlain.run xs most (bytesR N) p0 o0 = .error 3 := by
  rw [h.run, show N - k = (N - (k + 1)) + 1 from by omega, bytesR, run_bind, run_bits _ _ _ _ _ hp, if_pos hs]
theorem Cp.done {xs : List Nat} {most p0 N p : Nat} {o0 o : List Nat} (h : Cp xs most p0 o0 N N p o) : InfPlain.run xs most (bytesR N) p0 o0 = .ok ((), p, o) := by
  rw [h.run, Nat.sub_self]; rfl

/-- what the answer is, by what the tree says -/
def Says (w : World) (B R base : Nat) (ra : Option Addr) (n c : Nat) (xs : List Nat) (v : Value) (most : Nat) (fl fd : Option Addr) {α : Type} (r : Except Nat (α × Nat × List Nat)) (e : Ending) (w' : World) : Prop :=
  match r with
  | .ok (_, q, o') => e = .returned (.int .i64 0) ∧ Fr w w' B R v ∧ ∃ v', InAt w' B R base ra n c xs q v' o' most fl fd ∧ Went w v v'
  | .error er => e = .returned (.int .i64 (er : Int)) ∧ Fr w w' B R v
theorem xor_ffff (a : Nat) (ha : a < 4294967296) : bits .xor .u32 (a : Int) 65535 = ((a ^^^ 65535 : Nat) : Int) := u32_xor_nat a 65535 ha (by omega)

/-- what copyR says, step by step -/
theorem copy_1 {xs : List Nat} {most p : Nat} {o : List Nat} (hp : p ≤ 8 * xs.length) (h : 8 * xs.length < (p + 7) / 8 * 8 + 16) : run xs most copyR p o = .error 3 := by
  rw [copyR, run, run_bind, run_bits _ _ _ _ _ (by omega), if_pos h]
theorem copy_2 {xs : List Nat} {most p : Nat} {o : List Nat} (h : (p + 7) / 8 * 8 + 16 ≤ 8 * xs.length) (hr : most < o.length + num xs ((p + 7) / 8 * 8) 16) : run xs most copyR p o = .error 5 := by
  rw [copyR, run, run_bind, run_bits _ _ _ _ _ (by omega), if_neg (by omega)]
  show run xs most (.chk _ _) _ o = _
  rw [run, if_pos hr]
theorem copy_3 {xs : List Nat} {most p : Nat} {o : List Nat} (h : (p + 7) / 8 * 8 + 16 ≤ 8 * xs.length) (hr : o.length + num xs ((p + 7) / 8 * 8) 16 ≤ most) (h2 : 8 * xs.length < (p + 7) / 8 * 8 + 16 + 16) : run xs most copyR p o = .error 3 := by
  rw [copyR, run, run_bind, run_bits _ _ _ _ _ (by omega), if_neg (by omega)]
  show run xs most (.chk _ _) _ o = _
  rw [run, if_neg (by omega), run_bind, run_bits _ _ _ _ _ (by omega), if_pos h2]
theorem copy_4 {xs : List Nat} {most p : Nat} {o : List Nat} (h : (p + 7) / 8 * 8 + 16 + 16 ≤ 8 * xs.length) (hr : o.length + num xs ((p + 7) / 8 * 8) 16 ≤ most) :
    run xs most copyR p o = if num xs ((p + 7) / 8 * 8 + 16) 16 ≠ num xs ((p + 7) / 8 * 8) 16 ^^^ 65535 then .error 4 else run xs most (bytesR (num xs ((p + 7) / 8 * 8) 16)) ((p + 7) / 8 * 8 + 16 + 16) o := by
  rw [copyR, run, run_bind, run_bits _ _ _ _ _ (by omega), if_neg (by omega)]
  show run xs most (.chk _ _) _ o = _
  rw [run, if_neg (by omega), run_bind, run_bits _ _ _ _ _ (by omega), if_neg (by omega)]
  show run xs most (if _ then _ else _) _ o = _
  split
  · rfl
  · rfl
end Go.Proofs.YtnfdojdppifmoaaDoor
