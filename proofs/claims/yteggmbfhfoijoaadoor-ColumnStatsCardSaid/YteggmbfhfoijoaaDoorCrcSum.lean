/- Package crc's Sum, walked, given what the table holds. -/
import Derived.Test.YteggmbfhfoijoaaDoorCrcKit
namespace Go.Proofs.YteggmbfhfoijoaaDoor
open Go.RowKit CrcPlain
set_option linter.unusedVariables false

/-- the checksum -/
def crcN (l : List Nat) : Nat := 4294967295 ^^^ reg 4294967295 l
theorem ones_twice (r : Nat) : 4294967295 ^^^ (4294967295 ^^^ r) = r := by rw [← Nat.xor_assoc, Nat.xor_self, Nat.zero_xor]
theorem reg_append : ∀ (xs ys : List Nat) (c : Nat), reg c (xs ++ ys) = reg (reg c xs) ys
  | [], _, _ => rfl
  | x :: xs, ys, c => by simp only [List.cons_append, reg]; exact reg_append xs ys _
theorem crcN_app (l xs : List Nat) : 4294967295 ^^^ reg (4294967295 ^^^ crcN l) xs = crcN (l ++ xs) := by
  unfold crcN; rw [ones_twice, reg_append]
theorem crcN_nil : crcN [] = 0 := by simp [crcN, reg]
theorem crcN_lt (l : List Nat) (h : ∀ x ∈ l, x < 256) : crcN l < 4294967296 := Nat.xor_lt_two_pow (n := 32) (by decide) (reg_lt l _ h (by decide))

theorem Table.below {w w' : World} (h : Table w) (hb : Below w.heap.size w w') : Table w' := fun r hr => by
  have h1 := h r hr
  have h2 := World.block_lt_of_cell? w _ h1
  exact (hb.cell (p := ⟨0, r, none⟩) h2).trans h1

/-- parts that lie in memory -/
structure Parts (w : World) (a : Option Addr) (m c : Nat) (X : Nat → List Nat) : Prop where
  cap : m ≤ c
  capm : c ≤ 9223372036854775807
  cells : 0 < m → ∃ b off, a = some ⟨b, off, none⟩ ∧ b < w.heap.size ∧ ∀ i, i < m → ∃ a1 n1 c1, w.cell? ⟨b, off + i, none⟩ = some (.slice a1 n1 c1) ∧ BytesAt w a1 n1 c1 (X i)

def flat (X : Nat → List Nat) (k : Nat) : List Nat := (List.range k).flatMap X
theorem flat_succ (X : Nat → List Nat) (k : Nat) : flat X (k + 1) = flat X k ++ X k := by simp [flat, List.range_succ]

set_option maxHeartbeats 400000 in
theorem dsum_any {w : World} {B d : Nat} (hB : w.heap[B]? = some (.cells #[.int .u32 (d : Int)] 116 (0, 0))) :
    Calls Tryd.prog 68 #[.pointer (some ⟨B, 0, none⟩)] w fun e w' => e = .returned (.int .u32 (d : Int)) ∧ w = w' := by
  have h0 : w.cell? ⟨B, 0, none⟩ = some (.int .u32 (d : Int)) := by rw [cell_of_row w B 0 _ _ (0, 0) hB]; rfl
  clear hB
  go_enter Tryd.func68, Tryd.ntmps68
  go_wp2_with fail
  go_ret
  exact ⟨rfl, rfl⟩

set_option maxRecDepth 100000 in
set_option maxHeartbeats 2000000 in
theorem sum_any {w : World} (hT : Table w) {a : Option Addr} {m c : Nat} {X : Nat → List Nat} (h : Parts w a m c X) (hby : ∀ k, k ≤ m → ∀ x ∈ flat X k, x < 256) :
    Calls Tryd.prog 46 #[.slice a m c] w fun e w' => e = .returned (.int .u32 ((crcN (flat X m) : Nat) : Int)) ∧ Below w.heap.size w w' := by
  have hcap := h.cap
  have hcm := h.capm
  have HC := Lib.hid h.cells
  have HT := Lib.hid hT
  have HBY := Lib.hid hby
  clear h hT hby
  obtain ⟨D, hD⟩ : ∃ D, D = w.heap.size := ⟨_, rfl⟩
  have HD := Lib.hid hD
  obtain ⟨w0, hw0⟩ : ∃ w0, w0 = w.alloc (.cells #[.int .u32 0] 116) := ⟨_, rfl⟩
  have HB0 := Lib.hid (show Below w.heap.size w w0 by rw [hw0]; exact (Below.refl _ _).alloc (Nat.le_refl _) _)
  have HK0 := Lib.hid (show w0.heap[D]? = some (.cells #[.int .u32 ((crcN (flat X 0) : Nat) : Int)] 116 (0, 0)) by
    rw [hw0, hD, show flat X 0 = [] from rfl, crcN_nil]; exact heap_alloc_new w _)
  have HW0 := Lib.hid hw0
  clear hD hw0
  go_enter Tryd.func46, Tryd.ntmps46
  go_wp2_with fail
  rw [← HW0.out, ← HD.out]
  go_loopw [5, 8] (fun s5 s8 wr => ∃ k : Nat, k ≤ m ∧ s8 = .int .i64 k ∧ Hid (wr.heap[D]? = some (.cells #[.int .u32 ((crcN (flat X k) : Nat) : Int)] 116 (0, 0))) ∧ Hid (Below w.heap.size w wr)) (fun _ s8 _ => m - (intOf s8).toNat)
  case atStart => exact ⟨0, by omega, rfl, HK0, HB0⟩
  case round =>
    obtain ⟨k, hk, rfl, HK, HB⟩ := hrel
    rename World => wr
    by_cases hkm : k < m
    · obtain ⟨b, off, rfl, hlt, hc⟩ := HC.out (by omega)
      obtain ⟨a1, n1, c1, h1, h2⟩ := hc k hkm
      have hck := (HB.out.cell (p := ⟨b, off + k, none⟩) hlt).trans h1
      have HWR := Lib.hid (write_any (crcN_lt _ (HBY.out k hk)) HK.out (HT.out.below HB.out) (h2.kept HB.out))
      clear hc h1 h2
      go_wp2_with fail
      refine HWR.out.mono ?_
      rintro e w2 ⟨rfl, hw2⟩
      have hg : wr.grownBy w2 (some D) := by
        rw [hw2]
        exact ⟨rfl, rfl, rfl, by simp, fun j _ hj => heap_setCell_other wr ⟨D, 0, none⟩ j _ (fun e => hj (by simp [e]))⟩
      have HB2 := Lib.hid (HB.out.grown hg HB.out.size (fun j hj => by cases hj; exact Nat.le_of_eq HD.out.symm))
      have HK2 := Lib.hid (show w2.heap[D]? = some (.cells #[.int .u32 ((crcN (flat X (k + 1)) : Nat) : Int)] 116 (0, 0)) by
        rw [hw2, heap_setCell_same wr D 0 _ _ _ HK.out, crcN_app, ← flat_succ]; rfl)
      clear hg hw2
      go_wp2_with fail
      go_roundw
      case rel => exact ⟨k + 1, by omega, by go_num, HK2, HB2⟩
      case measure => simp [intOf]; omega
    · have hkm2 : k = m := by omega
      subst hkm2
      have HS := Lib.hid (dsum_any HK.out)
      go_wp2_with fail
      refine HS.out.mono ?_
      rintro e w2 ⟨rfl, rfl⟩
      go_wp2_with fail
      go_ret
      exact ⟨rfl, HB.out⟩
end Go.Proofs.YteggmbfhfoijoaaDoor
