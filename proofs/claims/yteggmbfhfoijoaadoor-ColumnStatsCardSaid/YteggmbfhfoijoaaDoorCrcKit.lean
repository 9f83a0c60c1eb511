/- Package crc's Digest.Write, walked, given what the table holds. -/
import Derived.Test.YteggmbfhfoijoaaDoorTwin
import Derived.Test.YteggmbfhfoijoaaDoorCrcPlain
import Derived.Laws.BitsAllLaws
namespace Go.Proofs.YteggmbfhfoijoaaDoor
open Go.RowKit CrcPlain
set_option linter.unusedVariables false

/-- the table as it was laid -/
def Table (w : World) : Prop := ∀ r, r < 16 → w.cell? ⟨0, r, none⟩ = some (.int .u32 ((nib.getD r 0 : Nat) : Int))
theorem nib_lt : ∀ r, r < 16 → nib.getD r 0 < 4294967296 := by decide
theorem and15 (c : Nat) (h : c < 4294967296) : bits .and .u32 (c : Int) 15 = ((c % 16 : Nat) : Int) := by
  have := u32_and_nat c 15 h (by omega)
  rw [show c &&& 15 = c % 16 from Nat.and_two_pow_sub_one_eq_mod c 4] at this
  exact this
theorem xor_nat (a b : Nat) (ha : a < 4294967296) (hb : b < 4294967296) : bits .xor .u32 (a : Int) (b : Int) = ((a ^^^ b : Nat) : Int) := u32_xor_nat a b ha hb
theorem not_nat (a : Nat) (ha : a < 4294967296) : bits .xor .u32 (if IntKind.u32.signed = true then -1 else IntKind.u32.max) (a : Int) = ((4294967295 ^^^ a : Nat) : Int) := u32_xor_nat 4294967295 a (by omega) ha
theorem reg_snoc : ∀ (xs : List Nat) (c y : Nat), reg c (xs ++ [y]) = sbs 8 (reg c xs ^^^ y)
  | [], _, _ => rfl
  | x :: xs, c, y => by simp only [List.cons_append, reg]; exact reg_snoc xs _ y
theorem reg_lt : ∀ (xs : List Nat) (c : Nat), (∀ x ∈ xs, x < 256) → c < 4294967296 → reg c xs < 4294967296
  | [], c, _, h => h
  | x :: xs, c, hx, h => reg_lt xs _ (fun y hy => hx y (List.mem_cons_of_mem _ hy)) (sbs_lt 8 _ (Nat.xor_lt_two_pow (n := 32) h (Nat.lt_trans (hx x List.mem_cons_self) (by decide))))

set_option maxRecDepth 100000 in
set_option maxHeartbeats 2000000 in
theorem write_any {w : World} {B : Nat} {d : Nat} (hd : d < 4294967296) (hB : w.heap[B]? = some (.cells #[.int .u32 (d : Int)] 116 (0, 0))) (hT : Table w) {a : Option Addr} {n c : Nat} {xs : List Nat} (h : BytesAt w a n c xs) :
    Calls Tryd.prog 67 #[.pointer (some ⟨B, 0, none⟩), .slice a n c] w fun e w' => e = .returned (.tuple #[]) ∧ w' = w.setCell ⟨B, 0, none⟩ (.int .u32 ((4294967295 ^^^ reg (4294967295 ^^^ d) xs : Nat) : Int)) := by
  have h0 : w.cell? ⟨B, 0, none⟩ = some (.int .u32 (d : Int)) := by rw [cell_of_row w B 0 _ _ (0, 0) hB]; rfl
  have f0 : w.frozen? ⟨B, 0, none⟩ = false := frozen_of_row w B 0 _ _ hB
  have HH := Lib.hid h
  have HT := Lib.hid hT
  have hcap := h.cap
  have hcm := h.capm
  have E0 := not_nat d hd
  obtain ⟨R, hR⟩ : ∃ R, R = 4294967295 ^^^ d := ⟨_, rfl⟩
  have hR32 : R < 4294967296 := by rw [hR]; exact Nat.xor_lt_two_pow (n := 32) (by decide) hd
  rw [← hR] at E0 ⊢
  have HR := Lib.hid hR
  have HR32 := Lib.hid hR32
  have HBY := Lib.hid h.byte
  clear hR hR32 hd hB hT h
  go_enter Tryd.func67, Tryd.ntmps67
  go_wp2_with fail
  go_loop [4, 16] (fun s4 s16 => ∃ k : Nat, k ≤ n ∧ s16 = .int .i64 k ∧ s4 = .int .u32 ((reg R (xs.take k) : Nat) : Int)) (fun _ s16 => n - (intOf s16).toNat)
  case atStart => exact ⟨0, by omega, rfl, rfl⟩
  case round =>
    obtain ⟨k, hk, rfl, rfl⟩ := hrel
    have hlen := HH.out.len
    obtain ⟨q, hq⟩ : ∃ q, q = reg R (xs.take k) := ⟨_, rfl⟩
    have hq32 : q < 4294967296 := by rw [hq]; exact reg_lt _ _ (fun x hx => HBY.out x (List.mem_of_mem_take hx)) HR32.out
    rw [← hq]
    by_cases hkn : k < n
    · obtain ⟨b, off, rfl, hlt, hc⟩ := HH.out.cells (by omega)
      have hck := hc k hkn
      obtain ⟨x, hx⟩ : ∃ x, x = xs.getD k 0 := ⟨_, rfl⟩
      have hx256 : x < 256 := by
        have h1 : k < xs.length := by omega
        have : xs.getD k 0 = xs[k] := by simp [h1]
        rw [hx, this]
        exact HBY.out _ (List.getElem_mem h1)
      rw [← hx] at hck
      have htk : xs.take (k + 1) = xs.take k ++ [x] := by
        have h1 : k < xs.length := by omega
        rw [List.take_add_one, List.getElem?_eq_getElem h1, hx]; simp [h1]
      have E1 := xor_nat q x hq32 (by omega)
      obtain ⟨c1, hc1⟩ : ∃ c1, c1 = q ^^^ x := ⟨_, rfl⟩
      have c1l : c1 < 4294967296 := by rw [hc1]; exact Nat.xor_lt_two_pow (n := 32) hq32 (by omega)
      rw [← hc1] at E1
      have E2 := and15 c1 c1l
      obtain ⟨r1, hr1⟩ : ∃ r1, r1 = c1 % 16 := ⟨_, rfl⟩
      have r1l : r1 < 16 := by omega
      rw [← hr1] at E2
      have T1 := HT.out r1 r1l
      have n1 := nib_lt r1 r1l
      obtain ⟨y1, hy1⟩ : ∃ y1, y1 = nib.getD r1 0 := ⟨_, rfl⟩
      rw [← hy1] at T1 n1
      have E3 := xor_nat (c1 / 16) y1 (by omega) n1
      obtain ⟨c2, hc2⟩ : ∃ c2, c2 = (c1 / 16) ^^^ y1 := ⟨_, rfl⟩
      have c2l : c2 < 4294967296 := by rw [hc2]; exact Nat.xor_lt_two_pow (n := 32) (by omega) n1
      rw [← hc2, show ((c1 / 16 : Nat) : Int) = (c1 : Int) / 16 from by push_cast; rfl] at E3
      have E4 := and15 c2 c2l
      obtain ⟨r2, hr2⟩ : ∃ r2, r2 = c2 % 16 := ⟨_, rfl⟩
      have r2l : r2 < 16 := by omega
      rw [← hr2] at E4
      have T2 := HT.out r2 r2l
      have n2 := nib_lt r2 r2l
      obtain ⟨y2, hy2⟩ : ∃ y2, y2 = nib.getD r2 0 := ⟨_, rfl⟩
      rw [← hy2] at T2 n2
      have E5 := xor_nat (c2 / 16) y2 (by omega) n2
      obtain ⟨c3, hc3⟩ : ∃ c3, c3 = (c2 / 16) ^^^ y2 := ⟨_, rfl⟩
      rw [← hc3, show ((c2 / 16 : Nat) : Int) = (c2 : Int) / 16 from by push_cast; rfl] at E5
      have hend : c3 = reg R (xs.take (k + 1)) := by
        rw [htk, reg_snoc, ← hq, step_nib, ← hc1, ← hr1, ← hy1, ← hc2, ← hr2, ← hy2, ← hc3]
      have HE := Lib.hid hend
      clear hc hx htk hq hc1 hr1 hy1 hc2 hr2 hy2 hc3 hend c1l c2l n1 n2 hq32
      go_wp2_with fail
      go_round
      case rel => exact ⟨k + 1, by omega, by go_num, by rw [← HE.out]⟩
      case measure => simp [intOf]; omega
    · have hkn2 : k = n := by omega
      have hfull : xs.take k = xs := List.take_of_length_le (by omega)
      have E6 := not_nat q hq32
      rw [hfull] at hq
      have HQ := Lib.hid hq
      clear hq hq32 hfull
      go_wp2_with fail
      go_end0
      rw [← HQ.out]
      exact ⟨rfl, rfl⟩
end Go.Proofs.YteggmbfhfoijoaaDoor
