/- Texts put together by packtpl2.py: CrcSum, CrcSeal, CrcOpen, ColPut, ColCont, Vec. -/
import Derived.Test.YtpbijdoemdoijaaGreatDoorPkCa1
import Derived.Test.YtpbijdoemdoijaaGreatDoorPkCa10
import Derived.OwnWalk
import Derived.Deep.Slices
import Derived.Deep.Fields
import Derived.SizedLaws
import Derived.Below
import Derived.OpenShut
section PkCa11_0
/- Package crc's Sum, walked, given what the table holds. -/
namespace Go.Proofs.YtpbijdoemdoijaaGreatDoor
open Go.RowKit CrcPlain
set_option linter.unusedVariables false

/-- the checksum -/
def crcN (l : List Nat) : Nat := 4294967295 ^^^ reg 4294967295 l
theorem ones_twice (r : Nat) : 4294967295 ^^^ (4294967295 ^^^ r) = r := by rw [← Nat.xor_assoc, Nat.xor_self, Nat.zero_xor]
theorem reg_append : ∀ (xs ys : List Nat) (c : Nat), reg c (xs ++ ys) = reg (reg c xs) ys
  | [], _, _ => rfl
  | x :: xs, ys, c => by simp only [List.cons_append, reg]; exact reg_append xs ys _
theorem crcN_app (l xs : List Nat) : 4294967295 ^^^ reg (4294967295 ^^^ crcN l) xs = crcN (l ++ xs) := by
  unfold crcN; rw [ones_twice, reg_append]
theorem crcN_nil : crcN [] = 0 := by simp [crcN, reg]
theorem crcN_lt (l : List Nat) (h : ∀ x ∈ l, x < 256) : crcN l < 4294967296 := Nat.xor_lt_two_pow (n := 32) (by decide) (reg_lt l _ h (by decide))

theorem Table.below {w w' : World} (h : Table w) (hb : Below w.heap.size w w') : Table w' := fun r hr => by
  have h1 := h r hr
  have h2 := World.block_lt_of_cell? w _ h1
  exact (hb.cell (p := ⟨0, r, none⟩) h2).trans h1

/-- parts that lie in memory -/
structure Parts (w : World) (a : Option Addr) (m c : Nat) (X : Nat → List Nat) : Prop where
  cap : m ≤ c
  capm : c ≤ 9223372036854775807
  cells : 0 < m → ∃ b off, a = some ⟨b, off, none⟩ ∧ b < w.heap.size ∧ ∀ i, i < m → ∃ a1 n1 c1, w.cell? ⟨b, off + i, none⟩ = some (.slice a1 n1 c1) ∧ BytesAt w a1 n1 c1 (X i)

def flat (X : Nat → List Nat) (k : Nat) : List Nat := (List.range k).flatMap X
theorem flat_succ (X : Nat → List Nat) (k : Nat) : flat X (k + 1) = flat X k ++ X k := by simp [flat, List.range_succ]

set_option maxHeartbeats 400000 in
theorem dsum_any {w : World} {B d : Nat} (hB : w.heap[B]? = some (.cells #[.int .u32 (d : Int)] 171 (0, 0))) :
    Calls Tryz.prog 148 #[.pointer (some ⟨B, 0, none⟩)] w fun e w' => e = .returned (.int .u32 (d : Int)) ∧ w = w' := by
  have h0 : w.cell? ⟨B, 0, none⟩ = some (.int .u32 (d : Int)) := by rw [cell_of_row w B 0 _ _ (0, 0) hB]; rfl
  clear hB
  go_enter Tryz.func148, Tryz.ntmps148
  go_wp2_with fail
  go_ret
  exact ⟨rfl, rfl⟩

set_option maxRecDepth 100000 in
set_option maxHeartbeats 2000000 in
theorem sum_any {w : World} (hT : Table w) {a : Option Addr} {m c : Nat} {X : Nat → List Nat} (h : Parts w a m c X) (hby : ∀ k, k ≤ m → ∀ x ∈ flat X k, x < 256) :
    Calls Tryz.prog 105 #[.slice a m c] w fun e w' => e = .returned (.int .u32 ((crcN (flat X m) : Nat) : Int)) ∧ Below w.heap.size w w' := by
  have hcap := h.cap
  have hcm := h.capm
  have HC := Lib.hid h.cells
  have HT := Lib.hid hT
  have HBY := Lib.hid hby
  clear h hT hby
  obtain ⟨D, hD⟩ : ∃ D, D = w.heap.size := ⟨_, rfl⟩
  have HD := Lib.hid hD
  obtain ⟨w0, hw0⟩ : ∃ w0, w0 = w.alloc (.cells #[.int .u32 0] 171) := ⟨_, rfl⟩
  have HB0 := Lib.hid (show Below w.heap.size w w0 by rw [hw0]; exact (Below.refl _ _).alloc (Nat.le_refl _) _)
  have HK0 := Lib.hid (show w0.heap[D]? = some (.cells #[.int .u32 ((crcN (flat X 0) : Nat) : Int)] 171 (0, 0)) by
    rw [hw0, hD, show flat X 0 = [] from rfl, crcN_nil]; exact heap_alloc_new w _)
  have HW0 := Lib.hid hw0
  clear hD hw0
  go_enter Tryz.func105, Tryz.ntmps105
  go_wp2_with fail
  rw [← HW0.out, ← HD.out]
  go_loopw [5, 8] (fun s5 s8 wr => ∃ k : Nat, k ≤ m ∧ s8 = .int .i64 k ∧ Hid (wr.heap[D]? = some (.cells #[.int .u32 ((crcN (flat X k) : Nat) : Int)] 171 (0, 0))) ∧ Hid (Below w.heap.size w wr)) (fun _ s8 _ => m - (intOf s8).toNat)
  case atStart => exact ⟨0, by omega, rfl, HK0, HB0⟩
  case round =>
    obtain ⟨k, hk, rfl, HK, HB⟩ := hrel
    rename World => wr
    by_cases hkm : k < m
    · obtain ⟨b, off, rfl, hlt, hc⟩ := HC.out (by omega)
      obtain ⟨a1, n1, c1, h1, h2⟩ := hc k hkm
      have hck := (HB.out.cell (p := ⟨b, off + k, none⟩) hlt).trans h1
      have HWR := Lib.hid (write_any (crcN_lt _ (HBY.out k hk)) HK.out (HT.out.below HB.out) (h2.kept HB.out))
      clear hc h1 h2
      go_wp2_with fail
      refine HWR.out.mono ?_
      rintro e w2 ⟨rfl, hw2⟩
      have hg : wr.grownBy w2 (some D) := by
        rw [hw2]
        exact ⟨rfl, rfl, rfl, by simp, fun j _ hj => heap_setCell_other wr ⟨D, 0, none⟩ j _ (fun e => hj (by simp [e]))⟩
      have HB2 := Lib.hid (HB.out.grown hg HB.out.size (fun j hj => by cases hj; exact Nat.le_of_eq HD.out.symm))
      have HK2 := Lib.hid (show w2.heap[D]? = some (.cells #[.int .u32 ((crcN (flat X (k + 1)) : Nat) : Int)] 171 (0, 0)) by
        rw [hw2, heap_setCell_same wr D 0 _ _ _ HK.out, crcN_app, ← flat_succ]; rfl)
      clear hg hw2
      go_wp2_with fail
      go_roundw
      case rel => exact ⟨k + 1, by omega, by go_num, HK2, HB2⟩
      case measure => simp [intOf]; omega
    · have hkm2 : k = m := by omega
      subst hkm2
      have HS := Lib.hid (dsum_any HK.out)
      go_wp2_with fail
      refine HS.out.mono ?_
      rintro e w2 ⟨rfl, rfl⟩
      go_wp2_with fail
      go_ret
      exact ⟨rfl, HB.out⟩
end Go.Proofs.YtpbijdoemdoijaaGreatDoor
end PkCa11_0
section PkCa11_1
/- Package crc's Seal, walked, given what the table holds. Condition: at most 100,000 bytes. -/
namespace Go.Proofs.YtpbijdoemdoijaaGreatDoor
open Go.RowKit CrcPlain
set_option linter.unusedVariables false

/-- the first k of a number's bytes, the lowest first -/
def le (s : Nat) (k : Nat) : List Nat := (List.range k).map fun i => s / 2 ^ (8 * i) % 256
theorem le_succ (s k : Nat) : le s (k + 1) = le s k ++ [s / 2 ^ (8 * k) % 256] := by simp [le, List.range_succ]
theorem le_len (s k : Nat) : (le s k).length = k := by simp [le]
theorem le_byte (s k : Nat) : ∀ x ∈ le s k, x < 256 := by
  intro x hx
  simp only [le, List.mem_map] at hx
  obtain ⟨i, _, rfl⟩ := hx
  exact Nat.mod_lt _ (by omega)
def sealed (l : List Nat) : List Nat := l ++ le (crcN l) 4

set_option maxRecDepth 100000 in
set_option maxHeartbeats 2000000 in
theorem seal_any {w : World} (hT : Table w) {a : Option Addr} {n c : Nat} {xs : List Nat} (h : BytesAt w a n c xs) (hn : n ≤ 100000) :
    Calls Tryz.prog 65 #[.slice a n c] w fun e w' => ∃ a' c', e = .returned (.slice a' (n + 4) c') ∧ BytesAt w' a' (n + 4) c' (sealed xs) ∧ Below w.heap.size w w' ∧ (∀ b off s, a' = some ⟨b, off, s⟩ → w.heap.size ≤ b) ∧ w'.ownsRow w.heap.size 5 1 (.slice a' (n + 4) c') (n + 4) (bv (sealed xs)) := by
  obtain ⟨i0, hi, hz0, hz1, hz2⟩ := info_parts info_u8
  have HH := Lib.hid h
  have hlen := h.len
  have HBX := Lib.hid h.byte
  have hf1 : flat (fun _ => xs) 1 = xs := by simp [flat]
  obtain ⟨w0, hw0⟩ : ∃ w0, w0 = w.alloc (.cells #[.slice a n c] 27) := ⟨_, rfl⟩
  have hb0 : Below w.heap.size w w0 := by rw [hw0]; exact (Below.refl _ _).alloc (Nat.le_refl _) _
  have hpt : Parts w0 (some ⟨w.heap.size, 0, none⟩) 1 1 (fun _ => xs) := ⟨Nat.le_refl _, by omega, fun _ => ⟨w.heap.size, 0, rfl, by rw [hw0]; simp, fun i hi => ⟨a, n, c, by
    obtain rfl : i = 0 := by omega
    rw [hw0]; simp, h.kept hb0⟩⟩⟩
  have hsum := sum_any (hT.below hb0) hpt (fun k hk x hx => by
    simp only [flat, List.mem_flatMap] at hx
    obtain ⟨_, _, hx⟩ := hx
    exact h.byte x hx)
  rw [hf1] at hsum
  obtain ⟨s, hs⟩ : ∃ s, s = crcN xs := ⟨_, rfl⟩
  have hs32 : s < 4294967296 := by rw [hs]; exact crcN_lt xs h.byte
  rw [← hs] at hsum
  have HS := Lib.hid hs
  have HS32 := Lib.hid hs32
  have HSUM := Lib.hid hsum
  have HW0 := Lib.hid hw0
  have HB0 := Lib.hid hb0
  have e1 : IntKind.i64.wrap ((n : Int) + 4) = ((n + 4 : Nat) : Int) := by rw [IntWalk.i64_in _ (by omega)]; omega
  clear h hT hf1 hpt hsum hs hs32 hw0 hb0
  go_enter Tryz.func65, Tryz.ntmps65
  go_wp2_with fail
  rw [← HW0.out]
  refine HSUM.out.mono ?_
  rintro e w1 ⟨rfl, hb1⟩
  have HB1 := Lib.hid (HB0.out.trans (hb1.mono HB0.out.size))
  have HH1 := Lib.hid ((HH.out.kept HB0.out).kept hb1)
  clear hb1
  have hs1 := HB1.out.size
  go_wp2_with (refine wpList_make_own _ rfl (.const (.int .i64 0)) (.tmp 11) 27 rfl w.heap.size 5 i0 (.int .u8 0) 1 Tryz.underlying27 hi hz0 hz1 .i64 .i64 _ (n + 4) rfl rfl (by omega) (by rw [hz2]; omega) (by unfold maxLen; omega) hs1 ?_)
  intro w2 hown2 hgrow2
  have HO2 := Lib.hid hown2
  have hb12 : Below w1.heap.size w1 w2 := ⟨hgrow2.os, hgrow2.tape, hgrow2.output, hgrow2.size, fun k hk => hgrow2.block k hk (by simp)⟩
  have HB2 := Lib.hid (HB1.out.trans (hb12.mono hs1))
  have HH2 := Lib.hid (HH1.out.kept hb12)
  have hs2 := HB2.out.size
  have hgo := HO2.out
  clear hown2 hgrow2 hb12
  go_wp2_with (at_builtin; refine wpList_append_bytes rfl (.tmp 13) (.tmp 14) rfl w.heap.size _ _ [] rfl hgo _ _ _ _ rfl HH2.out (by omega) hs2 ?_)
  intro v3 w3 hown3 hgrow3
  have HB3 := Lib.hid (HB2.out.grown hgrow3 hs2 (fun k hk => (hgo.lt k hk).1))
  have HO3 := Lib.hid (show w3.ownsRow w.heap.size 5 1 v3 (n + 0) (bv (xs ++ le s 0)) by simpa [le] using hown3)
  clear hgo hown3 hgrow3 hs1 hs2
  go_wp2_with fail
  go_loopw [4, 5, 16] (fun s4 s5 s16 wr => ∃ k : Nat, k ≤ 4 ∧ s16 = .int .i64 k ∧ Hid (wr.ownsRow w.heap.size 5 1 s4 (n + k) (bv (xs ++ le s k))) ∧ Hid (Below w.heap.size w wr)) (fun _ _ s16 _ => 4 - (intOf s16).toNat)
  case atStart => exact ⟨0, by omega, rfl, HO3, HB3⟩
  case round =>
    obtain ⟨k, hk, rfl, HO, HB⟩ := hrel
    rename World => wr
    by_cases hk4 : k < 4
    · have e8 : IntKind.i64.wrap (8 * (k : Int)) = ((8 * k : Nat) : Int) := by rw [IntWalk.i64_in _ (by omega)]; omega
      have hgo := HO.out
      have hbs := HB.out.size
      go_wp2_with (at_builtin; refine wpList_append_own _ rfl (.tmp 19) (.tmp 25) 27 rfl w.heap.size 5 i0 (.int .u8 0) 1 1 Tryz.underlying27 hi hz0 hz1 hz2 rfl (by decide) _ _ _ rfl (hgo.alloc _) ⟨wr.heap.size, 0, none⟩ 1 1 [.int .u8 ((s : Int) / 2 ^ (8 * k) % 256)] rfl rfl (one_src _ _ _) (one_oneCell rfl) (by unfold maxLen; omega) (by omega) (by simp; omega) ?_)
      intro v' w4 hown' hgrow _
      have HO4 := Lib.hid hown'
      have HB4 := Lib.hid ((HB.out.alloc HB.out.size _).grown hgrow (by simp; omega) (fun k hk => (hgo.lt k hk).1))
      clear hown' hgrow hgo
      go_wp2_with fail
      go_roundw
      case rel =>
        refine ⟨k + 1, by omega, by go_num, Lib.hid ?_, HB4⟩
        have e1 : (s : Int) / 2 ^ (8 * k) % 256 = ((s / 2 ^ (8 * k) % 256 : Nat) : Int) := by push_cast; rfl
        have := HO4.out
        rw [e1] at this
        rw [le_succ, ← List.append_assoc, bv_append]
        exact this
      case measure => simp [intOf]; omega
    · have hk42 : k = 4 := by omega
      subst hk42
      have hby : ∀ x ∈ xs ++ le s 4, x < 256 := by
        intro x hx
        rcases List.mem_append.1 hx with g | g
        · exact HBX.out x g
        · exact le_byte s 4 x g
      obtain ⟨a', c', rfl, hba, hfa⟩ := BytesAt.ofOwn HO.out hby (by omega)
      have HBA := Lib.hid hba
      clear hba hby
      go_wp2_with fail
      go_ret
      refine ⟨a', c', rfl, ?_, HB.out, hfa, ?_⟩
      · unfold sealed
        rw [← HS.out]
        exact HBA.out
      · unfold sealed
        rw [← HS.out]
        exact HO.out
end Go.Proofs.YtpbijdoemdoijaaGreatDoor
end PkCa11_1
section PkCa11_2
/- Package crc's Open, walked, given what the table holds. Condition: at most 100,000 bytes. -/
namespace Go.Proofs.YtpbijdoemdoijaaGreatDoor
open Go.RowKit CrcPlain
set_option linter.unusedVariables false

set_option maxHeartbeats 400000 in
theorem equal_any {a a' : Option Addr} {n n' c c' : Nat} {xs ys : List Nat} {w : World} (hx : BytesAt w a n c xs) (hy : BytesAt w a' n' c' ys) :
    Calls Tryz.prog 87 #[.slice a n c, .slice a' n' c'] w fun e w' => e = .returned (.bool (xs == ys)) ∧ w = w' := by
  have h1 := hx.conv
  have h2 := hy.conv
  have he := bs_eq hx.byte hy.byte
  clear hx hy
  go_enter Tryz.func87, Tryz.ntmps87
  go_wp2
  go_ret
  exact ⟨by rw [← he]; rfl, rfl⟩

/-- what Open answers: the text, the error -/
def op (xs : List Nat) : List Nat × Nat :=
  if xs.length < 4 then ([], 3) else if sealed (xs.take (xs.length - 4)) = xs then (xs.take (xs.length - 4), 0) else ([], 6)

set_option maxRecDepth 100000 in
set_option maxHeartbeats 2000000 in
theorem open_any {w : World} (hT : Table w) {a : Option Addr} {n c : Nat} {xs : List Nat} (h : BytesAt w a n c xs) (hn : n ≤ 100000) :
    Calls Tryz.prog 85 #[.slice a n c] w fun e w' => ∃ a' m' c', e = .returned (.tuple #[.slice a' m' c', .int .i64 ((op xs).2 : Int)]) ∧ BytesAt w' a' m' c' (op xs).1 ∧ Below w.heap.size w w' ∧ w'.ownsRow w.heap.size 5 1 (.slice a' m' c') m' (bv (op xs).1) := by
  have hlen := h.len
  have hempty : ∀ w, BytesAt w none 0 0 [] := fun w => BytesAt.empty w none 0 (by omega) (fun _ => rfl)
  have HEM := Lib.hid hempty
  have hcap := h.cap
  have hcm := h.capm
  have HL := Lib.hid hlen
  clear hempty hlen
  by_cases h4 : n < 4
  · have HO := Lib.hid (show op xs = ([], 3) by unfold op; rw [if_pos (by rw [HL.out]; exact h4)])
    have h4' : (n : Int) < 4 := by omega
    clear h hT
    go_enter Tryz.func85, Tryz.ntmps85
    go_wp2_with fail
    go_ret2
    rw [HO.out]
    exact ⟨none, 0, 0, rfl, HEM.out _, Below.refl _ _, own_nil_bytes _ _⟩
  · obtain ⟨m, rfl⟩ : ∃ m, n = m + 4 := ⟨n - 4, by omega⟩
    have e1 : IntKind.i64.wrap (((m + 4 : Nat) : Int) - 4) = (m : Int) := by rw [IntWalk.i64_in _ (by omega)]; omega
    have h4' : (4 : Int) ≤ ((m + 4 : Nat) : Int) := by omega
    have HC := Lib.hid (clone_own (h.upto m (by omega)))
    have HBY := Lib.hid (h.upto m (by omega)).byte
    have HH := Lib.hid h
    have HT := Lib.hid hT
    have ho : op xs = if sealed (xs.take m) = xs then (xs.take m, 0) else ([], 6) := by
      unfold op; rw [if_neg (by rw [HL.out]; omega), HL.out]; rfl
    have HO := Lib.hid ho
    clear h hT ho h4
    go_enter Tryz.func85, Tryz.ntmps85
    go_wp2_with fail
    refine HC.out.mono ?_
    rintro e w1 ⟨v1, rfl, hown1, hbel1⟩
    obtain ⟨a1, c1, rfl, hb1, _⟩ := BytesAt.ofOwn hown1 HBY.out (by omega)
    have HO1 := Lib.hid hown1
    have HB1 := Lib.hid hb1
    have HBE1 := Lib.hid hbel1
    have HS := Lib.hid (seal_any (HT.out.below hbel1) hb1 (by omega))
    clear hb1 hbel1 hown1
    go_wp2_with fail
    refine HS.out.mono ?_
    rintro e w2 ⟨a2, c2, rfl, hb2, hbel2, _⟩
    have HB2 := Lib.hid hb2
    have HBE2 := Lib.hid (HBE1.out.trans (hbel2.mono HBE1.out.size))
    have HB12 := Lib.hid (HB1.out.kept hbel2)
    have HO2 := Lib.hid (own_below HO1.out hbel2)
    clear hb2 hbel2
    go_wp2_with fail
    refine (equal_any HB2.out (HH.out.kept HBE2.out)).mono ?_
    rintro e w3 ⟨rfl, rfl⟩
    by_cases heq : sealed (xs.take m) = xs
    · have hv : (sealed (xs.take m) == xs) = true := by rw [heq]; exact beq_self_eq_true _
      rw [hv]
      have HV := Lib.hid (show op xs = (xs.take m, 0) by rw [HO.out, if_pos heq])
      clear heq hv
      go_wp2_with fail
      go_ret2
      rw [HV.out]
      exact ⟨a1, m, c1, rfl, HB12.out, HBE2.out, HO2.out⟩
    · have hv : (sealed (xs.take m) == xs) = false := by rw [beq_eq_false_iff_ne]; exact heq
      rw [hv]
      have HV := Lib.hid (show op xs = ([], 6) by rw [HO.out, if_neg heq])
      clear heq hv
      go_wp2_with fail
      go_ret2
      rw [HV.out]
      exact ⟨none, 0, 0, rfl, HEM.out _, HBE2.out, own_nil_bytes _ _⟩

theorem op_sealed (xs : List Nat) : op (sealed xs) = (xs, 0) := by
  have hl : (sealed xs).length = xs.length + 4 := by simp [sealed, le_len]
  have ht : (sealed xs).take ((sealed xs).length - 4) = xs := by
    rw [hl, show xs.length + 4 - 4 = xs.length from by omega]; simp [sealed]
  unfold op
  rw [if_neg (by omega), ht, if_pos rfl]
end Go.Proofs.YtpbijdoemdoijaaGreatDoor
end PkCa11_2
section PkCa11_3
/- A column's chunk: put, walked. (Written by gencolput.py.) -/
namespace Go.Proofs.YtpbijdoemdoijaaGreatDoor
open Go.RowKit BitsPlain NumsPlain CrcPlain
set_option linter.unusedVariables false

/-- the chunk of a kind, of a content -/
def chunk (k : Nat) (C : List Nat) : List Nat := if (dfl C).length < C.length then sealed ([k, 1] ++ pu C.length ++ dfl C) else sealed ([k, 0] ++ pu C.length ++ C)

set_option maxRecDepth 100000 in
set_option maxHeartbeats 4000000 in
theorem putB_any {w : World} (hT : Table w) {a : Option Addr} {n c k : Nat} {C : List Nat} (hn : n ≤ 2048) (hk : k < 256)
    (hC : Calls Tryz.prog 45 #[.slice a n c] w fun e w' => ∃ v, e = .returned (.tuple #[v, .int .i64 0]) ∧ w'.ownsRow w.heap.size 5 1 v C.length (bv C) ∧ Below w.heap.size w w') (hCb : ∀ x ∈ C, x < 256) (hCl : C.length ≤ 65536) :
    Calls Tryz.prog 44 #[.int .u8 (k : Int), .slice a n c, .func (.func 45) #[] #[]] w fun e w' => ∃ a' m' c', e = .returned (.tuple #[.slice a' m' c', .int .i64 0]) ∧ w'.ownsRow w.heap.size 5 1 (.slice a' m' c') m' (bv (chunk k C)) ∧ BytesAt w' a' m' c' (chunk k C) ∧ Below w.heap.size w w' := by
  have hni : ¬ ((2048 : Int) < (n : Int)) := by omega
  have HT := Lib.hid (show ∀ w', Below w.heap.size w w' → Table w' from fun w' h => hT.below h)
  have HC := Lib.hid hC
  have HCB := Lib.hid hCb
  have h10 := pu_ten (n := C.length) (by omega)
  clear hC hT hCb
  go_enter Tryz.func44, Tryz.ntmps44
  go_wp2_with fail
  refine HC.out.mono ?_
  rintro e w2 ⟨v2, rfl, ho2, hb2⟩
  obtain ⟨ac, cc, rfl, hbc, _⟩ := BytesAt.ofOwn ho2 HCB.out (by omega)
  have HB2 := Lib.hid hb2
  have HC2 := Lib.hid hbc
  have HDE := Lib.hid (deflate_any hbc hCl)
  obtain ⟨lc, hlc⟩ : ∃ lc, lc = C.length := ⟨_, rfl⟩
  have hcl : ¬ ((65536 : Int) < (C.length : Int)) := by omega
  clear ho2 hb2 hbc
  go_wp2_with fail
  refine HDE.out.mono ?_
  rintro e w3 ⟨ad, cd, rfl, hd3, hb3⟩
  have HB3 := Lib.hid (HB2.out.trans (hb3.mono HB2.out.size))
  have HC3 := Lib.hid (HC2.out.kept hb3)
  obtain ⟨D, hD⟩ : ∃ D, D = dfl C := ⟨_, rfl⟩
  rw [← hD] at hd3 ⊢
  have HD3 := Lib.hid hd3
  have hCK : chunk k C = if D.length < C.length then sealed ([k, 1] ++ pu C.length ++ D) else sealed ([k, 0] ++ pu C.length ++ C) := by unfold chunk; rw [hD]
  clear hd3 hb3 hD
  by_cases hlt : D.length < C.length
  · rw [if_pos hlt] at hCK
    have HCK := Lib.hid hCK
    have hlti : (D.length : Int) < (C.length : Int) := by omega
    obtain ⟨w4, hw4⟩ : ∃ w4, w4 = w3.alloc (.cells #[.int .u8 (k : Int), .int .u8 1] 5) := ⟨_, rfl⟩
    have o4 := World.ownsRow_lit (base := w3.heap.size) (e := 5) (size := 1) w3 #[.int .u8 (k : Int), .int .u8 1] 2 (Nat.le_refl _) (by unfold maxLen; omega) rfl
    rw [← hw4] at o4
    have HO4 := Lib.hid (show w4.ownsRow w3.heap.size 5 1 (.slice (some ⟨w3.heap.size, 0, none⟩) 2 2) 2 (bv [k, 1]) from o4)
    have HB4 := Lib.hid (show Below w3.heap.size w3 w4 from by rw [hw4]; exact (Below.refl _ _).alloc (Nat.le_refl _) _)
    have HPU := Lib.hid (putu C.length (by omega) w4)
    have HW4 := Lib.hid hw4
    clear o4 hw4 hCK
    go_wp2_with fail
    rw [← HW4.out]
    refine HPU.out.mono ?_
    rintro e w5 ⟨g5, c5, rfl, hg5, hb5, hbl5⟩
    have HB5 := Lib.hid (HB4.out.trans (hbl5.mono HB4.out.size))
    have HO5 := Lib.hid (own_below HO4.out hbl5)
    have H5 := Lib.hid hb5
    have HS5 := Lib.hid HB5.out.size
    clear hg5 hb5 hbl5
    go_wp2_with (at_builtin; refine wpList_append_bytes rfl (.tmp 48) (.tmp 52) rfl w3.heap.size _ 2 [k, 1] rfl HO5.out _ _ _ (pu C.length) rfl H5.out (by omega) HS5.out ?_)
    intro v6 w6 ho6 hg6
    have HB6 := Lib.hid (below_own HB5.out HO5.out hg6 (Nat.le_refl _) HS5.out)
    have HO6 := Lib.hid ho6
    have HBD6 := Lib.hid (HD3.out.keep HB6.out (Nat.le_refl _))
    have HS6 := Lib.hid HB6.out.size
    clear ho6 hg6
    go_wp2_with (at_builtin; refine wpList_append_bytes rfl (.tmp 54) (.tmp 55) rfl w3.heap.size v6 (2 + (pu C.length).length) ([k, 1] ++ pu C.length) rfl HO6.out _ _ _ D rfl HBD6.out (by omega) HS6.out ?_)
    intro v7 w7 ho7 hg7
    have HB7 := Lib.hid (below_own HB6.out HO6.out hg7 (Nat.le_refl _) HS6.out)
    have HBY := Lib.hid (show ∀ x ∈ ([k, 1] ++ pu C.length) ++ D, x < 256 from by
      intro x hx
      rcases List.mem_append.1 hx with e | e
      · rcases List.mem_append.1 e with e | e
        · simp only [List.mem_cons, List.not_mem_nil, or_false] at e
          omega
        · exact pu_bytes (by omega) x e
      · exact HBD6.out.byte x e)
    obtain ⟨a7, c7, rfl, h7, _⟩ := BytesAt.ofOwn ho7 HBY.out (by omega)
    have HCH := Lib.hid (show chunk k C = sealed (([k, 1] ++ pu C.length) ++ D) from HCK.out)
    have HSE := Lib.hid (seal_any (HT.out w7 (HB3.out.trans (HB7.out.mono HB3.out.size))) h7 (by omega))
    clear ho7 hg7 h7
    go_wp2_with fail
    refine HSE.out.mono ?_
    rintro e w8 ⟨a8, c8, rfl, h8, hb8, _, ho8⟩
    have HB8 := Lib.hid (HB3.out.trans ((HB7.out.trans (hb8.mono HB7.out.size)).mono HB3.out.size))
    have HO8 := Lib.hid (own_lower ho8 (show w.heap.size ≤ w7.heap.size from Nat.le_trans HB3.out.size HB7.out.size))
    have H8 := Lib.hid h8
    clear h8 hb8 ho8
    go_wp2_with fail
    first | go_ret2 | go_ret
    rw [HCH.out]
    exact ⟨a8, _, c8, rfl, HO8.out, H8.out, HB8.out⟩
  · rw [if_neg hlt] at hCK
    have HCK := Lib.hid hCK
    have hlti : ¬ (D.length : Int) < (C.length : Int) := by omega
    obtain ⟨w4, hw4⟩ : ∃ w4, w4 = w3.alloc (.cells #[.int .u8 (k : Int), .int .u8 0] 5) := ⟨_, rfl⟩
    have o4 := World.ownsRow_lit (base := w3.heap.size) (e := 5) (size := 1) w3 #[.int .u8 (k : Int), .int .u8 0] 2 (Nat.le_refl _) (by unfold maxLen; omega) rfl
    rw [← hw4] at o4
    have HO4 := Lib.hid (show w4.ownsRow w3.heap.size 5 1 (.slice (some ⟨w3.heap.size, 0, none⟩) 2 2) 2 (bv [k, 0]) from o4)
    have HB4 := Lib.hid (show Below w3.heap.size w3 w4 from by rw [hw4]; exact (Below.refl _ _).alloc (Nat.le_refl _) _)
    have HPU := Lib.hid (putu C.length (by omega) w4)
    have HW4 := Lib.hid hw4
    clear o4 hw4 hCK
    go_wp2_with fail
    rw [← HW4.out]
    refine HPU.out.mono ?_
    rintro e w5 ⟨g5, c5, rfl, hg5, hb5, hbl5⟩
    have HB5 := Lib.hid (HB4.out.trans (hbl5.mono HB4.out.size))
    have HO5 := Lib.hid (own_below HO4.out hbl5)
    have H5 := Lib.hid hb5
    have HS5 := Lib.hid HB5.out.size
    clear hg5 hb5 hbl5
    go_wp2_with (at_builtin; refine wpList_append_bytes rfl (.tmp 48) (.tmp 52) rfl w3.heap.size _ 2 [k, 0] rfl HO5.out _ _ _ (pu C.length) rfl H5.out (by omega) HS5.out ?_)
    intro v6 w6 ho6 hg6
    have HB6 := Lib.hid (below_own HB5.out HO5.out hg6 (Nat.le_refl _) HS5.out)
    have HO6 := Lib.hid ho6
    have HBD6 := Lib.hid (HC3.out.keep HB6.out (Nat.le_refl _))
    have HS6 := Lib.hid HB6.out.size
    clear ho6 hg6
    go_wp2_with (at_builtin; refine wpList_append_bytes rfl (.tmp 54) (.tmp 55) rfl w3.heap.size v6 (2 + (pu C.length).length) ([k, 0] ++ pu C.length) rfl HO6.out _ _ _ C rfl HBD6.out (by omega) HS6.out ?_)
    intro v7 w7 ho7 hg7
    have HB7 := Lib.hid (below_own HB6.out HO6.out hg7 (Nat.le_refl _) HS6.out)
    have HBY := Lib.hid (show ∀ x ∈ ([k, 0] ++ pu C.length) ++ C, x < 256 from by
      intro x hx
      rcases List.mem_append.1 hx with e | e
      · rcases List.mem_append.1 e with e | e
        · simp only [List.mem_cons, List.not_mem_nil, or_false] at e
          omega
        · exact pu_bytes (by omega) x e
      · exact HBD6.out.byte x e)
    obtain ⟨a7, c7, rfl, h7, _⟩ := BytesAt.ofOwn ho7 HBY.out (by omega)
    have HCH := Lib.hid (show chunk k C = sealed (([k, 0] ++ pu C.length) ++ C) from HCK.out)
    have HSE := Lib.hid (seal_any (HT.out w7 (HB3.out.trans (HB7.out.mono HB3.out.size))) h7 (by omega))
    clear ho7 hg7 h7
    go_wp2_with fail
    refine HSE.out.mono ?_
    rintro e w8 ⟨a8, c8, rfl, h8, hb8, _, ho8⟩
    have HB8 := Lib.hid (HB3.out.trans ((HB7.out.trans (hb8.mono HB7.out.size)).mono HB3.out.size))
    have HO8 := Lib.hid (own_lower ho8 (show w.heap.size ≤ w7.heap.size from Nat.le_trans HB3.out.size HB7.out.size))
    have H8 := Lib.hid h8
    clear h8 hb8 ho8
    go_wp2_with fail
    first | go_ret2 | go_ret
    rw [HCH.out]
    exact ⟨a8, _, c8, rfl, HO8.out, H8.out, HB8.out⟩

end Go.Proofs.YtpbijdoemdoijaaGreatDoor
end PkCa11_3
section PkCa11_4
/- A bare chunk's content, walked. -/
namespace Go.Proofs.YtpbijdoemdoijaaGreatDoor
open Go.RowKit BitsPlain NumsPlain CrcPlain
set_option linter.unusedVariables false

theorem cn_at (pre : List Nat) {n : Nat} (r : List Nat) {most : Int} {above : Nat} (h : n < 18446744073709551616) (hm : (n : Int) ≤ most) : ccn (pre ++ (pu n ++ r)) pre.length 0 most above = (n, pre.length + (pu n).length, 0) := by
  have h1 := ru_nat (pre ++ (pu n ++ r)) pre.length
  rw [List.drop_left] at h1
  have h2 := ru_nat (pu n ++ r) 0
  rw [List.drop_zero] at h2
  have h3 : ru (pu n ++ r) ((0 : Nat) : Int) = (n, (pu n).length, 0) := ru_back h r
  rw [h2] at h3
  have hr : ru (pre ++ (pu n ++ r)) (pre.length : Int) = (n, (pu n).length, 0) := by rw [h1]; exact h3
  have hc : cu (pre ++ (pu n ++ r)) pre.length 0 = (n, pre.length + (pu n).length, 0) := by
    unfold cu
    rw [if_pos rfl, hr, if_pos rfl]
  unfold ccn
  rw [if_neg (by simp), hc, if_neg (by simp), if_neg (by simp only; omega)]
theorem cb_all (pre C : List Nat) : cb (pre ++ C) pre.length 0 (C.length : Int) = (C, pre.length + C.length, 0) := by
  unfold cb
  rw [if_neg (by simp), if_neg (by rw [List.length_append]; omega), List.drop_left, Int.toNat_natCast, List.take_length]

set_option maxRecDepth 100000 in
set_option maxHeartbeats 4000000 in
theorem content_bare {w : World} {a : Option Addr} {n c k : Nat} {C : List Nat} (h : BytesAt w a n c ([k, 0] ++ pu C.length ++ C)) (hk : k ≤ 4) (hC : C.length ≤ 65536) :
    Calls Tryz.prog 86 #[.slice a n c] w fun e w' => ∃ a' c', e = .returned (.tuple #[.slice a' C.length c', .bool true]) ∧ BytesAt w' a' C.length c' C ∧ Below w.heap.size w w' := by
  have HN := Lib.hid (new_any h)
  have hlen := h.len
  have hp10 := pu_ten (n := C.length) (by omega)
  obtain ⟨p, hp⟩ : ∃ p, p = (pu C.length).length := ⟨_, rfl⟩
  obtain ⟨m, hm⟩ : ∃ m, m = C.length := ⟨_, rfl⟩
  have hn1 : n ≤ 2 + p + m ∧ 2 + p + m ≤ n := by
    rw [← hlen]
    simp only [List.length_append, List.length_cons, List.length_nil]
    omega
  obtain ⟨xs, hxs⟩ : ∃ xs, xs = [k, 0] ++ pu C.length ++ C := ⟨_, rfl⟩
  have e1 : ccn xs 0 0 4 2 = (k, 1, 0) := by
    have := cn_at [] (n := k) (0 :: pu C.length ++ C) (most := 4) (above := 2) (by omega) (by omega)
    rw [pu_small (by omega)] at this
    rw [hxs]
    exact this
  have e2 : ccn xs 1 0 1 2 = (0, 2, 0) := by
    have := cn_at [k] (n := 0) (pu C.length ++ C) (most := 1) (above := 2) (by omega) (by omega)
    rw [pu_small (by omega)] at this
    rw [hxs]
    exact this
  have e3 : ccn xs 2 0 65536 2 = (m, 2 + p, 0) := by
    have := cn_at [k, 0] (n := C.length) C (most := 65536) (above := 2) (by omega) (by omega)
    rw [hxs, List.append_assoc, hm, hp]
    exact this
  have e4 : cb xs (2 + p) 0 (m : Int) = (C, 2 + p + m, 0) := by
    have := cb_all ([k, 0] ++ pu C.length) C
    rw [List.length_append, ← hp] at this
    rw [hxs, hm]
    exact this
  have hce : cend n (2 + p + m) 0 = 0 := by unfold cend; rw [if_pos rfl, if_neg (by omega)]
  have hsub : (n : Int) - ((2 + p : Nat) : Int) = (m : Int) := by omega
  obtain ⟨i3, hi3⟩ : ∃ i3, i3 = 2 + p := ⟨_, rfl⟩
  rw [← hi3] at e3 e4 hce hsub
  obtain ⟨i4, hi4⟩ : ∃ i4, i4 = i3 + m := ⟨_, rfl⟩
  rw [← hi4] at e4 hce
  have E1 := Lib.hid e1
  have E2 := Lib.hid e2
  have E3 := Lib.hid e3
  have E4 := Lib.hid e4
  have HCE := Lib.hid hce
  have hm6 : m ≤ 65536 := by omega
  have hp10 : p ≤ 10 := by omega
  have hi3n : i3 ≤ 12 := by omega
  have hn2 : n ≤ 70000 := by omega
  have HM := Lib.hid hm
  rw [← hxs] at HN
  rw [← hm]
  clear h e1 e2 e3 e4 hxs hlen hp hce hi3 hi4 hm hn1
  go_enter Tryz.func86, Tryz.ntmps86
  go_wp2_with fail
  refine HN.out.mono ?_
  rintro e w1 ⟨B, a', c', rfl, hcur, hb1, hB, _⟩
  have HB1 := Lib.hid hb1
  have HBB := Lib.hid (show ∀ k, some B = some k → w.heap.size ≤ k from fun k hk => by cases hk; exact hB)
  have hnum := cnum_any hcur 4 (by omega) (by omega)
  rw [E1.out] at hnum
  have HNUM := Lib.hid hnum
  clear hcur hb1 hB hnum
  go_wp2_with fail
  refine HNUM.out.mono ?_
  rintro e w2 ⟨rfl, hcur, hg2⟩
  have HB2 := Lib.hid (HB1.out.grown hg2 HB1.out.size HBB.out)
  have hnum := cnum_any hcur 1 (by omega) (by omega)
  rw [E2.out] at hnum
  have HNUM2 := Lib.hid hnum
  clear hcur hg2 hnum
  go_wp2_with fail
  refine HNUM2.out.mono ?_
  rintro e w3 ⟨rfl, hcur, hg3⟩
  have HB3 := Lib.hid (HB2.out.grown hg3 HB2.out.size HBB.out)
  have hnum := cnum_any hcur 65536 (by omega) (by omega)
  rw [E3.out] at hnum
  have HNUM3 := Lib.hid hnum
  clear hcur hg3 hnum
  go_wp2_with fail
  refine HNUM3.out.mono ?_
  rintro e w4 ⟨rfl, hcur, hg4⟩
  have HB4 := Lib.hid (HB3.out.grown hg4 HB3.out.size HBB.out)
  have HAT := Lib.hid (at_any hcur)
  have hcb := cb_any hcur (m : Int) (by omega) (by omega)
  rw [E4.out] at hcb
  have HCB := Lib.hid hcb
  clear hcur hg4 hcb
  go_wp2_with fail
  refine HAT.out.mono ?_
  rintro e w5 ⟨rfl, rfl⟩
  go_wp2_with fail
  refine HCB.out.mono ?_
  rintro e w6 ⟨⟨a6, c6, rfl, h6⟩, hcur, hg6⟩
  rw [← HM.out] at h6
  rw [← HM.out]
  have HB6 := Lib.hid (HB4.out.grown hg6 HB4.out.size HBB.out)
  have hend := end_any hcur
  rw [HCE.out] at hend
  have HEND := Lib.hid hend
  have H6 := Lib.hid h6
  clear hcur hg6 h6 hend
  go_wp2_with fail
  refine HEND.out.mono ?_
  rintro e w7 ⟨rfl, q, rfl⟩
  go_wp2_with fail
  first | go_ret2 | go_ret
  exact ⟨a6, c6, rfl, H6.out.drewN q, HB6.out.trans ((show Below w6.heap.size w6 (w6.drewN q) from ⟨rfl, rfl, rfl, Nat.le_refl _, fun _ _ => rfl⟩).mono HB6.out.size)⟩
end Go.Proofs.YtpbijdoemdoijaaGreatDoor
end PkCa11_4
section PkCa11_5
/- Slices of things of any struct, as walks are told of them: wherever they lie; what a call owns; as a law's argument. -/
namespace Go.Proofs.YtpbijdoemdoijaaGreatDoor
open Go.ChangeShapes Go.WideShapes Go.Deep Go.RowKit
set_option linter.unusedVariables false

theorem vflat_len {α : Type} (f : α → List Value) (K : Nat) (hK : ∀ x, (f x).length = K) : ∀ l : List α, (l.flatMap f).length = l.length * K
  | [] => by simp
  | x :: r => by rw [List.flatMap_cons, List.length_append, hK, vflat_len f K hK r, List.length_cons, Nat.succ_mul]; omega
theorem vflat_at {α : Type} (f : α → List Value) (K : Nat) (hK : ∀ x, (f x).length = K) (d : α) : ∀ (l : List α) (i j : Nat), i < l.length → j < K → (l.flatMap f)[i * K + j]? = (f (l.getD i d))[j]?
  | x :: r, 0, j, _, hj => by
    rw [List.flatMap_cons, Nat.zero_mul, Nat.zero_add, List.getElem?_append_left (by rw [hK]; exact hj)]; rfl
  | x :: r, i + 1, j, hi, hj => by
    rw [List.flatMap_cons, List.getElem?_append_right (by rw [hK, Nat.succ_mul]; omega), hK, show (i + 1) * K + j - K = i * K + j from by rw [Nat.succ_mul]; omega, vflat_at f K hK d r i j (by simpa using hi) hj]
    rfl
/-- things of K cells, and what else holds of them in a world -/
structure Sty (α : Type) where
  f : α → List Value
  K : Nat
  z : α
  ok : World → α → Prop
  pos : 0 < K
  wid : ∀ x, (f x).length = K
  one : ∀ x, ∀ u ∈ f x, u.oneCell' = true
  mono : ∀ {w w' : World} {x : α}, Below w.heap.size w w' → ok w x → ok w' x
def Sty.flat {α : Type} (S : Sty α) (l : List α) : List Value := l.flatMap S.f
structure VecAt {α : Type} (S : Sty α) (w : World) (a : Option Addr) (n c : Nat) (l : List α) : Prop where
  len : l.length = n
  cap : n ≤ c
  capm : c ≤ 9223372036854775807
  nl : a = none → c = 0
  all : ∀ x ∈ l, S.ok w x
  cells : 0 < n → ∃ b off, a = some ⟨b, off, none⟩ ∧ b < w.heap.size ∧ ∀ i, i < n → ∀ j u, (S.f (l.getD i S.z))[j]? = some u → w.cell? ⟨b, off + i * S.K + j, none⟩ = some u
section
variable {α : Type} {S : Sty α} {w w' : World} {a : Option Addr} {n c : Nat} {l : List α}
theorem VecAt.kept (h : VecAt S w a n c l) (hb : Below w.heap.size w w') : VecAt S w' a n c l :=
  ⟨h.len, h.cap, h.capm, h.nl, fun x hx => S.mono hb (h.all x hx), fun hn => by
    obtain ⟨b, off, ha, hlt, hc⟩ := h.cells hn
    exact ⟨b, off, ha, Nat.lt_of_lt_of_le hlt hb.size, fun i hi j u hu => (hb.cell (p := ⟨b, off + i * S.K + j, none⟩) hlt).trans (hc i hi j u hu)⟩⟩
theorem VecAt.empty (w : World) (a : Option Addr) (c : Nat) (hc : c ≤ 9223372036854775807) (ha : a = none → c = 0) : VecAt S w a 0 c [] :=
  ⟨rfl, Nat.zero_le _, hc, ha, (fun x hx => by cases hx), fun h => absurd h (Nat.lt_irrefl 0)⟩
theorem vec_mem {i : Nat} (h : i < l.length) : l.getD i S.z ∈ l := by
  have : l.getD i S.z = l[i] := by simp [h]
  rw [this]; exact List.getElem_mem h
theorem VecAt.get (h : VecAt S w a n c l) {i : Nat} (hi : i < n) : ∃ b off, a = some ⟨b, off, none⟩ ∧ b < w.heap.size ∧ S.ok w (l.getD i S.z) ∧ ∀ j u, (S.f (l.getD i S.z))[j]? = some u → w.cell? ⟨b, off + i * S.K + j, none⟩ = some u := by
  obtain ⟨b, off, ha, hlt, hc⟩ := h.cells (by omega)
  exact ⟨b, off, ha, hlt, h.all _ (vec_mem (by rw [h.len]; exact hi)), hc i hi⟩
theorem VecAt.ofOwn {base : Nat} {e : TypeId} (h : w.ownsRow base e S.K (.slice a n c) n (S.flat l)) (hl : l.length = n) (hok : ∀ x ∈ l, S.ok w x) : VecAt S w a n c l := by
  rcases h.2 with ⟨he, h0⟩ | ⟨g, cap, cur, he, hg, hh, hnc, hcap, hsz, htake⟩
  · cases he
    obtain rfl : l = [] := List.eq_nil_of_length_eq_zero hl
    exact VecAt.empty w none 0 (by omega) (fun _ => rfl)
  · cases he
    refine ⟨hl, hnc, by unfold maxLen at hcap; exact hcap, (fun e => by cases e), hok, fun hp => ⟨g, 0, rfl, (Array.getElem?_eq_some_iff.1 hh).1, fun i hi j u hu => ?_⟩⟩
    have hj : j < S.K := by rw [← S.wid (l.getD i S.z)]; exact (List.getElem?_eq_some_iff.1 hu).1
    have h2 : (S.flat l)[i * S.K + j]? = some u := by
      unfold Sty.flat
      rw [vflat_at S.f S.K S.wid S.z l i j (by omega) hj, hu]
    have hlt : i * S.K + j < n * S.K := by
      have := Nat.mul_le_mul_right S.K (show i + 1 ≤ n by omega)
      rw [Nat.succ_mul] at this; omega
    rw [Nat.zero_add, cell_of_row w _ _ _ _ (0, 0) hh, ← h2, ← htake, List.getElem?_take_of_lt hlt, Array.getElem?_toList]
theorem Sty.flat_len (S : Sty α) (l : List α) : (S.flat l).length = l.length * S.K := Go.Proofs.YtpbijdoemdoijaaGreatDoor.vflat_len S.f S.K S.wid l
theorem Sty.flat_snoc (S : Sty α) (l : List α) (x : α) : S.flat (l ++ [x]) = S.flat l ++ S.f x := by unfold Sty.flat; simp
theorem Sty.flat_one (S : Sty α) (l : List α) : ∀ u ∈ S.flat l, u.oneCell' = true := by
  intro u hu
  obtain ⟨x, _, hx⟩ := List.mem_flatMap.1 hu
  exact S.one x u hx
theorem VecAt.src {ad : Addr} (h : VecAt S w (some ad) n c l) : ∀ j u, (S.flat l)[j]? = some u → w.cell? (ad.add j) = some u := by
  intro j u hu
  have hj : j < n * S.K := by rw [← h.len, ← S.flat_len]; exact (List.getElem?_eq_some_iff.1 hu).1
  have hn : 0 < n := by
    rcases Nat.eq_zero_or_pos n with e | e
    · rw [e, Nat.zero_mul] at hj; omega
    · exact e
  obtain ⟨b, off, he, hlt, hc⟩ := h.cells hn
  cases he
  have hdiv : j / S.K < n := (Nat.div_lt_iff_lt_mul S.pos).2 hj
  have hmod : j % S.K < S.K := Nat.mod_lt _ S.pos
  have e1 : j / S.K * S.K + j % S.K = j := by rw [Nat.mul_comm]; exact Nat.div_add_mod j S.K
  have h2 := vflat_at S.f S.K S.wid S.z l (j / S.K) (j % S.K) (by rw [h.len]; exact hdiv) hmod
  rw [e1] at h2
  have h3 := hc (j / S.K) hdiv (j % S.K) u (by rw [← h2]; exact hu)
  have h4 : (⟨b, off, none⟩ : Addr).add j = ⟨b, off + j, none⟩ := by unfold Addr.add; split <;> simp_all
  rw [h4, ← h3, Nat.add_assoc, e1]
end
/-- one thing, newly laid -/
theorem Sty.src {α : Type} (S : Sty α) (w : World) (x : α) (t : TypeId) {cs : Array Value} (hcs : cs = (S.f x).toArray) : ∀ j u, (S.f x)[j]? = some u → (w.alloc (.cells cs t)).cell? ((⟨w.heap.size, 0, none⟩ : Addr).add j) = some u := by
  intro j u hj
  have hblk := heap_alloc_new w (.cells cs t)
  have hadd : (⟨w.heap.size, 0, none⟩ : Addr).add j = ⟨w.heap.size, 0 + j, none⟩ := by unfold Addr.add; split <;> simp_all
  rw [hadd, Nat.zero_add, cell_of_row _ _ _ _ _ (0, 0) hblk, hcs, List.getElem?_toArray]
  exact hj
theorem vec_wadd {H : Type} {P : Program} {e : TypeId} {d : DataW H} {n : Nat} : ∀ {l : List (DataW H)}, d ∈ l → n ∈ DataW.weights P e d → n ∈ DataW.weightsAll P e l
  | [], h, _ => by cases h
  | x :: r, h, hn => by
    rw [DataW.weightsAll]
    rcases List.mem_cons.1 h with rfl | h
    · exact List.mem_append_left _ hn
    · exact List.mem_append_right _ (vec_wadd h hn)
/-- opened, as a law's argument -/
theorem open_vec {α : Type} (S : Sty α) {H : Type} {enc : TypeId × Value → H} {W : World} {fuel : Nat} {T e : TypeId} {a : Option Addr} {len cap : Nat} {x : DataW H × List MemPlace} (ht : Tryz.prog.underlying T = some (.slice e)) (hK : Tryz.prog.cellsOf e = S.K)
    (hfld : ∀ (fuel : Nat) (cs : List Value) (y : DataW H × List MemPlace), DataW.trod enc Tryz.prog W 0 (fun _ => true) true fuel e cs = some y → (∀ n, n ∈ DataW.weights Tryz.prog e y.1 → n ≤ reachBytes) → ∃ r : α, cs = S.f r ∧ S.ok W r)
    (hf : DataW.trod enc Tryz.prog W 0 (fun _ => true) true fuel T [.slice a len cap] = some x) (hw : ∀ n, n ∈ DataW.weights Tryz.prog T x.1 → n ≤ reachBytes) : ∃ l : List α, VecAt S W a len cap l := by
  rcases open_slice ht hf with ⟨hcs, _⟩ | ⟨x0, l, c, m, n, D, Pl, hcs, _, hl, hm, hmm, hx, hi⟩
  · simp at hcs
    obtain ⟨rfl, rfl, rfl⟩ := hcs
    exact ⟨[], VecAt.empty W none 0 (by omega) (fun _ => rfl)⟩
  · simp at hcs
    obtain ⟨rfl, rfl, rfl⟩ := hcs
    rw [hK] at hi
    have hm2 : m = cap := by rw [hmm]; simp
    have hone : ∀ i : Nat, ∃ r : α, i < len → (∀ j u, (S.f r)[j]? = some u → W.cell? (x0.add (i * S.K + j)) = some u) ∧ S.ok W r := by
      intro i
      by_cases hil : i < len
      · obtain ⟨cs, hcc, ht2⟩ := hi i (by omega)
        obtain ⟨r, rfl, hok⟩ := hfld _ _ _ ht2 (fun n hn => hw n (by
          rw [hx]
          simp only [DataW.weights, ht]
          exact List.mem_cons_of_mem _ (List.mem_append_left _ (vec_wadd (List.mem_map.2 ⟨i, List.mem_range.2 hil, rfl⟩) hn))))
        obtain ⟨_, hl9, hat⟩ := World.cells?_some hcc
        refine ⟨r, fun _ => ⟨fun j u hu => ?_, hok⟩⟩
        have := hat j (by rw [← hl9]; exact (List.getElem?_eq_some_iff.1 hu).1)
        rw [add_add, hu] at this
        exact this
      · exact ⟨S.z, fun h => absurd h hil⟩
    obtain ⟨f, hF⟩ := Classical.skolem.1 hone
    have hget : ∀ i, i < len → ((List.range len).map f).getD i S.z = f i := fun i h => by simp [h]
    refine ⟨(List.range len).map f, by simp, hl, by unfold maxLen at hm; exact hm, (fun e => by cases e), ?_, fun hp => ?_⟩
    · intro y hy
      obtain ⟨i, hi', rfl⟩ := List.mem_map.1 hy
      exact (hF i (List.mem_range.1 hi')).2
    · obtain ⟨b, off, spot⟩ := x0
      have h00 : 0 < (S.f (f 0)).length := by rw [S.wid]; exact S.pos
      have hc := (hF 0 hp).1 0 _ (List.getElem?_eq_getElem h00)
      have hspot : spot = none := by simpa [Addr.add] using World.cell?_spot hc
      subst hspot
      refine ⟨b, off, rfl, ?_, fun i hi' j u hu => ?_⟩
      · have := World.block_lt_of_cell? W _ hc
        simpa [Addr.add] using this
      · rw [hget i hi'] at hu
        have h0 := (hF i hi').1 j u hu
        have h4 : (⟨b, off, none⟩ : Addr).add (i * S.K + j) = ⟨b, off + (i * S.K + j), none⟩ := by unfold Addr.add; split <;> simp_all
        rw [h4, ← Nat.add_assoc] at h0
        exact h0
/-- integers, as things of one cell -/
def IntS : Sty Int := ⟨fun z => [.int .i64 z], 1, 0, fun _ z => (Lit.int .i64 z).wf = true, by decide, fun _ => rfl, (fun x u hu => by rw [List.mem_singleton.1 hu]; rfl), fun _ h => h⟩
end Go.Proofs.YtpbijdoemdoijaaGreatDoor
end PkCa11_5
