/- Package crc's Seal, walked, given what the table holds. Condition: at most 100,000 bytes. -/
import Derived.Test.YteggmbfhfoijoaaDoorCrcSum
import Derived.OwnWalk
namespace Go.Proofs.YteggmbfhfoijoaaDoor
open Go.RowKit CrcPlain
set_option linter.unusedVariables false

/-- the first k of a number's bytes, the lowest first -/
def le (s : Nat) (k : Nat) : List Nat := (List.range k).map fun i => s / 2 ^ (8 * i) % 256
theorem le_succ (s k : Nat) : le s (k + 1) = le s k ++ [s / 2 ^ (8 * k) % 256] := by simp [le, List.range_succ]
theorem le_len (s k : Nat) : (le s k).length = k := by simp [le]
theorem le_byte (s k : Nat) : ∀ x ∈ le s k, x < 256 := by
  intro x hx
  simp only [le, List.mem_map] at hx
  obtain ⟨i, _, rfl⟩ := hx
  exact Nat.mod_lt _ (by omega)
def sealed (l : List Nat) : List Nat := l ++ le (crcN l) 4

set_option maxRecDepth 100000 in
set_option maxHeartbeats 2000000 in
theorem seal_any {w : World} (hT : Table w) {a : Option Addr} {n c : Nat} {xs : List Nat} (h : BytesAt w a n c xs) (hn : n ≤ 100000) :
    Calls Tryd.prog 26 #[.slice a n c] w fun e w' => ∃ a' c', e = .returned (.slice a' (n + 4) c') ∧ BytesAt w' a' (n + 4) c' (sealed xs) ∧ Below w.heap.size w w' ∧ (∀ b off s, a' = some ⟨b, off, s⟩ → w.heap.size ≤ b) ∧ w'.ownsRow w.heap.size 5 1 (.slice a' (n + 4) c') (n + 4) (bv (sealed xs)) := by
  obtain ⟨i0, hi, hz0, hz1, hz2⟩ := info_parts info_u8
  have HH := Lib.hid h
  have hlen := h.len
  have HBX := Lib.hid h.byte
  have hf1 : flat (fun _ => xs) 1 = xs := by simp [flat]
  obtain ⟨w0, hw0⟩ : ∃ w0, w0 = w.alloc (.cells #[.slice a n c] 24) := ⟨_, rfl⟩
  have hb0 : Below w.heap.size w w0 := by rw [hw0]; exact (Below.refl _ _).alloc (Nat.le_refl _) _
  have hpt : Parts w0 (some ⟨w.heap.size, 0, none⟩) 1 1 (fun _ => xs) := ⟨Nat.le_refl _, by omega, fun _ => ⟨w.heap.size, 0, rfl, by rw [hw0]; simp, fun i hi => ⟨a, n, c, by
    obtain rfl : i = 0 := by omega
    rw [hw0]; simp, h.kept hb0⟩⟩⟩
  have hsum := sum_any (hT.below hb0) hpt (fun k hk x hx => by
    simp only [flat, List.mem_flatMap] at hx
    obtain ⟨_, _, hx⟩ := hx
    exact h.byte x hx)
  rw [hf1] at hsum
  obtain ⟨s, hs⟩ : ∃ s, s = crcN xs := ⟨_, rfl⟩
  have hs32 : s < 4294967296 := by rw [hs]; exact crcN_lt xs h.byte
  rw [← hs] at hsum
  have HS := Lib.hid hs
  have HS32 := Lib.hid hs32
  have HSUM := Lib.hid hsum
  have HW0 := Lib.hid hw0
  have HB0 := Lib.hid hb0
  have e1 : IntKind.i64.wrap ((n : Int) + 4) = ((n + 4 : Nat) : Int) := by rw [IntWalk.i64_in _ (by omega)]; omega
  clear h hT hf1 hpt hsum hs hs32 hw0 hb0
  go_enter Tryd.func26, Tryd.ntmps26
  go_wp2_with fail
  rw [← HW0.out]
  refine HSUM.out.mono ?_
  rintro e w1 ⟨rfl, hb1⟩
  have HB1 := Lib.hid (HB0.out.trans (hb1.mono HB0.out.size))
  have HH1 := Lib.hid ((HH.out.kept HB0.out).kept hb1)
  clear hb1
  have hs1 := HB1.out.size
  go_wp2_with (refine wpList_make_own _ rfl (.const (.int .i64 0)) (.tmp 11) 24 rfl w.heap.size 5 i0 (.int .u8 0) 1 Tryd.underlying24 hi hz0 hz1 .i64 .i64 _ (n + 4) rfl rfl (by omega) (by rw [hz2]; omega) (by unfold maxLen; omega) hs1 ?_)
  intro w2 hown2 hgrow2
  have HO2 := Lib.hid hown2
  have hb12 : Below w1.heap.size w1 w2 := ⟨hgrow2.os, hgrow2.tape, hgrow2.output, hgrow2.size, fun k hk => hgrow2.block k hk (by simp)⟩
  have HB2 := Lib.hid (HB1.out.trans (hb12.mono hs1))
  have HH2 := Lib.hid (HH1.out.kept hb12)
  have hs2 := HB2.out.size
  have hgo := HO2.out
  clear hown2 hgrow2 hb12
  go_wp2_with (at_builtin; refine wpList_append_bytes rfl (.tmp 13) (.tmp 14) rfl w.heap.size _ _ [] rfl hgo _ _ _ _ rfl HH2.out (by omega) hs2 ?_)
  intro v3 w3 hown3 hgrow3
  have HB3 := Lib.hid (HB2.out.grown hgrow3 hs2 (fun k hk => (hgo.lt k hk).1))
  have HO3 := Lib.hid (show w3.ownsRow w.heap.size 5 1 v3 (n + 0) (bv (xs ++ le s 0)) by simpa [le] using hown3)
  clear hgo hown3 hgrow3 hs1 hs2
  go_wp2_with fail
  go_loopw [4, 5, 16] (fun s4 s5 s16 wr => ∃ k : Nat, k ≤ 4 ∧ s16 = .int .i64 k ∧ Hid (wr.ownsRow w.heap.size 5 1 s4 (n + k) (bv (xs ++ le s k))) ∧ Hid (Below w.heap.size w wr)) (fun _ _ s16 _ => 4 - (intOf s16).toNat)
  case atStart => exact ⟨0, by omega, rfl, HO3, HB3⟩
  case round =>
    obtain ⟨k, hk, rfl, HO, HB⟩ := hrel
    rename World => wr
    by_cases hk4 : k < 4
    · have e8 : IntKind.i64.wrap (8 * (k : Int)) = ((8 * k : Nat) : Int) := by rw [IntWalk.i64_in _ (by omega)]; omega
      have hgo := HO.out
      have hbs := HB.out.size
      go_wp2_with (at_builtin; refine wpList_append_own _ rfl (.tmp 19) (.tmp 25) 24 rfl w.heap.size 5 i0 (.int .u8 0) 1 1 Tryd.underlying24 hi hz0 hz1 hz2 rfl (by decide) _ _ _ rfl (hgo.alloc _) ⟨wr.heap.size, 0, none⟩ 1 1 [.int .u8 ((s : Int) / 2 ^ (8 * k) % 256)] rfl rfl (one_src _ _ _) (one_oneCell rfl) (by unfold maxLen; omega) (by omega) (by simp; omega) ?_)
      intro v' w4 hown' hgrow _
      have HO4 := Lib.hid hown'
      have HB4 := Lib.hid ((HB.out.alloc HB.out.size _).grown hgrow (by simp; omega) (fun k hk => (hgo.lt k hk).1))
      clear hown' hgrow hgo
      go_wp2_with fail
      go_roundw
      case rel =>
        refine ⟨k + 1, by omega, by go_num, Lib.hid ?_, HB4⟩
        have e1 : (s : Int) / 2 ^ (8 * k) % 256 = ((s / 2 ^ (8 * k) % 256 : Nat) : Int) := by push_cast; rfl
        have := HO4.out
        rw [e1] at this
        rw [le_succ, ← List.append_assoc, bv_append]
        exact this
      case measure => simp [intOf]; omega
    · have hk42 : k = 4 := by omega
      subst hk42
      have hby : ∀ x ∈ xs ++ le s 4, x < 256 := by
        intro x hx
        rcases List.mem_append.1 hx with g | g
        · exact HBX.out x g
        · exact le_byte s 4 x g
      obtain ⟨a', c', rfl, hba, hfa⟩ := BytesAt.ofOwn HO.out hby (by omega)
      have HBA := Lib.hid hba
      clear hba hby
      go_wp2_with fail
      go_ret
      refine ⟨a', c', rfl, ?_, HB.out, hfa, ?_⟩
      · unfold sealed
        rw [← HS.out]
        exact HBA.out
      · unfold sealed
        rw [← HS.out]
        exact HO.out
end Go.Proofs.YteggmbfhfoijoaaDoor
