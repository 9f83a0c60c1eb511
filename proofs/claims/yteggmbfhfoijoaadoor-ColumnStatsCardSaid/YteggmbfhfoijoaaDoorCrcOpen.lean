/- Package crc's Open, walked, given what the table holds. Condition: at most 100,000 bytes. -/
import Derived.Test.YteggmbfhfoijoaaDoorCrcSeal
import Derived.Test.YteggmbfhfoijoaaDoorOwn
namespace Go.Proofs.YteggmbfhfoijoaaDoor
open Go.RowKit CrcPlain
set_option linter.unusedVariables false

set_option maxHeartbeats 400000 in
theorem equal_any {a a' : Option Addr} {n n' c c' : Nat} {xs ys : List Nat} {w : World} (hx : BytesAt w a n c xs) (hy : BytesAt w a' n' c' ys) :
    Calls Tryd.prog 31 #[.slice a n c, .slice a' n' c'] w fun e w' => e = .returned (.bool (xs == ys)) ∧ w = w' := by
  have h1 := hx.conv
  have h2 := hy.conv
  have he := bs_eq hx.byte hy.byte
  clear hx hy
  go_enter Tryd.func31, Tryd.ntmps31
  go_wp2
  go_ret
  exact ⟨by rw [← he]; rfl, rfl⟩

/-- what Open answers: the text, the error -/
def op (xs : List Nat) : List Nat × Nat :=
  if xs.length < 4 then ([], 3) else if sealed (xs.take (xs.length - 4)) = xs then (xs.take (xs.length - 4), 0) else ([], 6)

set_option maxRecDepth 100000 in
set_option maxHeartbeats 2000000 in
theorem open_any {w : World} (hT : Table w) {a : Option Addr} {n c : Nat} {xs : List Nat} (h : BytesAt w a n c xs) (hn : n ≤ 100000) :
    Calls Tryd.prog 29 #[.slice a n c] w fun e w' => ∃ a' m' c', e = .returned (.tuple #[.slice a' m' c', .int .i64 ((op xs).2 : Int)]) ∧ BytesAt w' a' m' c' (op xs).1 ∧ Below w.heap.size w w' ∧ w'.ownsRow w.heap.size 5 1 (.slice a' m' c') m' (bv (op xs).1) := by
  have hlen := h.len
  have hempty : ∀ w, BytesAt w none 0 0 [] := fun w => BytesAt.empty w none 0 (by omega) (fun _ => rfl)
  have HEM := Lib.hid hempty
  have hcap := h.cap
  have hcm := h.capm
  have HL := Lib.hid hlen
  clear hempty hlen
  by_cases h4 : n < 4
  · have HO := Lib.hid (show op xs = ([], 3) by unfold op; rw [if_pos (by rw [HL.out]; exact h4)])
    have h4' : (n : Int) < 4 := by omega
    clear h hT
    go_enter Tryd.func29, Tryd.ntmps29
    go_wp2_with fail
    go_ret2
    rw [HO.out]
    exact ⟨none, 0, 0, rfl, HEM.out _, Below.refl _ _, own_nil_bytes _ _⟩
  · obtain ⟨m, rfl⟩ : ∃ m, n = m + 4 := ⟨n - 4, by omega⟩
    have e1 : IntKind.i64.wrap (((m + 4 : Nat) : Int) - 4) = (m : Int) := by rw [IntWalk.i64_in _ (by omega)]; omega
    have h4' : (4 : Int) ≤ ((m + 4 : Nat) : Int) := by omega
    have HC := Lib.hid (clone_own (h.upto m (by omega)))
    have HBY := Lib.hid (h.upto m (by omega)).byte
    have HH := Lib.hid h
    have HT := Lib.hid hT
    have ho : op xs = if sealed (xs.take m) = xs then (xs.take m, 0) else ([], 6) := by
      unfold op; rw [if_neg (by rw [HL.out]; omega), HL.out]; rfl
    have HO := Lib.hid ho
    clear h hT ho h4
    go_enter Tryd.func29, Tryd.ntmps29
    go_wp2_with fail
    refine HC.out.mono ?_
    rintro e w1 ⟨v1, rfl, hown1, hbel1⟩
    obtain ⟨a1, c1, rfl, hb1, _⟩ := BytesAt.ofOwn hown1 HBY.out (by omega)
    have HO1 := Lib.hid hown1
    have HB1 := Lib.hid hb1
    have HBE1 := Lib.hid hbel1
    have HS := Lib.hid (seal_any (HT.out.below hbel1) hb1 (by omega))
    clear hb1 hbel1 hown1
    go_wp2_with fail
    refine HS.out.mono ?_
    rintro e w2 ⟨a2, c2, rfl, hb2, hbel2, _⟩
    have HB2 := Lib.hid hb2
    have HBE2 := Lib.hid (HBE1.out.trans (hbel2.mono HBE1.out.size))
    have HB12 := Lib.hid (HB1.out.kept hbel2)
    have HO2 := Lib.hid (own_below HO1.out hbel2)
    clear hb2 hbel2
    go_wp2_with fail
    refine (equal_any HB2.out (HH.out.kept HBE2.out)).mono ?_
    rintro e w3 ⟨rfl, rfl⟩
    by_cases heq : sealed (xs.take m) = xs
    · have hv : (sealed (xs.take m) == xs) = true := by rw [heq]; exact beq_self_eq_true _
      rw [hv]
      have HV := Lib.hid (show op xs = (xs.take m, 0) by rw [HO.out, if_pos heq])
      clear heq hv
      go_wp2_with fail
      go_ret2
      rw [HV.out]
      exact ⟨a1, m, c1, rfl, HB12.out, HBE2.out, HO2.out⟩
    · have hv : (sealed (xs.take m) == xs) = false := by rw [beq_eq_false_iff_ne]; exact heq
      rw [hv]
      have HV := Lib.hid (show op xs = ([], 6) by rw [HO.out, if_neg heq])
      clear heq hv
      go_wp2_with fail
      go_ret2
      rw [HV.out]
      exact ⟨none, 0, 0, rfl, HEM.out _, HBE2.out, own_nil_bytes _ _⟩

theorem op_sealed (xs : List Nat) : op (sealed xs) = (xs, 0) := by
  have hl : (sealed xs).length = xs.length + 4 := by simp [sealed, le_len]
  have ht : (sealed xs).take ((sealed xs).length - 4) = xs := by
    rw [hl, show xs.length + 4 - 4 = xs.length from by omega]; simp [sealed]
  unfold op
  rw [if_neg (by omega), ht, if_pos rfl]
end Go.Proofs.YteggmbfhfoijoaaDoor
