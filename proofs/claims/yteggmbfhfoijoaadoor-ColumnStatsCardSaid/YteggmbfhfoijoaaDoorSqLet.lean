/- A letter's word, written: walked. -/
import Derived.Test.YteggmbfhfoijoaaDoorSqTok
import Derived.Test.YteggmbfhfoijoaaDoorBitsWriter2
namespace Go.Proofs.YteggmbfhfoijoaaDoor
open Go.RowKit BitsPlain
set_option linter.unusedVariables false

/-- a letter's word and its length -/
def lw (s : Nat) : Nat × Nat := if s < 144 then (48 + s, 8) else if s < 256 then (400 + s - 144, 9) else if s < 280 then (s - 256, 7) else (192 + s - 280, 8)
def lcode (s : Nat) : List Nat := codeOf (lw s).1 (lw s).2 (lw s).2

set_option maxRecDepth 100000 in
set_option maxHeartbeats 2000000 in
theorem letter_any {w : World} {B base : Nat} {v : Value} {l : List Nat} (h : WrAt w B base v l) (hbase : base ≤ w.heap.size) {s : Nat} (hs : s < 288) (hlen : l.length + 9 ≤ 10000000) :
    Calls Tryd.prog 62 #[.pointer (some ⟨B, 0, none⟩), .int .i64 (s : Int)] w fun e w' => e = .returned (.tuple #[]) ∧ ∃ v', WrAt w' B base v' (l ++ lcode s) ∧ Touch w w' B v ∧ Went w v v' := by
  by_cases h1 : s < 144
  · have hi : (s : Int) < 144 := by omega
    have HC := Lib.hid (wcode_any h hbase (48 + s) (by omega) 8 (by omega) (by omega))
    have HL := Lib.hid (show lcode s = codeOf (48 + s) 8 8 by unfold lcode lw; rw [if_pos h1])
    have HW := Lib.hid (show (48 : Int) + (s : Int) = ((48 + s : Nat) : Int) by omega)
    clear h hbase hs hlen
    go_enter Tryd.func62, Tryd.ntmps62
    go_wp2_with fail
    rw [HW.out]
    refine HC.out.mono ?_
    rintro e w1 ⟨rfl, v', h2, h3, h4⟩
    have H2 := Lib.hid h2
    have H3 := Lib.hid h3
    clear h2 h3
    go_wp2_with fail
    first | go_end0 | refine bodyPost_ret (results_none rfl _ _ _) rfl ?_
    exact ⟨rfl, v', by rw [HL.out]; exact H2.out, H3.out, h4⟩
  · by_cases h2 : s < 256
    · have hi : (s : Int) < 256 := by omega
      have hj : (144 : Int) ≤ (s : Int) := by omega
      have HC := Lib.hid (wcode_any h hbase (400 + s - 144) (by omega) 9 (by omega) (by omega))
      have HL := Lib.hid (show lcode s = codeOf (400 + s - 144) 9 9 by unfold lcode lw; rw [if_neg h1, if_pos h2])
      have HW := Lib.hid (show (400 : Int) + (s : Int) - 144 = ((400 + s - 144 : Nat) : Int) by omega)
      clear h hbase hs hlen h1
      go_enter Tryd.func62, Tryd.ntmps62
      go_wp2_with fail
      rw [HW.out]
      refine HC.out.mono ?_
      rintro e w1 ⟨rfl, v', h2, h3, h4⟩
      have H2 := Lib.hid h2
      have H3 := Lib.hid h3
      clear h2 h3
      go_wp2_with fail
      first | go_end0 | refine bodyPost_ret (results_none rfl _ _ _) rfl ?_
      exact ⟨rfl, v', by rw [HL.out]; exact H2.out, H3.out, h4⟩
    · by_cases h5 : s < 280
      · have hi : (s : Int) < 280 := by omega
        have hj : (256 : Int) ≤ (s : Int) := by omega
        have HC := Lib.hid (wcode_any h hbase (s - 256) (by omega) 7 (by omega) (by omega))
        have HL := Lib.hid (show lcode s = codeOf (s - 256) 7 7 by unfold lcode lw; rw [if_neg h1, if_neg h2, if_pos h5])
        have HW := Lib.hid (show (s : Int) - 256 = ((s - 256 : Nat) : Int) by omega)
        clear h hbase hs hlen h1 h2
        go_enter Tryd.func62, Tryd.ntmps62
        go_wp2_with fail
        rw [HW.out]
        refine HC.out.mono ?_
        rintro e w1 ⟨rfl, v', h2, h3, h4⟩
        have H2 := Lib.hid h2
        have H3 := Lib.hid h3
        clear h2 h3
        go_wp2_with fail
        first | go_end0 | refine bodyPost_ret (results_none rfl _ _ _) rfl ?_
        exact ⟨rfl, v', by rw [HL.out]; exact H2.out, H3.out, h4⟩
      · have hj : (280 : Int) ≤ (s : Int) := by omega
        have hi : (s : Int) < 288 := by omega
        have HC := Lib.hid (wcode_any h hbase (192 + s - 280) (by omega) 8 (by omega) (by omega))
        have HL := Lib.hid (show lcode s = codeOf (192 + s - 280) 8 8 by unfold lcode lw; rw [if_neg h1, if_neg h2, if_neg h5])
        have HW := Lib.hid (show (192 : Int) + (s : Int) - 280 = ((192 + s - 280 : Nat) : Int) by omega)
        clear h hbase hs hlen h1 h2 h5
        go_enter Tryd.func62, Tryd.ntmps62
        go_wp2_with fail
        rw [HW.out]
        refine HC.out.mono ?_
        rintro e w1 ⟨rfl, v', h2, h3, h4⟩
        have H2 := Lib.hid h2
        have H3 := Lib.hid h3
        clear h2 h3
        go_wp2_with fail
        first | go_end0 | refine bodyPost_ret (results_none rfl _ _ _) rfl ?_
        exact ⟨rfl, v', by rw [HL.out]; exact H2.out, H3.out, h4⟩
end Go.Proofs.YteggmbfhfoijoaaDoor
