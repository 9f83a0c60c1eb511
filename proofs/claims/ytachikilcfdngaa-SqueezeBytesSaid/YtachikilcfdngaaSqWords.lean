/- The words of the fixed code, as the document makes them, are the program's letters. -/
import Derived.Test.YtachikilcfdngaaPrefRefWords
import Derived.Test.YtachikilcfdngaaSqLet
namespace Go.Proofs.Ytachikilcfdngaa
open Go.RowKit BitsPlain PrefPlain
set_option linter.unusedVariables false

def flx : List Int := List.replicate 144 8 ++ List.replicate 112 9 ++ List.replicate 24 7 ++ List.replicate 8 8
def fdx : List Int := List.replicate 32 5
def T7 : List Int := (List.range 24).map fun i => ((i + 256 : Nat) : Int)
def T8 : List Int := ((List.range 144) ++ (List.range 8).map (· + 280)).map fun (i : Nat) => (i : Int)
def T9 : List Int := (List.range 112).map fun i => ((i + 144 : Nat) : Int)
def T5 : List Int := (List.range 32).map fun (i : Nat) => (i : Int)
theorem flx_len : flx.length = 288 := by decide +kernel
theorem fdx_len : fdx.length = 32 := by decide +kernel
theorem t7 : sy flx 288 7 = T7 := by decide +kernel
theorem t8 : sy flx 288 8 = T8 := by decide +kernel
theorem t9 : sy flx 288 9 = T9 := by decide +kernel
theorem t5 : sy fdx 32 5 = T5 := by decide +kernel
theorem fw_flx : fw (cn flx) 7 = 0 ∧ fw (cn flx) 8 = 48 ∧ fw (cn flx) 9 = 400 := by decide +kernel
theorem fw_fdx : fw (cn fdx) 5 = 0 := by decide +kernel
theorem fits_flx : fitsB (cn flx) (mo flx flx.length) = true := by decide +kernel
theorem fits_fdx : fitsB (cn fdx) (mo fdx fdx.length) = true := by decide +kernel
theorem okL_flx : okL flx flx.length := by rw [flx_len]; unfold okL; decide +kernel
theorem okL_fdx : okL fdx fdx.length := by rw [fdx_len]; unfold okL; decide +kernel
theorem x8 : ∀ x, x < 144 → flx.getD x 0 = 8 ∧ T8.idxOf (x : Int) = x := by decide +kernel
theorem x9 : ∀ x, x < 112 → flx.getD (x + 144) 0 = 9 ∧ T9.idxOf ((x + 144 : Nat) : Int) = x := by decide +kernel
theorem x7 : ∀ x, x < 24 → flx.getD (x + 256) 0 = 7 ∧ T7.idxOf ((x + 256 : Nat) : Int) = x := by decide +kernel
theorem xh : ∀ x, x < 8 → flx.getD (x + 280) 0 = 8 ∧ T8.idxOf ((x + 280 : Nat) : Int) = 144 + x := by decide +kernel
theorem x5 : ∀ x, x < 32 → fdx.getD x 0 = 5 ∧ T5.idxOf (x : Int) = x := by decide +kernel
theorem wof_flx {x : Nat} (h : x < 288) : 0 < flx.getD x 0 ∧ wof flx x = txt (lw x).1 (lw x).2 := by
  unfold wof pl lw
  rw [flx_len]
  by_cases h1 : x < 144
  · have e := x8 x h1
    rw [e.1, if_pos h1, show (8 : Int).toNat = 8 from rfl, t8, e.2, fw_flx.2.1]
    exact ⟨by omega, rfl⟩
  · by_cases h2 : x < 256
    · obtain ⟨y, rfl⟩ : ∃ y, x = y + 144 := ⟨x - 144, by omega⟩
      have e := x9 y (by omega)
      rw [e.1, if_neg h1, if_pos h2, show (9 : Int).toNat = 9 from rfl, t9, e.2, fw_flx.2.2]
      exact ⟨by omega, by rw [show 400 + (y + 144) - 144 = 400 + y from by omega]⟩
    · by_cases h3 : x < 280
      · obtain ⟨y, rfl⟩ : ∃ y, x = y + 256 := ⟨x - 256, by omega⟩
        have e := x7 y (by omega)
        rw [e.1, if_neg h1, if_neg h2, if_pos h3, show (7 : Int).toNat = 7 from rfl, t7, e.2, fw_flx.1]
        exact ⟨by omega, by rw [Nat.zero_add, Nat.add_sub_cancel]⟩
      · obtain ⟨y, rfl⟩ : ∃ y, x = y + 280 := ⟨x - 280, by omega⟩
        have e := xh y (by omega)
        rw [e.1, if_neg h1, if_neg h2, if_neg h3, show (8 : Int).toNat = 8 from rfl, t8, e.2, fw_flx.2.1]
        exact ⟨by omega, by rw [show 48 + (144 + y) = 192 + (y + 280) - 280 from by omega]⟩
theorem wof_fdx {x : Nat} (h : x < 32) : 0 < fdx.getD x 0 ∧ wof fdx x = txt x 5 := by
  unfold wof pl
  have e := x5 x h
  rw [fdx_len, e.1, show (5 : Int).toNat = 5 from rfl, t5, e.2, fw_fdx, Nat.zero_add]
  exact ⟨by omega, rfl⟩
theorem wt_flx {x : Nat} (h : x < 288) : wt flx 16 0 x = txt (lw x).1 (lw x).2 := by
  rw [wt_end okL_flx x (by rw [flx_len]; exact h), if_pos (wof_flx h).1, (wof_flx h).2]
theorem wt_fdx {x : Nat} (h : x < 32) : wt fdx 16 0 x = txt x 5 := by
  rw [wt_end okL_fdx x (by rw [fdx_len]; exact h), if_pos (wof_fdx h).1, (wof_fdx h).2]
end Go.Proofs.Ytachikilcfdngaa
