/- What inflate's tree says of letters in the fixed code, plainly. -/
import Derived.Test.YtnfdojdppifmoaaDoorInfStPlain
import Derived.Test.YtnfdojdppifmoaaDoorInfFixed
import Derived.Test.YtnfdojdppifmoaaDoorPrefKraft
namespace Go.Proofs.YtnfdojdppifmoaaDoor
open Go.RowKit PrefPlain BitsPlain InfPlain StPlain
set_option linter.unusedVariables false

namespace FixPlain
/-- the symbols of each length -/
def S7 : List Int := (List.range 24).map fun i => ((i + 256 : Nat) : Int)
def S8 : List Int := ((List.range 144) ++ (List.range 8).map (· + 280)).map fun (i : Nat) => (i : Int)
def S9 : List Int := (List.range 112).map fun i => ((i + 144 : Nat) : Int)
theorem len_fix : fixL.length = 288 := by decide +kernel
theorem sy7 : sy fixL 288 7 = S7 := by decide +kernel
theorem sy8 : sy fixL 288 8 = S8 := by decide +kernel
theorem sy9 : sy fixL 288 9 = S9 := by decide +kernel
theorem fw_fix : fw (cn fixL) 7 = 0 ∧ fw (cn fixL) 8 = 48 ∧ fw (cn fixL) 9 = 400 := by decide +kernel
theorem fits_fix : fitsB (cn fixL) (mo fixL fixL.length) = true := by decide +kernel
theorem at8 : ∀ x, x < 144 → fixL.getD x 0 = 8 ∧ S8.idxOf (x : Int) = x := by decide +kernel
theorem at9 : ∀ x, x < 112 → fixL.getD (x + 144) 0 = 9 ∧ S9.idxOf ((x + 144 : Nat) : Int) = x := by decide +kernel
theorem at7 : fixL.getD 256 0 = 7 ∧ S7.idxOf 256 = 0 := by decide +kernel
theorem pl8 {x : Nat} (h : x < 144) : fw (cn fixL) 8 + pl fixL x = 48 + x := by
  unfold pl; rw [(at8 x h).1, len_fix, show (8 : Int).toNat = 8 from rfl, sy8, (at8 x h).2, fw_fix.2.1]
theorem pl9 {x : Nat} (h : 144 ≤ x) (h2 : x < 256) : fw (cn fixL) 9 + pl fixL x = 256 + x := by
  obtain ⟨y, rfl⟩ : ∃ y, x = y + 144 := ⟨x - 144, by omega⟩
  unfold pl; rw [(at9 y (by omega)).1, len_fix, show (9 : Int).toNat = 9 from rfl, sy9, (at9 y (by omega)).2, fw_fix.2.2]; omega
theorem pl7 : fw (cn fixL) 7 + pl fixL 256 = 0 := by
  unfold pl; rw [at7.1, len_fix, show (7 : Int).toNat = 7 from rfl, sy7, show ((256 : Nat) : Int) = 256 from rfl, at7.2, fw_fix.1]

/-- a letter's word -/
def cw (x : Nat) : List Nat := if x < 144 then codeOf (48 + x) 8 8 else codeOf (256 + x) 9 9
def cws (xs : List Nat) : List Nat := xs.flatMap cw
theorem cws_snoc (xs : List Nat) (x : Nat) : cws (xs ++ [x]) = cws xs ++ cw x := by simp [cws]
theorem cw_len (x : Nat) : (cw x).length = if x < 144 then 8 else 9 := by unfold cw; split <;> simp [codeOf_length]
theorem cw_bin (x : Nat) : Bin (cw x) := by unfold cw; split <;> exact codeOf_bin _ _ _
theorem cws_bin (xs : List Nat) : Bin (cws xs) := by
  intro y hy
  simp only [cws, List.mem_flatMap] at hy
  obtain ⟨x, _, hx⟩ := hy
  exact cw_bin x y hx
theorem cws_len : ∀ xs : List Nat, (cws xs).length ≤ 9 * xs.length
  | [] => by simp [cws]
  | x :: r => by
    have ih := cws_len r
    have h := cw_len x
    have h9 : (cw x).length ≤ 9 := by rw [h]; split <;> omega
    simp only [cws, List.flatMap_cons, List.length_append, List.length_cons] at ih ⊢
    omega
/-- a code of n bits that stands at a place -/
theorem code_at {l pre post : List Nat} {V n : Nat} (hb : Bin l) (hl : l = pre ++ codeOf V n n ++ post) {i : Nat} (hi : i < n) : bitAt (pack l) (pre.length + i) = V / 2 ^ (n - 1 - i) % 2 := by
  rw [bitAt_pack hb, hl, List.append_assoc, List.getD_eq_getElem?_getD, List.getElem?_append_right (by omega), Nat.add_sub_cancel_left, List.getElem?_append_left (by rw [codeOf_length]; exact hi)]
  simp [codeOf, hi]
theorem code_left {l pre post : List Nat} {V n : Nat} (hl : l = pre ++ codeOf V n n ++ post) : pre.length + n ≤ 8 * (pack l).length := by
  rw [pack_length, hl, List.length_append, List.length_append, codeOf_length]; omega
theorem rn_letter {l pre post : List Nat} {x : Nat} (hx : x < 256) (hb : Bin l) (hl : l = pre ++ cw x ++ post) : rn fixL (pack l) pre.length = ((x : Int), 0, (cw x).length) := by
  by_cases h : x < 144
  · have hc : cw x = codeOf (48 + x) 8 8 := by unfold cw; rw [if_pos h]
    rw [hc] at hl ⊢
    rw [codeOf_length]
    exact rn_word fits_fix (by omega) (by omega) (by rw [len_fix]; omega) (at8 x h).1 (code_left hl) (fun i hi => by rw [pl8 h]; exact code_at hb hl hi)
  · have hc : cw x = codeOf (256 + x) 9 9 := by unfold cw; rw [if_neg h]
    rw [hc] at hl ⊢
    rw [codeOf_length]
    have h9 := (at9 (x - 144) (by omega)).1
    rw [show x - 144 + 144 = x from by omega] at h9
    exact rn_word fits_fix (by omega) (by omega) (by rw [len_fix]; omega) h9 (code_left hl) (fun i hi => by rw [pl9 (by omega) hx]; exact code_at hb hl hi)
theorem rn_last {l pre post : List Nat} (hb : Bin l) (hl : l = pre ++ codeOf 0 7 7 ++ post) : rn fixL (pack l) pre.length = (((256 : Nat) : Int), 0, 7) :=
  rn_word (n := 7) fits_fix (by omega) (by omega) (by rw [len_fix]; omega) at7.1 (code_left hl) (fun i hi => by rw [pl7]; exact code_at hb hl hi)

/-- all that is written -/
def fixAll (xs : List Nat) : List Nat := bitsOf 3 3 ++ cws xs ++ codeOf 0 7 7
theorem fixAll_bin (xs : List Nat) : Bin (fixAll xs) := ((bitsOf_bin 3 3).app (cws_bin xs)).app (codeOf_bin _ _ _)
theorem fixAll_len (xs : List Nat) : (fixAll xs).length = 3 + (cws xs).length + 7 := by simp [fixAll, bitsOf_length, codeOf_length]; omega
theorem run_fix (D : List Int) (most : Nat) (all : List Nat) (hb : ∀ x ∈ all, x < 256) (hm : all.length ≤ most) : ∀ (todo done : List Nat) (g : Nat), all = done ++ todo → todo.length < g →
    run (pack (fixAll all)) most (symR fixL D g) (3 + (cws done).length) done = .ok ((), 3 + (cws all).length + 7, all)
  | todo, done, 0, _, hg => by omega
  | [], done, g + 1, hall, hg => by
    rw [List.append_nil] at hall
    subst hall
    have hr := rn_last (pre := bitsOf 3 3 ++ cws all) (post := []) (fixAll_bin all) (by rw [List.append_nil]; rfl)
    rw [List.length_append, bitsOf_length] at hr
    have hle : 3 + (cws all).length ≤ 8 * (pack (fixAll all)).length := by rw [pack_length, fixAll_len]; omega
    rw [sym_2 hle (by rw [hr]) (by rw [hr]; rfl), hr]
  | x :: todo, done, g + 1, hall, hg => by
    have hl : fixAll all = (bitsOf 3 3 ++ cws done) ++ cw x ++ (cws todo ++ codeOf 0 7 7) := by
      unfold fixAll
      rw [hall]
      simp [cws]
    have hx : x < 256 := hb x (by rw [hall]; simp)
    have hr := rn_letter hx (fixAll_bin all) hl
    rw [List.length_append, bitsOf_length] at hr
    have hle : 3 + (cws done).length ≤ 8 * (pack (fixAll all)).length := by rw [pack_length, hl]; simp only [List.length_append, bitsOf_length]; omega
    have hdl : done.length + 1 ≤ most := by rw [hall] at hm; simp at hm; omega
    rw [sym_3 hle (by rw [hr]) (by rw [hr]; show (x : Int) < 256; omega), hr]
    show SymThen _ _ _ _ _ (run _ _ (.put (Int.toNat (x : Int)) _) _ _) = _
    rw [Int.toNat_natCast, run, if_neg (by omega)]
    show run (pack (fixAll all)) most (symR fixL D g) (3 + (cws done).length + (cw x).length) (done ++ [x]) = _
    have e : 3 + (cws done).length + (cw x).length = 3 + (cws (done ++ [x])).length := by rw [cws_snoc, List.length_append]; omega
    rw [e]
    exact run_fix D most all hb hm todo (done ++ [x]) g (by rw [hall]; simp) (by simp at hg; omega)
theorem inf_fix (xs : List Nat) (hb : ∀ x ∈ xs, x < 256) (most : Nat) (hm : xs.length ≤ most) (F : Nat) (hF : xs.length < F) : inf F (pack (fixAll xs)) most = (xs, (pack (fixAll xs)).length, 0) := by
  have hlen := fixAll_len xs
  have hp : 3 ≤ 8 * (pack (fixAll xs)).length := by rw [pack_length]; omega
  have hbit : ∀ i, i < 3 → bitAt (pack (fixAll xs)) i = (bitsOf 3 3).getD i 0 := fun i hi => by
    rw [bitAt_pack (fixAll_bin xs)]
    unfold fixAll
    rw [List.append_assoc, List.getD_eq_getElem?_getD, List.getElem?_append_left (by rw [bitsOf_length]; exact hi), ← List.getD_eq_getElem?_getD]
  have n1 : num (pack (fixAll xs)) 0 1 = 1 := by rw [num_one, hbit 0 (by omega)]; rfl
  have n2 : num (pack (fixAll xs)) (0 + 1) 2 = 1 := by
    have b1 : bitAt (pack (fixAll xs)) (0 + 1 + 0) = 1 := hbit 1 (by omega)
    have b2 : bitAt (pack (fixAll xs)) (0 + 1 + 1) = 0 := hbit 2 (by omega)
    simp only [num, b1, b2]
  obtain ⟨G, rfl⟩ : ∃ G, F = G + 1 := ⟨F - 1, by omega⟩
  have hs := run_fix fixD most xs hb hm xs [] (G + 1) rfl (by omega)
  have h : run (pack (fixAll xs)) most (infR (G + 1) (G + 1)) 0 [] = .ok ((), 3 + (cws xs).length + 7, xs) := by
    rw [inf_step, blk_3 (by omega), n1, n2, if_neg (by decide), if_neg (by decide), if_pos rfl]
    rw [show 3 + (cws ([] : List Nat)).length = 0 + 1 + 2 from rfl] at hs
    rw [hs]
    rfl
  rw [inf_is_ok h, pack_length, hlen]
end FixPlain
end Go.Proofs.YtnfdojdppifmoaaDoor
