/- Layer 6's fixed fact, walked. -/
import Derived.Test.YtnfdojdppifmoaaDoorInfInflate
namespace Go.Proofs.YtnfdojdppifmoaaDoor
open Go.RowKit PrefPlain BitsPlain InfPlain
set_option linter.unusedVariables false

theorem inf_lives : inf 25 [75, 4, 0] 9 = ([97], 3, 0) := by decide +kernel
theorem bs_a : bs [97] = { data := #[97] } := by decide +kernel

theorem Ordr.below {w w' : World} (h : Ordr w) (hb : Below w.heap.size w w') : Ordr w' := fun r hr => (hb.cell (p := ⟨0, r, none⟩) h.pos).trans (h r hr)
/-- what came out, as a slice of bytes -/
theorem InfOut.at {F : Nat} {xs : List Nat} {most : Nat} {w w' : World} {e : Ending} (h : InfOut F xs most w e w') (hm : (inf F xs most).1.length ≤ 140737488351232) :
    ∃ a c, e = .returned (.tuple #[.slice a (inf F xs most).1.length c, .int .i64 (((inf F xs most).2.1 : Nat) : Int), .int .i64 (((inf F xs most).2.2 : Nat) : Int)]) ∧ BytesAt w' a (inf F xs most).1.length c (inf F xs most).1 ∧ Below w.heap.size w w' := by
  obtain ⟨v, rfl, ho, hby, hb⟩ := h
  obtain ⟨a, c, rfl, hba, _⟩ := BytesAt.ofOwn ho hby hm
  exact ⟨a, c, rfl, hba, hb⟩

theorem InfOut.at2 {F : Nat} {xs X : List Nat} {most N E lx : Nat} {w w' : World} {e : Ending} (h : InfOut F xs most w e w') (he : inf F xs most = (X, N, E)) (hl : X.length = lx) (hm : lx ≤ 100000) :
    ∃ a c, e = .returned (.tuple #[.slice a lx c, .int .i64 (N : Int), .int .i64 (E : Int)]) ∧ BytesAt w' a lx c X ∧ Below w.heap.size w w' := by
  obtain ⟨a, c, rfl, hba, hb⟩ := h.at (by rw [he, show (X, N, E).1.length = lx from hl]; omega)
  rw [he] at hba ⊢
  subst hl
  exact ⟨a, c, rfl, hba, hb⟩
/-- what is told of any bytes, with a limit -/
theorem inf_all (F : Nat) (xs : List Nat) (most : Nat) : ∃ X N E lx, inf F xs most = (X, N, E) ∧ X.length = lx ∧ lx ≤ most ∧ (E ≠ 0 → X = [] ∧ N = 0) ∧
    (E = 0 → 1 ≤ N ∧ N ≤ xs.length ∧ (∀ more, inf F (xs.take N ++ more) most = (X, N, 0)) ∧ inf F (xs.take (N - 1)) most = ([], 0, 3) ∧ (∀ m, lx ≤ m → inf F xs m = (X, N, 0)) ∧ (∀ m, m < lx → inf F xs m = ([], 0, 5))) := by
  have hno := @inf_no F xs most
  have hbe := @inf_behind F xs most
  have hli := @inf_limits F xs most
  have hlr : (inf F xs most).1.length ≤ most := by
    by_cases h0 : (inf F xs most).2.2 = 0
    · obtain ⟨q, r, hr, he⟩ := inf_ok h0
      rw [he]
      exact (run_end _ (by omega) (by simp) hr).2
    · rw [(hno h0).1]; simp
  cases hr : inf F xs most with
  | mk X NE =>
    obtain ⟨N, E⟩ := NE
    rw [hr] at hno hbe hli hlr
    refine ⟨X, N, E, _, rfl, rfl, hlr, hno, fun h0 => ?_⟩
    subst h0
    obtain ⟨h1, h2, h3, h4⟩ := hbe rfl
    obtain ⟨h5, h6⟩ := hli rfl
    exact ⟨h1, h2, h3, h4, h5, h6⟩

set_option maxRecDepth 100000 in
set_option maxHeartbeats 2000000 in
theorem lives6_any {w : World} (hO : Ordr w) :
    Calls Tryd.prog 6 #[] w fun e w' => e = .returned (.bool true) ∧ Below w.heap.size w w' := by
  have hlit := BytesAt.lit w #[.int .u8 75, .int .u8 4, .int .u8 0] [75, 4, 0] rfl (by decide) (by decide) (by decide)
  have hb1 : Below w.heap.size w (w.alloc (.cells #[.int .u8 75, .int .u8 4, .int .u8 0] 5)) := (Below.refl _ _).alloc (Nat.le_refl _) _
  have hin := inflate_any hlit (hO.below hb1) 25 9 (by decide) (by omega) (by decide)
  have HIN := Lib.hid hin
  have HB1 := Lib.hid hb1
  clear hlit hb1 hin hO
  go_enter Tryd.func6, Tryd.ntmps6
  go_wp2_with fail
  refine HIN.out.mono ?_
  intro e w2 hout
  obtain ⟨a, c, rfl, hba, hb2⟩ := hout.at (by rw [inf_lives]; decide)
  rw [inf_lives] at hba ⊢
  have hcv := hba.conv
  rw [bs_a] at hcv
  have HB2 := Lib.hid (HB1.out.trans (hb2.mono HB1.out.size))
  have hcv2 : (convert 22 9 (.slice a 1 c)).run Tryd.prog w2 = .ok (.string { data := #[97] }) w2 := hcv
  clear hba hb2 hcv hout
  go_wp2_with fail
  go_ret
  exact ⟨rfl, HB2.out⟩
end Go.Proofs.YtnfdojdppifmoaaDoor
