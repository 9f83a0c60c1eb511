/- Texts put together by packtpl2.py: MfN, MfP, ApP, ApR, ApSq, ApSe, ApCo, ApMv. -/
import Derived.Test.YtadfmenlpnibnaaGreatPkMS2
import Derived.Test.YtadfmenlpnibnaaGreatPkMS3
import Derived.Carry
import Derived.RangeFuncBox
import Derived.RangeFuncLeaves
import Derived.RangeFuncFrom
import Derived.Shelf.Abstract
import Derived.WalkKit
import Derived.OwnWalkIn
import Derived.TacticsInMore
import Derived.LoopNIn
import Derived.LoopIn
import Derived.Maps.AppendAt
import Derived.RangeFuncNested
import Derived.Sort.MapsRangeIn
section PkMS4_0
/- Manifests: which entries are right, and which manifests. Written by genmfn.py. -/
namespace Go.Proofs.YtadfmenlpnibnaaGreat
open Go.RowKit LabPlain
set_option linter.unusedVariables false

def ParIs (z : Int) (e : Ending) : Prop := ∃ a n c, e = .returned (.tuple #[.slice a n c, .int .i64 z])
/-- is it an entry? (pk: its part is one) -/
def entB (x : EntV) (pk : Bool) : Bool := keyB x.key && (withinB x.win 0 1099511627775 && (pk && (decide (0 ≤ x.fst) && (decide (x.fst ≤ x.lst) && (decide (x.lst < 1099511627776) && (withinB x.rows 1 2048 && (withinB x.size 1 262144 && withinB x.born 0 1099511627775)))))))

set_option maxRecDepth 100000 in
set_option maxHeartbeats 4000000 in
theorem rightEntry_any {w : World} (pf : ByteArray → Int) (x0 : ByteArray) (x1 : Int) (x2 : ByteArray) (x3 x4 x5 x6 x7 x8 : Int) (h0 : x0.size ≤ 140737488355328) (hP : ∀ (W : World), Below w.heap.size w W → Calls Tryz.prog 68 #[.string x2] W fun e w' => ParIs (pf x2) e ∧ Below W.heap.size W w') :
    Calls Tryz.prog 43 #[.agg #[.string x0, .int .i64 x1, .string x2, .int .i64 x3, .int .i64 x4, .int .i64 x5, .int .i64 x6, .int .u32 x7, .int .i64 x8]] w fun e w' => e = .returned (.bool (entB ⟨x0, x1, x2, x3, x4, x5, x6, x7, x8⟩ (pf x2 == 0))) ∧ Below w.heap.size w w' := by
  obtain ⟨wa, hwa⟩ : ∃ wa, wa = w.alloc (.cells #[.string x0, .int .i64 x1, .string x2, .int .i64 x3, .int .i64 x4, .int .i64 x5, .int .i64 x6, .int .u32 x7, .int .i64 x8] 42) := ⟨_, rfl⟩
  have ba : Below w.heap.size w wa := by rw [hwa]; exact (Below.refl _ _).alloc (Nat.le_refl _) _
  have ga : wa.heap[w.heap.size]? = some (.cells #[.string x0, .int .i64 x1, .string x2, .int .i64 x3, .int .i64 x4, .int .i64 x5, .int .i64 x6, .int .u32 x7, .int .i64 x8] 42 (0, 0)) := by rw [hwa]; exact heap_alloc_new _ _
  have HPA := Lib.hid (hP wa ba)
  have HBA := Lib.hid ba
  have HGA := Lib.hid ga
  have HWA := Lib.hid hwa
  obtain ⟨zp, hzp⟩ : ∃ zp, zp = pf x2 := ⟨_, rfl⟩
  obtain ⟨b0, hb0⟩ : ∃ b, b = keyB x0 := ⟨_, rfl⟩
  have HK := Lib.hid (show ∀ W, Calls Tryz.prog 54 #[.string x0] W fun e w' => e = .returned (.bool b0) ∧ w' = W from fun W => by rw [hb0]; exact iskey_any x0 (by omega) W)
  obtain ⟨b1, hb1⟩ : ∃ b, b = withinB x1 0 1099511627775 := ⟨_, rfl⟩
  have HW1 := Lib.hid (show ∀ W, Calls Tryz.prog 41 #[.int .i64 x1, .int .i64 0, .int .i64 1099511627775] W fun e w' => e = .returned (.bool b1) ∧ w' = W from fun W => by rw [hb1]; exact within_any _ _ _ W)
  obtain ⟨b2, hb2⟩ : ∃ b, b = (zp == 0) := ⟨_, rfl⟩
  obtain ⟨b3, hb3⟩ : ∃ b, b = (decide (0 ≤ x3)) := ⟨_, rfl⟩
  obtain ⟨b4, hb4⟩ : ∃ b, b = (decide (x3 ≤ x4)) := ⟨_, rfl⟩
  obtain ⟨b5, hb5⟩ : ∃ b, b = (decide (x4 < 1099511627776)) := ⟨_, rfl⟩
  obtain ⟨b6, hb6⟩ : ∃ b, b = withinB x5 1 2048 := ⟨_, rfl⟩
  have HW6 := Lib.hid (show ∀ W, Calls Tryz.prog 41 #[.int .i64 x5, .int .i64 1, .int .i64 2048] W fun e w' => e = .returned (.bool b6) ∧ w' = W from fun W => by rw [hb6]; exact within_any _ _ _ W)
  obtain ⟨b7, hb7⟩ : ∃ b, b = withinB x6 1 262144 := ⟨_, rfl⟩
  have HW7 := Lib.hid (show ∀ W, Calls Tryz.prog 41 #[.int .i64 x6, .int .i64 1, .int .i64 262144] W fun e w' => e = .returned (.bool b7) ∧ w' = W from fun W => by rw [hb7]; exact within_any _ _ _ W)
  obtain ⟨b8, hb8⟩ : ∃ b, b = withinB x8 0 1099511627775 := ⟨_, rfl⟩
  have HW8 := Lib.hid (show ∀ W, Calls Tryz.prog 41 #[.int .i64 x8, .int .i64 0, .int .i64 1099511627775] W fun e w' => e = .returned (.bool b8) ∧ w' = W from fun W => by rw [hb8]; exact within_any _ _ _ W)
  have HV := Lib.hid (show entB ⟨x0, x1, x2, x3, x4, x5, x6, x7, x8⟩ (pf x2 == 0) = (b0 && (b1 && (b2 && (b3 && (b4 && (b5 && (b6 && (b7 && b8)))))))) from by rw [hb0, hb1, hb2, hb3, hb4, hb5, hb6, hb7, hb8, hzp]; rfl)
  rw [← hzp] at HPA
  have g2 := hb2.symm
  have g3 := hb3.symm
  have g4 := hb4.symm
  have g5 := hb5.symm
  have G2 := Lib.hid g2
  have G3 := Lib.hid g3
  have G4 := Lib.hid g4
  have G5 := Lib.hid g5
  clear hwa ba ga hzp hb0 hb1 hb2 hb3 hb4 hb5 hb6 hb7 hb8 h0 hP g2 g3 g4 g5
  go_enter Tryz.func43, Tryz.ntmps43
  have a2 : wa.cell? ⟨w.heap.size, 2, none⟩ = some (.string x2) := cell_blk HGA.out rfl
  go_wp2_with fail
  rw [← HWA.out]
  refine HPA.out.mono ?_
  rintro e w1 ⟨⟨ap, np, cp, rfl⟩, hb⟩
  have HB := Lib.hid (HBA.out.trans (hb.mono HBA.out.size))
  have hg1 := (hb.block w.heap.size (Array.getElem?_eq_some_iff.1 HGA.out).1).trans HGA.out
  have n0 : w1.cell? ⟨w.heap.size, 0, none⟩ = some (.string x0) := cell_blk hg1 rfl
  have n1 : w1.cell? ⟨w.heap.size, 1, none⟩ = some (.int .i64 x1) := cell_blk hg1 rfl
  have n2 : w1.cell? ⟨w.heap.size, 2, none⟩ = some (.string x2) := cell_blk hg1 rfl
  have n3 : w1.cell? ⟨w.heap.size, 3, none⟩ = some (.int .i64 x3) := cell_blk hg1 rfl
  have n4 : w1.cell? ⟨w.heap.size, 4, none⟩ = some (.int .i64 x4) := cell_blk hg1 rfl
  have n5 : w1.cell? ⟨w.heap.size, 5, none⟩ = some (.int .i64 x5) := cell_blk hg1 rfl
  have n6 : w1.cell? ⟨w.heap.size, 6, none⟩ = some (.int .i64 x6) := cell_blk hg1 rfl
  have n7 : w1.cell? ⟨w.heap.size, 7, none⟩ = some (.int .u32 x7) := cell_blk hg1 rfl
  have n8 : w1.cell? ⟨w.heap.size, 8, none⟩ = some (.int .i64 x8) := cell_blk hg1 rfl
  clear hb hg1 a2
  go_wp2_with fail
  refine (HK.out _).mono ?_
  rintro e w2 ⟨rfl, rfl⟩
  cases b0 with
  | false =>
    go_wp2_with fail
    go_ret
    exact ⟨by rw [HV.out]; rfl, HB.out⟩
  | true =>
    go_wp2_with fail
    refine (HW1.out _).mono ?_
    rintro e w2 ⟨rfl, rfl⟩
    cases b1 with
    | false =>
      go_wp2_with fail
      go_ret
      exact ⟨by rw [HV.out]; rfl, HB.out⟩
    | true =>
      cases b2 with
      | false =>
        have g2 := G2.out
        go_wp2_with fail
        go_ret
        exact ⟨by rw [HV.out]; rfl, HB.out⟩
      | true =>
        have g2 := G2.out
        cases b3 with
        | false =>
          have g3 := G3.out
          go_wp2_with fail
          go_ret
          exact ⟨by rw [HV.out]; rfl, HB.out⟩
        | true =>
          have g3 := G3.out
          cases b4 with
          | false =>
            have g4 := G4.out
            go_wp2_with fail
            go_ret
            exact ⟨by rw [HV.out]; rfl, HB.out⟩
          | true =>
            have g4 := G4.out
            cases b5 with
            | false =>
              have g5 := G5.out
              go_wp2_with fail
              go_ret
              exact ⟨by rw [HV.out]; rfl, HB.out⟩
            | true =>
              have g5 := G5.out
              go_wp2_with fail
              refine (HW6.out _).mono ?_
              rintro e w2 ⟨rfl, rfl⟩
              cases b6 with
              | false =>
                go_wp2_with fail
                go_ret
                exact ⟨by rw [HV.out]; rfl, HB.out⟩
              | true =>
                go_wp2_with fail
                refine (HW7.out _).mono ?_
                rintro e w2 ⟨rfl, rfl⟩
                cases b7 with
                | false =>
                  go_wp2_with fail
                  go_ret
                  exact ⟨by rw [HV.out]; rfl, HB.out⟩
                | true =>
                  go_wp2_with fail
                  refine (HW8.out _).mono ?_
                  rintro e w2 ⟨rfl, rfl⟩
                  cases b8 with
                  | false =>
                    go_wp2_with fail
                    go_ret
                    exact ⟨by rw [HV.out]; rfl, HB.out⟩
                  | true =>
                    go_wp2_with fail
                    go_ret
                    exact ⟨by rw [HV.out]; rfl, HB.out⟩

/-- does an entry stay? -/
def stayB (pf : ByteArray → Int) (cut : Int) (x : EntV) : Bool := entB x (pf x.part == 0) && decide (cut ≤ x.win)
set_option maxRecDepth 100000 in
set_option maxHeartbeats 4000000 in
theorem stays_any {w : World} (pf : ByteArray → Int) {mb : Nat} {cut : Int} (hmb : mb < w.heap.size) (hc : w.cell? ⟨mb, 1, none⟩ = some (.int .i64 cut)) (x0 : ByteArray) (x1 : Int) (x2 : ByteArray) (x3 x4 x5 x6 x7 x8 : Int) (h0 : x0.size ≤ 140737488355328) (hP : ∀ (W : World), Below w.heap.size w W → Calls Tryz.prog 68 #[.string x2] W fun e w' => ParIs (pf x2) e ∧ Below W.heap.size W w') :
    Calls Tryz.prog 42 #[.agg #[.string x0, .int .i64 x1, .string x2, .int .i64 x3, .int .i64 x4, .int .i64 x5, .int .i64 x6, .int .u32 x7, .int .i64 x8], .pointer (some ⟨mb, 0, none⟩)] w fun e w' => e = .returned (.bool (stayB pf cut ⟨x0, x1, x2, x3, x4, x5, x6, x7, x8⟩)) ∧ Below w.heap.size w w' := by
  obtain ⟨wa, hwa⟩ : ∃ wa, wa = w.alloc (.cells #[.string x0, .int .i64 x1, .string x2, .int .i64 x3, .int .i64 x4, .int .i64 x5, .int .i64 x6, .int .u32 x7, .int .i64 x8] 42) := ⟨_, rfl⟩
  have ba : Below w.heap.size w wa := by rw [hwa]; exact (Below.refl _ _).alloc (Nat.le_refl _) _
  have ga : wa.heap[w.heap.size]? = some (.cells #[.string x0, .int .i64 x1, .string x2, .int .i64 x3, .int .i64 x4, .int .i64 x5, .int .i64 x6, .int .u32 x7, .int .i64 x8] 42 (0, 0)) := by rw [hwa]; exact heap_alloc_new _ _
  obtain ⟨b0, hb0⟩ : ∃ b, b = entB ⟨x0, x1, x2, x3, x4, x5, x6, x7, x8⟩ (pf x2 == 0) := ⟨_, rfl⟩
  obtain ⟨b1, hb1⟩ : ∃ b, b = decide (cut ≤ x1) := ⟨_, rfl⟩
  have HRE := Lib.hid (rightEntry_any (w := wa) pf x0 x1 x2 x3 x4 x5 x6 x7 x8 h0 (fun W hB => hP W (ba.trans (hB.mono ba.size))))
  rw [← hb0] at HRE
  have HV := Lib.hid (show stayB pf cut ⟨x0, x1, x2, x3, x4, x5, x6, x7, x8⟩ = (b0 && b1) from by rw [hb0, hb1]; rfl)
  have HBA := Lib.hid ba
  have HGA := Lib.hid ga
  have HWA := Lib.hid hwa
  have HMB := Lib.hid hmb
  have HC := Lib.hid hc
  have G1 := Lib.hid hb1.symm
  clear hwa ba ga hb0 hb1 h0 hP hmb hc
  go_enter Tryz.func42, Tryz.ntmps42
  go_wp2_with fail
  rw [← HWA.out]
  refine HRE.out.mono ?_
  rintro e w1 ⟨rfl, hb⟩
  have HB := Lib.hid (HBA.out.trans (hb.mono HBA.out.size))
  have hg1 := (hb.block w.heap.size (Array.getElem?_eq_some_iff.1 HGA.out).1).trans HGA.out
  have n1 : w1.cell? ⟨w.heap.size, 1, none⟩ = some (.int .i64 x1) := cell_blk hg1 rfl
  have q1 : w1.cell? ⟨mb, 1, none⟩ = some (.int .i64 cut) := (HB.out.cell (p := ⟨mb, 1, none⟩) HMB.out).trans HC.out
  clear hb hg1
  cases b0 with
  | false =>
    go_wp2_with fail
    go_ret
    exact ⟨by rw [HV.out]; rfl, HB.out⟩
  | true =>
    cases b1 with
    | false =>
      have g1 := G1.out
      go_wp2_with fail
      go_ret
      exact ⟨by rw [HV.out]; rfl, HB.out⟩
    | true =>
      have g1 := G1.out
      go_wp2_with fail
      go_ret
      exact ⟨by rw [HV.out]; rfl, HB.out⟩

end Go.Proofs.YtadfmenlpnibnaaGreat
end PkMS4_0
section PkMS4_1
/- Manifests: which are right: package manifest's Right, walked. Written by genmfp.py. -/
namespace Go.Proofs.YtadfmenlpnibnaaGreat
open Go.RowKit LabPlain
set_option linter.unusedVariables false

/-- what makes a manifest right -/
def IsMan (pf : ByteArray → Int) (s d hz : Int) (en : Nat) (le : List EntV) (mn : Nat) (lm : List (Int × Int)) (on : Nat) (lo : List (Int × Int × Int)) : Prop := ((withinB s 0 1099511627775 && (withinB d 0 1099511627775 && withinB hz 0 1099511627775)) = true ∧ en ≤ 256 ∧ RisOk (stayB pf d) (fun a b => cmpS a.key b.key) EntS.z le en ∧ RisOk isMarkB (fun a b => cmp3 a.1 b.1) MarkS.z lm mn ∧ RisOk isOwnB (fun a b => cmp3 a.1 b.1) OwnS.z lo on)
def ManIs (pf : ByteArray → Int) (s d hz : Int) (en : Nat) (le : List EntV) (mn : Nat) (lm : List (Int × Int)) (on : Nat) (lo : List (Int × Int × Int)) (e : Ending) : Prop := ∃ b : Bool, e = .returned (.bool b) ∧ (b = true ↔ IsMan pf s d hz en le mn lm on lo)
theorem ManIs.no {pf : ByteArray → Int} {s d hz : Int} {en : Nat} {le : List EntV} {mn : Nat} {lm : List (Int × Int)} {on : Nat} {lo : List (Int × Int × Int)} (h : ¬ IsMan pf s d hz en le mn lm on lo) : ManIs pf s d hz en le mn lm on lo (.returned (.bool false)) := ⟨false, rfl, ⟨fun e => (by cases e), fun g => absurd g h⟩⟩
theorem ManIs.yes {pf : ByteArray → Int} {s d hz : Int} {en : Nat} {le : List EntV} {mn : Nat} {lm : List (Int × Int)} {on : Nat} {lo : List (Int × Int × Int)} (h : IsMan pf s d hz en le mn lm on lo) : ManIs pf s d hz en le mn lm on lo (.returned (.bool true)) := ⟨true, rfl, ⟨fun _ => h, fun _ => rfl⟩⟩
set_option maxRecDepth 100000 in
set_option maxHeartbeats 4000000 in
theorem mright_any {w : World} (pf : ByteArray → Int)  {s d hz : Int} {ea ma oa : Option Addr} {en ec mn mc on oc : Nat} {le : List EntV} {lm : List (Int × Int)} {lo : List (Int × Int × Int)} (hE : VecAt EntS w ea en ec le) (hM : VecAt MarkS w ma mn mc lm) (hO : VecAt OwnS w oa on oc lo) (hP : ∀ (W : World) (x : EntV), x ∈ le → Below w.heap.size w W → Calls Tryz.prog 68 #[.string x.part] W fun e w' => ParIs (pf x.part) e ∧ Below W.heap.size W w') :
    Calls Tryz.prog 20 #[.agg #[.int .i64 s, .int .i64 d, .int .i64 hz, .slice ea en ec, .slice ma mn mc, .slice oa on oc]] w fun e w' => ManIs pf s d hz en le mn lm on lo e ∧ Below w.heap.size w w' := by
  obtain ⟨wa, hwa⟩ : ∃ wa, wa = w.alloc (.cells #[.int .i64 s, .int .i64 d, .int .i64 hz, .slice ea en ec, .slice ma mn mc, .slice oa on oc] 26) := ⟨_, rfl⟩
  have ba : Below w.heap.size w wa := by rw [hwa]; exact (Below.refl _ _).alloc (Nat.le_refl _) _
  have ga : wa.heap[w.heap.size]? = some (.cells #[.int .i64 s, .int .i64 d, .int .i64 hz, .slice ea en ec, .slice ma mn mc, .slice oa on oc] 26 (0, 0)) := by rw [hwa]; exact heap_alloc_new _ _
  have hla : w.heap.size < wa.heap.size := (Array.getElem?_eq_some_iff.1 ga).1
  obtain ⟨b0, hb0⟩ : ∃ b, b = withinB s 0 1099511627775 := ⟨_, rfl⟩
  obtain ⟨b1, hb1⟩ : ∃ b, b = withinB d 0 1099511627775 := ⟨_, rfl⟩
  obtain ⟨b2, hb2⟩ : ∃ b, b = withinB hz 0 1099511627775 := ⟨_, rfl⟩
  have HW0 := Lib.hid (show ∀ W, Calls Tryz.prog 41 #[.int .i64 s, .int .i64 0, .int .i64 1099511627775] W fun e w' => e = .returned (.bool b0) ∧ w' = W from fun W => by rw [hb0]; exact within_any _ _ _ W)
  have HW1 := Lib.hid (show ∀ W, Calls Tryz.prog 41 #[.int .i64 d, .int .i64 0, .int .i64 1099511627775] W fun e w' => e = .returned (.bool b1) ∧ w' = W from fun W => by rw [hb1]; exact within_any _ _ _ W)
  have HW2 := Lib.hid (show ∀ W, Calls Tryz.prog 41 #[.int .i64 hz, .int .i64 0, .int .i64 1099511627775] W fun e w' => e = .returned (.bool b2) ∧ w' = W from fun W => by rw [hb2]; exact within_any _ _ _ W)
  have HRS := Lib.hid (rising_anyE (w := wa) (hE.kept ba) (mb := w.heap.size) (stayB pf d) (fun W z hz9 hB hok => stays_any (w := W) pf (Nat.lt_of_lt_of_le hla hB.size) ((hB.cell (p := ⟨w.heap.size, 1, none⟩) hla).trans (cell_blk ga rfl)) z.key z.win z.part z.fst z.lst z.rows z.size z.sum z.born hok.1 (fun W2 h2 => hP W2 z hz9 ((ba.trans (hB.mono ba.size)).trans (h2.mono (ba.trans (hB.mono ba.size)).size)))))
  have HV := Lib.hid (show IsMan pf s d hz en le mn lm on lo ↔ ((b0 && (b1 && b2)) = true ∧ en ≤ 256 ∧ RisOk (stayB pf d) (fun a b => cmpS a.key b.key) EntS.z le en ∧ RisOk isMarkB (fun a b => cmp3 a.1 b.1) MarkS.z lm mn ∧ RisOk isOwnB (fun a b => cmp3 a.1 b.1) OwnS.z lo on) from by rw [hb0, hb1, hb2]; exact Iff.rfl)
  have HBA := Lib.hid ba
  have HGA := Lib.hid ga
  have HWA := Lib.hid hwa
  have HM := Lib.hid hM
  have HO := Lib.hid hO
  have a0 : wa.cell? ⟨w.heap.size, 0, none⟩ = some (.int .i64 s) := cell_blk ga rfl
  have a1 : wa.cell? ⟨w.heap.size, 1, none⟩ = some (.int .i64 d) := cell_blk ga rfl
  have a2 : wa.cell? ⟨w.heap.size, 2, none⟩ = some (.int .i64 hz) := cell_blk ga rfl
  have a3 : wa.cell? ⟨w.heap.size, 3, none⟩ = some (.slice ea en ec) := cell_blk ga rfl
  clear hwa ba ga hla hb0 hb1 hb2 hE hM hO hP
  go_enter Tryz.func20, Tryz.ntmps20
  go_wp2_with fail
  rw [← HWA.out]
  refine (HW0.out _).mono ?_
  rintro e w1 ⟨rfl, rfl⟩
  cases b0 with
  | false =>
    go_wp2_with fail
    go_ret
    exact ⟨ManIs.no (fun h => by have := (HV.out.1 h).1; cases this), HBA.out⟩
  | true =>
  go_wp2_with fail
  refine (HW1.out _).mono ?_
  rintro e w1 ⟨rfl, rfl⟩
  cases b1 with
  | false =>
    go_wp2_with fail
    go_ret
    exact ⟨ManIs.no (fun h => by have := (HV.out.1 h).1; cases this), HBA.out⟩
  | true =>
  go_wp2_with fail
  refine (HW2.out _).mono ?_
  rintro e w1 ⟨rfl, rfl⟩
  cases b2 with
  | false =>
    go_wp2_with fail
    go_ret
    exact ⟨ManIs.no (fun h => by have := (HV.out.1 h).1; cases this), HBA.out⟩
  | true =>
  by_cases hen : en ≤ 256
  · have heni : (en : Int) ≤ 256 := by omega
    have HEN := Lib.hid hen
    clear hen
    go_wp2_with fail
    refine HRS.out.mono ?_
    rintro e w2 ⟨⟨r1, rfl, hr1⟩, hb2⟩
    have HR1 := Lib.hid hr1
    have HB2 := Lib.hid (HBA.out.trans (hb2.mono HBA.out.size))
    have HG2 := Lib.hid ((hb2.block w.heap.size (Array.getElem?_eq_some_iff.1 HGA.out).1).trans HGA.out)
    have n4 : w2.cell? ⟨w.heap.size, 4, none⟩ = some (.slice ma mn mc) := cell_blk HG2.out rfl
    have HRM := Lib.hid (rising_anyM (w := w2) (HM.out.kept HB2.out) (mb := 0) isMarkB (fun W z _ _ _ => rightM_any z.1 z.2 W))
    clear hb2 hr1 a0 a1 a2 a3
    cases r1 with
    | false =>
      go_wp2_with fail
      go_ret
      exact ⟨ManIs.no (fun h => by have := HR1.out.2 (HV.out.1 h).2.2.1; cases this), HB2.out⟩
    | true =>
    go_wp2_with fail
    refine HRM.out.mono ?_
    rintro e w3 ⟨⟨r2, rfl, hr2⟩, hb3⟩
    have HR2 := Lib.hid hr2
    have HB3 := Lib.hid (HB2.out.trans (hb3.mono HB2.out.size))
    have HG3 := Lib.hid ((hb3.block w.heap.size (Array.getElem?_eq_some_iff.1 HG2.out).1).trans HG2.out)
    have n5 : w3.cell? ⟨w.heap.size, 5, none⟩ = some (.slice oa on oc) := cell_blk HG3.out rfl
    have HRO := Lib.hid (rising_anyO (w := w3) (HO.out.kept HB3.out) (mb := 0) isOwnB (fun W z _ _ _ => rightO_any z.1 z.2.1 z.2.2 W))
    clear hb3 hr2 n4
    cases r2 with
    | false =>
      go_wp2_with fail
      go_ret
      exact ⟨ManIs.no (fun h => by have := HR2.out.2 (HV.out.1 h).2.2.2.1; cases this), HB3.out⟩
    | true =>
    go_wp2_with fail
    refine HRO.out.mono ?_
    rintro e w4 ⟨⟨r3, rfl, hr3⟩, hb4⟩
    have HR3 := Lib.hid hr3
    have HB4 := Lib.hid (HB3.out.trans (hb4.mono HB3.out.size))
    clear hb4 hr3 n5
    cases r3 with
    | false =>
      go_wp2_with fail
      go_ret
      exact ⟨ManIs.no (fun h => by have := HR3.out.2 (HV.out.1 h).2.2.2.2; cases this), HB4.out⟩
    | true =>
      have HY := Lib.hid (HV.out.2 ⟨rfl, HEN.out, HR1.out.1 (by simp), HR2.out.1 (by simp), HR3.out.1 (by simp)⟩)
      go_wp2_with fail
      go_ret
      exact ⟨ManIs.yes HY.out, HB4.out⟩
  · have heni : (256 : Int) < (en : Int) := by omega
    have HN := Lib.hid (show ¬ IsMan pf s d hz en le mn lm on lo from fun h => hen (HV.out.1 h).2.1)
    clear hen
    go_wp2_with fail
    go_ret
    exact ⟨ManIs.no HN.out, HBA.out⟩
end Go.Proofs.YtadfmenlpnibnaaGreat
end PkMS4_1
section PkMS4_2
/- What an edit makes of a manifest, plainly. -/
namespace Go.Proofs.YtadfmenlpnibnaaGreat
open Go.RowKit LabPlain
set_option linter.unusedVariables false

structure MaV where
  gen : Int
  cut : Int
  fence : Int
  ents : List EntV
  marks : List (Int × Int)
  owns : List (Int × Int × Int)
structure EdV where
  add : List EntV
  drop : List ByteArray
  marks : List (Int × Int)
  cut : Int
  fence : Int
  by' : Int × Int × Int
def ma0 : MaV := ⟨0, 0, 0, [], [], []⟩
def MaV.right (pf : ByteArray → Int) (m : MaV) : Prop := IsMan pf m.gen m.cut m.fence m.ents.length m.ents m.marks.length m.marks m.owns.length m.owns
/-- a producer's mark -/
def markV (l : List (Int × Int)) (k : Int) : Int := ((l.find? fun y => decide (y.1 = k)).getD (0, 0)).2
def ltE (a b : EntV) : Prop := ltB a.key b.key = true
def ltM (a b : Int × Int) : Prop := a.1 < b.1
def ltMS (a b : Int × Int) : Prop := a.1 < b.1 ∨ (a.1 = b.1 ∧ a.2 < b.2)
def ltO (a b : Int × Int × Int) : Prop := a.1 < b.1
/-- is it an edit -/
structure EdV.right (pf : ByteArray → Int) (d : EdV) : Prop where
  add : ∀ x ∈ d.add, entB x (pf x.part == 0) = true
  one : d.add.Pairwise fun a b => a.key ≠ b.key
  drop : ∀ k ∈ d.drop, keyB k = true
  two : d.drop.Pairwise fun a b => a ≠ b
  marks : ∀ x ∈ d.marks, isMarkB x = true
  rise : d.marks.Pairwise ltMS
  cut : withinB d.cut 0 1099511627775 = true
  fence : withinB d.fence 0 1099511627775 = true
  own : isOwnB d.by' = true
def hasE (l : List EntV) (k : ByteArray) : Prop := ∃ x ∈ l, x.key = k
def isVer (m : MaV) (d : EdV) : Prop := ∃ x ∈ m.owns, x.1 = d.by'.1 ∧ (d.by'.2.1 < x.2.1 ∨ (x.2.1 = d.by'.2.1 ∧ d.by'.2.2 ≤ x.2.2))
def isDup (m : MaV) (d : EdV) : Prop := ∃ x ∈ d.marks, x.2 ≤ markV m.marks x.1
def isLost (m : MaV) (d : EdV) : Prop := ∃ k ∈ d.drop, ¬ hasE m.ents k
def isFence (m : MaV) (d : EdV) : Prop := ∃ x ∈ d.add, x.born < m.fence ∨ x.born < d.fence
def isExist (m : MaV) (d : EdV) : Prop := ∃ x ∈ d.add, hasE m.ents x.key ∧ x.key ∉ d.drop
/-- what stays, by key -/
structure EntsOk (m : MaV) (d : EdV) (l : List EntV) : Prop where
  rise : l.Pairwise ltE
  mem : ∀ x, x ∈ l ↔ (x ∈ d.add ∨ (x ∈ m.ents ∧ x.key ∉ d.drop)) ∧ max m.cut d.cut ≤ x.win
/-- a producer's mark behind an edit: the last one's of the edit, if it has one -/
def mark2 (l r : List (Int × Int)) (k : Int) : Int := r.foldl (fun s x => if x.1 = k then x.2 else s) (markV l k)
structure MarksOk (l r o : List (Int × Int)) : Prop where
  rise : o.Pairwise ltM
  mem : ∀ k s, (k, s) ∈ o ↔ s = mark2 l r k ∧ ∃ s', (k, s') ∈ l ∨ (k, s') ∈ r
structure OwnsOk (l : List (Int × Int × Int)) (y : Int × Int × Int) (o : List (Int × Int × Int)) : Prop where
  rise : o.Pairwise ltO
  mem : ∀ x, x ∈ o ↔ (x ∈ l ∧ x.1 ≠ y.1) ∨ x = y
/-- the manifest behind an edit that is made -/
structure ApOk (m : MaV) (d : EdV) (r : MaV) : Prop where
  gen : r.gen = m.gen + 1
  cut : r.cut = max m.cut d.cut
  fence : r.fence = max m.fence d.fence
  ents : EntsOk m d r.ents
  marks : MarksOk m.marks d.marks r.marks
  owns : OwnsOk m.owns d.by' r.owns
/-- why it isn't made; the error's number -/
inductive ApNo (pf : ByteArray → Int) (m : MaV) (d : EdV) : Int → Prop
  | form : ¬ (m.right pf ∧ d.right pf) → ApNo pf m d 4
  | ver : m.right pf → d.right pf → isVer m d → ApNo pf m d 8
  | dup : m.right pf → d.right pf → ¬ isVer m d → isDup m d → ApNo pf m d 12
  | lost : m.right pf → d.right pf → ¬ isVer m d → ¬ isDup m d → isLost m d → ApNo pf m d 17
  | fence : m.right pf → d.right pf → ¬ isVer m d → ¬ isDup m d → ¬ isLost m d → isFence m d → ApNo pf m d 11
  | exist : m.right pf → d.right pf → ¬ isVer m d → ¬ isDup m d → ¬ isLost m d → ¬ isFence m d → isExist m d → ApNo pf m d 18
  | range : m.right pf → d.right pf → ¬ isVer m d → ¬ isDup m d → ¬ isLost m d → ¬ isFence m d → ¬ isExist m d → m.gen = 1099511627775 → ApNo pf m d 2
  | long : m.right pf → d.right pf → ¬ isVer m d → ¬ isDup m d → ¬ isLost m d → ¬ isFence m d → ¬ isExist m d → m.gen ≠ 1099511627775 → (∃ l, EntsOk m d l ∧ 256 < l.length) → ApNo pf m d 5
structure ApYes (pf : ByteArray → Int) (m : MaV) (d : EdV) (r : MaV) : Prop where
  man : m.right pf
  ed : d.right pf
  ver : ¬ isVer m d
  dup : ¬ isDup m d
  lost : ¬ isLost m d
  fence : ¬ isFence m d
  exist : ¬ isExist m d
  range : m.gen ≠ 1099511627775
  few : r.ents.length ≤ 256
  ok : ApOk m d r
/-- what Apply answers: the error, and the manifest -/
def ApIs (pf : ByteArray → Int) (m : MaV) (d : EdV) (er : Int) (r : MaV) : Prop := (er ≠ 0 ∧ ApNo pf m d er ∧ r = ma0) ∨ (er = 0 ∧ ApYes pf m d r)

theorem pw_of_ris {α : Type} {p : α → Bool} {cm : α → α → Int} {d : α} {l : List α} {r : α → α → Prop} (tr : ∀ a b c, r a b → r b c → r a c) (hc : ∀ a b, cm a b < 0 ↔ r a b) : RisOk p cm d l l.length ↔ (∀ x ∈ l, p x = true) ∧ l.Pairwise r := by
  constructor
  · intro h
    refine ⟨fun x hx => ?_, ?_⟩
    · obtain ⟨i, hi, rfl⟩ := List.getElem_of_mem hx
      have := (h i hi).1
      rwa [List.getD_eq_getElem?_getD, List.getElem?_eq_getElem hi] at this
    · rw [List.pairwise_iff_getElem]
      intro i j hi hj hij
      obtain ⟨k, hk⟩ : ∃ k, j = i + 1 + k := ⟨j - (i + 1), by omega⟩
      induction k generalizing j with
      | zero =>
        have h2 := (h j hj).2 (by omega)
        rw [hc] at h2
        have e1 : l.getD (j - 1) d = l[i] := by
          have : j - 1 = i := by omega
          rw [this, List.getD_eq_getElem?_getD, List.getElem?_eq_getElem hi]; rfl
        have e2 : l.getD j d = l[j] := by rw [List.getD_eq_getElem?_getD, List.getElem?_eq_getElem hj]; rfl
        rwa [e1, e2] at h2
      | succ k ih =>
        have h1 := ih (j - 1) (by omega) (by omega) (by omega)
        have h2 := (h j hj).2 (by omega)
        rw [hc] at h2
        have hj1 : j - 1 < l.length := by omega
        have e1 : l.getD (j - 1) d = l[j - 1] := by rw [List.getD_eq_getElem?_getD, List.getElem?_eq_getElem hj1]; rfl
        have e2 : l.getD j d = l[j] := by rw [List.getD_eq_getElem?_getD, List.getElem?_eq_getElem hj]; rfl
        rw [e1, e2] at h2
        exact tr _ _ _ h1 h2
  · rintro ⟨h1, h2⟩ j hj
    have e2 : l.getD j d = l[j] := by rw [List.getD_eq_getElem?_getD, List.getElem?_eq_getElem hj]; rfl
    refine ⟨by rw [e2]; exact h1 _ (List.getElem_mem hj), fun h0 => ?_⟩
    have hj1 : j - 1 < l.length := by omega
    have e1 : l.getD (j - 1) d = l[j - 1] := by rw [List.getD_eq_getElem?_getD, List.getElem?_eq_getElem hj1]; rfl
    rw [e1, e2, hc]
    exact (List.pairwise_iff_getElem.1 h2) _ _ hj1 hj (by omega)
theorem cmpS_neg {x y : ByteArray} : cmpS x y < 0 ↔ ltB x y = true := by
  unfold cmpS
  split
  · rename_i h; simp [h]
  · rename_i h
    split <;> simp [h]
theorem cmp3_neg {x y : Int} : cmp3 x y < 0 ↔ x < y := by
  unfold cmp3
  split
  · rename_i h; simp [h]
  · split <;> (simp; omega)
theorem ltE_trans (a b c : EntV) (h1 : ltE a b) (h2 : ltE b c) : ltE a c := ltB_trans h1 h2
theorem ltM_trans (a b c : Int × Int) (h1 : ltM a b) (h2 : ltM b c) : ltM a c := Int.lt_trans h1 h2
theorem ltO_trans (a b c : Int × Int × Int) (h1 : ltO a b) (h2 : ltO b c) : ltO a c := Int.lt_trans h1 h2
theorem ltMS_trans (a b c : Int × Int) (h1 : ltMS a b) (h2 : ltMS b c) : ltMS a c := by
  unfold ltMS at *; omega
/-- a manifest, by its lists -/
structure MaV.parts (pf : ByteArray → Int) (m : MaV) : Prop where
  gen : withinB m.gen 0 1099511627775 = true
  cut : withinB m.cut 0 1099511627775 = true
  fence : withinB m.fence 0 1099511627775 = true
  few : m.ents.length ≤ 256
  ents : ∀ x ∈ m.ents, entB x (pf x.part == 0) = true ∧ m.cut ≤ x.win
  riseE : m.ents.Pairwise ltE
  marks : ∀ x ∈ m.marks, isMarkB x = true
  riseM : m.marks.Pairwise ltM
  owns : ∀ x ∈ m.owns, isOwnB x = true
  riseO : m.owns.Pairwise ltO
theorem right_parts {pf : ByteArray → Int} {m : MaV} : m.right pf ↔ m.parts pf := by
  have hE := pw_of_ris (p := stayB pf m.cut) (cm := fun a b => cmpS a.key b.key) (d := EntS.z) (l := m.ents) (r := ltE) ltE_trans (fun a b => cmpS_neg)
  have hM := pw_of_ris (p := isMarkB) (cm := fun a b => cmp3 a.1 b.1) (d := MarkS.z) (l := m.marks) (r := ltM) ltM_trans (fun a b => cmp3_neg)
  have hO := pw_of_ris (p := isOwnB) (cm := fun a b => cmp3 a.1 b.1) (d := OwnS.z) (l := m.owns) (r := ltO) ltO_trans (fun a b => cmp3_neg)
  unfold MaV.right IsMan
  rw [hE, hM, hO, Bool.and_eq_true, Bool.and_eq_true]
  constructor
  · rintro ⟨⟨h1, h2, h3⟩, h4, ⟨h5, h6⟩, ⟨h7, h8⟩, h9, h10⟩
    exact ⟨h1, h2, h3, h4, fun x hx => by have := h5 x hx; unfold stayB at this; simpa using this, h6, h7, h8, h9, h10⟩
  · rintro ⟨h1, h2, h3, h4, h5, h6, h7, h8, h9, h10⟩
    exact ⟨⟨h1, h2, h3⟩, h4, ⟨fun x hx => by unfold stayB; simpa using h5 x hx, h6⟩, ⟨h7, h8⟩, h9, h10⟩
end Go.Proofs.YtadfmenlpnibnaaGreat
end PkMS4_2
section PkMS4_3
/- What an edit leaves of a manifest's entries: manifest.remaining of any manifest and edit, walked. Written by genapr.py. -/
namespace Go.Proofs.YtadfmenlpnibnaaGreat
open Go.RowKit LabPlain
set_option linter.unusedVariables false

def KeyS : Sty ByteArray := ⟨fun s => [.string s], 1, ByteArray.empty, fun _ s => s.size ≤ 140737488355328, by decide, fun _ => rfl, (fun x u hu => by rw [List.mem_singleton.1 hu]; rfl), fun _ h => h⟩
theorem bb_less : ∀ a b : List UInt8, bytesBefore a b = Op.bytesLess a b
  | [], [] => rfl
  | [], _ :: _ => rfl
  | _ :: _, [] => rfl
  | a :: r, b :: s => by simp [bytesBefore, Op.bytesLess, bb_less r s]
theorem before_lt (a b : ByteArray) : (slit a).before (slit b) = ltB a b := by
  unfold ltB
  rw [ByteArray.toList_eq, ByteArray.toList_eq, ← bb_less]
  rfl
/-- the entries as a map -/
def mapE (l : List EntV) : List (ByteArray × EntV) := l.map fun x => (x.key, x)
/-- without those dropped -/
def inB (dr : List ByteArray) (k : ByteArray) : Bool := dr.any fun y => decide (y = k)
theorem inB_iff {dr : List ByteArray} {k : ByteArray} : inB dr k = true ↔ k ∈ dr := by
  unfold inB
  rw [List.any_eq_true]
  constructor
  · rintro ⟨y, hy, e⟩
    obtain rfl : y = k := by simpa using e
    exact hy
  · exact fun h => ⟨k, h, by simp⟩
def lessK (dr : List ByteArray) (l : List (ByteArray × EntV)) : List (ByteArray × EntV) := l.filter fun p => !inB dr p.1
def hasB (l : List EntV) (k : ByteArray) : Bool := l.any fun x => decide (x.key = k)
def lostB (es : List EntV) (dr : List ByteArray) : Bool := dr.any fun k => !hasB es k
def fenceB (ad : List EntV) (f f' : Int) : Bool := ad.any fun x => decide (x.born < f) || decide (x.born < f')
def existB (es : List EntV) (dr : List ByteArray) (ad : List EntV) : Bool := ad.any fun x => hasB es x.key && !inB dr x.key
def remE (es : List EntV) (dr : List ByteArray) (ad : List EntV) (f f' : Int) : Int := if lostB es dr = true then 17 else if fenceB ad f f' = true then 11 else if existB es dr ad = true then 18 else 0
theorem ins_last {κ α : Type} {lit : κ → Lit} {x : κ × α} : ∀ {l : List (κ × α)}, (∀ p ∈ l, (lit x.1).before (lit p.1) = false) → insK lit x l = l ++ [x]
  | [], _ => rfl
  | y :: r, h => by
    unfold insK
    rw [if_neg (by rw [h y (List.mem_cons_self ..)]; decide), ins_last fun p hp => h p (List.mem_cons_of_mem _ hp)]
    rfl
theorem ltB_irr (a : ByteArray) : ltB a a = false := by unfold ltB; exact bl_irrefl _
theorem put_last {l : List EntV} {x : EntV} (h : ∀ y ∈ l, ltB y.key x.key = true) : putK slit x.key x (mapE l) = mapE (l ++ [x]) := by
  have hne : ∀ p ∈ mapE l, p.1 ≠ x.key := by
    intro p hp e
    obtain ⟨y, hy, rfl⟩ := List.mem_map.1 hp
    have h1 := h y hy
    rw [show y.key = x.key from e, ltB_irr] at h1
    cases h1
  unfold putK
  rw [drop_id litS ((get_none litS).2 hne), ins_last]
  · unfold mapE; rw [List.map_append]; rfl
  · intro p hp
    obtain ⟨y, hy, rfl⟩ := List.mem_map.1 hp
    have h1 := h y hy
    rw [before_lt, Bool.eq_false_iff]
    intro h2
    have h3 := ltB_trans h1 h2
    rw [ltB_irr] at h3
    cases h3
theorem less_nil (l : List (ByteArray × EntV)) : lessK [] l = l := by unfold lessK; rw [List.filter_eq_self]; intro p _; rfl
theorem less_drop (dr : List ByteArray) (k : ByteArray) (l : List (ByteArray × EntV)) : dropK slit k (lessK dr l) = lessK (dr ++ [k]) l := by
  unfold dropK lessK
  rw [List.filter_filter]
  refine List.filter_congr fun p _ => ?_
  have h9 : inB (dr ++ [k]) p.1 = (inB dr p.1 || decide (k = p.1)) := by unfold inB; rw [List.any_append]; simp
  by_cases e : p.1 = k
  · rw [h9, e, litS.same]; simp
  · have h1 : (slit p.1).sameKey (slit k) = false := by rw [Bool.eq_false_iff]; exact fun h => e ((litS.iff _ _).1 h)
    have h2 : decide (k = p.1) = false := decide_eq_false fun h => e h.symm
    rw [h9, h1, h2]
    simp
theorem less_has (es : List EntV) (dr : List ByteArray) (k : ByteArray) : (getK slit k (lessK dr (mapE es))).isSome = (hasB es k && !inB dr k) := by
  rw [Bool.eq_iff_iff, Bool.and_eq_true]
  constructor
  · intro h
    have h1 : getK slit k (lessK dr (mapE es)) ≠ none := fun e => by rw [e] at h; cases h
    have h2 : ¬ ∀ p ∈ lessK dr (mapE es), p.1 ≠ k := fun e => h1 ((get_none litS).2 e)
    simp only [Classical.not_forall, Decidable.not_not] at h2
    obtain ⟨p, hp, rfl⟩ := h2
    obtain ⟨h3, h4⟩ := List.mem_filter.1 hp
    obtain ⟨x, hx, rfl⟩ := List.mem_map.1 h3
    exact ⟨List.any_eq_true.2 ⟨x, hx, by simp⟩, h4⟩
  · rintro ⟨h1, h2⟩
    obtain ⟨x, hx, e⟩ := List.any_eq_true.1 h1
    obtain rfl : x.key = k := by simpa using e
    rw [Option.isSome_iff_ne_none]
    intro e
    exact (get_none litS).1 e (x.key, x) (List.mem_filter.2 ⟨List.mem_map.2 ⟨x, hx, rfl⟩, h2⟩) rfl
theorem take_snoc {α : Type} (l : List α) (d : α) {k : Nat} (h : k < l.length) : l.take (k + 1) = l.take k ++ [l.getD k d] := by
  rw [List.take_add_one, List.getElem?_eq_getElem h, List.getD_eq_getElem?_getD, List.getElem?_eq_getElem h]; rfl
theorem any_no {α : Type} {l : List α} {d : α} {p : α → Bool} (h : ∀ j, j < l.length → p (l.getD j d) = false) : l.any p = false := by
  rw [Bool.eq_false_iff]
  intro e
  obtain ⟨x, hx, hp⟩ := List.any_eq_true.1 e
  obtain ⟨i, hi, rfl⟩ := List.getElem_of_mem hx
  have := h i hi
  rw [List.getD_eq_getElem?_getD, List.getElem?_eq_getElem hi] at this
  simp only [Option.getD_some] at this
  rw [this] at hp
  cases hp
theorem take_len {α : Type} {l : List α} {n k : Nat} (h : l.length = n) (h2 : n ≤ k) : l.take k = l := List.take_of_length_le (by omega)
theorem mapE_len (l : List EntV) : (mapE l).length = l.length := by unfold mapE; rw [List.length_map]
theorem lessK_len (dr : List ByteArray) (l : List (ByteArray × EntV)) : (lessK dr l).length ≤ l.length := List.length_filter_le _ _
theorem elim_E (o : Option EntV) : o.elim (entV ent0) entV = entV (o.getD ent0) := by cases o <;> rfl
/-- what remaining answers -/
def RemIs (es : List EntV) (dr : List ByteArray) (ad : List EntV) (f f' : Int) (B : Nat) (e : Ending) (w' : World) : Prop :=
  (remE es dr ad f f' ≠ 0 ∧ e = .returned (.tuple #[.map none, .int .i64 (remE es dr ad f f')])) ∨ (remE es dr ad f f' = 0 ∧ ∃ M, B ≤ M ∧ e = .returned (.tuple #[.map (some M), .int .i64 0]) ∧ EM w' M (lessK dr (mapE es)))

set_option maxRecDepth 100000 in
set_option maxHeartbeats 4000000 in
theorem remaining_any {w : World} {gen cut fen cut' fen' y0 y1 y2 : Int} {ea ma oa aa da ka : Option Addr} {en ec mn mc on oc an ac dn dc kn kc : Nat} {le ad : List EntV} {ld : List ByteArray} (hE : VecAt EntS w ea en ec le) (hD : VecAt KeyS w da dn dc ld) (hA : VecAt EntS w aa an ac ad) (hpw : le.Pairwise ltE) (hdt : ld.Pairwise fun a b => a ≠ b) (hsm : en ≤ 100000) :
    Calls Tryz.prog 23 #[.agg #[.int .i64 gen, .int .i64 cut, .int .i64 fen, .slice ea en ec, .slice ma mn mc, .slice oa on oc], .agg #[.slice aa an ac, .slice da dn dc, .slice ka kn kc, .int .i64 cut', .int .i64 fen', .int .i64 y0, .int .i64 y1, .int .i64 y2]] w fun e w' => RemIs le ld ad fen fen' w.heap.size e w' ∧ Below w.heap.size w w' := by
  obtain ⟨w1, hw1⟩ : ∃ w1, w1 = w.alloc (.cells #[.int .i64 gen, .int .i64 cut, .int .i64 fen, .slice ea en ec, .slice ma mn mc, .slice oa on oc] 26) := ⟨_, rfl⟩
  obtain ⟨w2, hw2⟩ : ∃ w2, w2 = w1.alloc (.cells #[.slice aa an ac, .slice da dn dc, .slice ka kn kc, .int .i64 cut', .int .i64 fen', .int .i64 y0, .int .i64 y1, .int .i64 y2] 31) := ⟨_, rfl⟩
  obtain ⟨w3, hw3⟩ : ∃ w3, w3 = w2.alloc (.map #[] 0) := ⟨_, rfl⟩
  obtain ⟨bm, hbm⟩ : ∃ bm, bm = w.heap.size := ⟨_, rfl⟩
  obtain ⟨bd, hbd⟩ : ∃ bd, bd = w.heap.size + 1 := ⟨_, rfl⟩
  obtain ⟨M, hM⟩ : ∃ M, M = w.heap.size + 1 + 1 := ⟨_, rfl⟩
  have hs1 : w1.heap.size = w.heap.size + 1 := by rw [hw1]; exact Array.size_push _
  have hs2 : w2.heap.size = w1.heap.size + 1 := by rw [hw2]; exact Array.size_push _
  have hb1 : Below w.heap.size w w1 := by rw [hw1]; exact (Below.refl _ _).alloc (Nat.le_refl _) _
  have hb2 : Below w1.heap.size w1 w2 := by rw [hw2]; exact (Below.refl _ _).alloc (Nat.le_refl _) _
  have hb3 : Below w2.heap.size w2 w3 := by rw [hw3]; exact (Below.refl _ _).alloc (Nat.le_refl _) _
  have hm1 : w1.heap[bm]? = some (.cells #[.int .i64 gen, .int .i64 cut, .int .i64 fen, .slice ea en ec, .slice ma mn mc, .slice oa on oc] 26 (0, 0)) := by rw [hw1, hbm]; exact heap_alloc_new w _
  have hd2 : w2.heap[bd]? = some (.cells #[.slice aa an ac, .slice da dn dc, .slice ka kn kc, .int .i64 cut', .int .i64 fen', .int .i64 y0, .int .i64 y1, .int .i64 y2] 31 (0, 0)) := by rw [hw2, hbd, ← hs1]; exact heap_alloc_new w1 _
  have hm2 := (hb2.block bm (Array.getElem?_eq_some_iff.1 hm1).1).trans hm1
  have HDB := Lib.hid ((hb3.block bd (Array.getElem?_eq_some_iff.1 hd2).1).trans hd2)
  have HMB := Lib.hid ((hb3.block bm (Array.getElem?_eq_some_iff.1 hm2).1).trans hm2)
  have HLM := Lib.hid (show bm < M ∧ bd < M from by omega)
  have hb12 := hb1.trans (hb2.mono hb1.size)
  have HWM := Lib.hid (show w.heap.size ≤ M from by omega)
  have HB3 := Lib.hid (hb12.trans (hb3.mono hb12.size))
  have HE0 := Lib.hid (show EM w3 M [] from by rw [hw3, hM, ← hs1, ← hs2]; exact GM.made TE slit entV w2)
  have HLE := Lib.hid hE
  have HLN := Lib.hid hE.len
  have HLD := Lib.hid hD
  have hcd1 := hD.cap
  have hcd2 := hD.capm
  have hca1 := hA.cap
  have hca2 := hA.capm
  have HLA := Lib.hid hA
  have HPW := Lib.hid hpw
  have HDT := Lib.hid hdt
  have HSM := Lib.hid hsm
  have HW1 := Lib.hid hw1
  have HW2 := Lib.hid hw2
  have HW3 := Lib.hid hw3
  have HBM := Lib.hid hbm
  have HBD := Lib.hid hbd
  have HMM := Lib.hid hM
  have HW12 := Lib.hid hs2
  clear hs1 hs2 hb1 hb2 hb3 hm1 hd2 hm2 hb12 hE hD hA hpw hdt hw1 hw2 hw3 hbm hbd hM
  have hmk := @run_makeMap Tryz.prog
  have c3 := cell_blk HMB.out (i := 3) (u := .slice ea en ec) rfl
  go_enter Tryz.func23, Tryz.ntmps23
  go_upto_region 2 with fail
  rw [← HW1.out, ← HW2.out, ← HW3.out, ← HMM.out, ← HBD.out, ← HBM.out]
  clear hmk
  go_wp2_with fail

  go_loopw [23] (fun s23 wr => ∃ k : Nat, k ≤ en ∧ s23 = .int .i64 (k : Int) ∧ Hid (EM wr M (mapE (le.take k))) ∧ Hid (Below M w3 wr)) (fun s23 _ => en - (intOf s23).toNat)
  case atStart => exact ⟨0, by omega, rfl, HE0, Lib.hid (Below.refl _ _)⟩
  case round =>
    obtain ⟨k, hk, rfl, HEM, HBR⟩ := hrel
    rename World => wr
    by_cases hkn : k < en
    · have hki : (k : Int) < (en : Int) := by omega
      obtain ⟨sb, so, rfl, hsl, hok, hsc9⟩ := (HLE.out.kept (HB3.out.trans (HBR.out.mono HWM.out))).get hkn
      obtain ⟨s, hse⟩ : ∃ s, s = le.getD k EntS.z := ⟨_, rfl⟩
      rw [← hse] at hsc9 hok
      have HTK := Lib.hid (show putK slit s.key s (mapE (le.take k)) = mapE (le.take (k + 1)) from by
        rw [take_snoc le EntS.z (by rw [HLN.out]; exact hkn), ← hse]
        refine put_last fun y hy => ?_
        rw [hse]
        obtain ⟨i, hi, rfl⟩ := List.getElem_of_mem hy
        have hi2 := hi
        rw [List.length_take] at hi2
        rw [List.getElem_take, List.getD_eq_getElem?_getD, List.getElem?_eq_getElem (by rw [HLN.out]; exact hkn)]
        exact (List.pairwise_iff_getElem.1 HPW.out) _ _ (by omega) (by rw [HLN.out]; exact hkn) (by omega))
      have HLK := Lib.hid (show (mapE (le.take k)).length ≤ 1000000 from by rw [mapE_len, List.length_take]; have := HSM.out; have := HLN.out; omega)
      clear hse
      obtain ⟨x0, x1, x2, x3, x4, x5, x6, x7, x8⟩ := s
      have hz0 : x0.size ≤ 1000000000000000 := by have := hok.1; simp only at this; omega
      have d0 : wr.cell? ⟨sb, so + k * 9, none⟩ = some (.string x0) := hsc9 0 _ rfl
      have d1 : wr.cell? ⟨sb, so + k * 9 + 1, none⟩ = some (.int .i64 x1) := hsc9 1 _ rfl
      have d2 : wr.cell? ⟨sb, so + k * 9 + 2, none⟩ = some (.string x2) := hsc9 2 _ rfl
      have d3 : wr.cell? ⟨sb, so + k * 9 + 3, none⟩ = some (.int .i64 x3) := hsc9 3 _ rfl
      have d4 : wr.cell? ⟨sb, so + k * 9 + 4, none⟩ = some (.int .i64 x4) := hsc9 4 _ rfl
      have d5 : wr.cell? ⟨sb, so + k * 9 + 5, none⟩ = some (.int .i64 x5) := hsc9 5 _ rfl
      have d6 : wr.cell? ⟨sb, so + k * 9 + 6, none⟩ = some (.int .i64 x6) := hsc9 6 _ rfl
      have d7 : wr.cell? ⟨sb, so + k * 9 + 7, none⟩ = some (.int .u32 x7) := hsc9 7 _ rfl
      have d8 : wr.cell? ⟨sb, so + k * 9 + 8, none⟩ = some (.int .i64 x8) := hsc9 8 _ rfl
      obtain ⟨wb, hwb⟩ : ∃ wb, wb = wr.alloc (.cells #[.string x0, .int .i64 x1, .string x2, .int .i64 x3, .int .i64 x4, .int .i64 x5, .int .i64 x6, .int .u32 x7, .int .i64 x8] 42) := ⟨_, rfl⟩
      obtain ⟨bx, hbx⟩ : ∃ bx, bx = wr.heap.size := ⟨_, rfl⟩
      have hb4 : Below wr.heap.size wr wb := by rw [hwb]; exact (Below.refl _ _).alloc (Nat.le_refl _) _
      have hx4 : wb.heap[bx]? = some (.cells #[.string x0, .int .i64 x1, .string x2, .int .i64 x3, .int .i64 x4, .int .i64 x5, .int .i64 x6, .int .u32 x7, .int .i64 x8] 42 (0, 0)) := by rw [hwb, hbx]; exact heap_alloc_new wr _
      obtain ⟨w5, hst, he5, ht5⟩ := storeE (GM.below HEM.out hb4) x0 hz0 ⟨x0, x1, x2, x3, x4, x5, x6, x7, x8⟩ HLK.out
      have HE5 := Lib.hid (show EM w5 M (mapE (le.take (k + 1))) from by rw [← HTK.out]; exact he5)
      have HB5 := Lib.hid (show Below M w3 w5 from (HBR.out.trans (hb4.mono (Nat.le_of_lt HEM.out.gm.lt))).grown ht5.grown (by have := (GM.below HEM.out hb4).lt; omega) (fun k hk => by cases hk; exact Nat.le_refl _))
      have HWB := Lib.hid hwb
      have HBX := Lib.hid hbx
      clear hsc9 hok he5 ht5 hwb hbx hb4
      go_upto_region 5 with fail
      rw [← HWB.out, ← HBX.out]
      have e0 := cell_blk hx4 (i := 0) (u := .string x0) rfl
      have e1 := cell_blk hx4 (i := 1) (u := .int .i64 x1) rfl
      have e2 := cell_blk hx4 (i := 2) (u := .string x2) rfl
      have e3 := cell_blk hx4 (i := 3) (u := .int .i64 x3) rfl
      have e4 := cell_blk hx4 (i := 4) (u := .int .i64 x4) rfl
      have e5 := cell_blk hx4 (i := 5) (u := .int .i64 x5) rfl
      have e6 := cell_blk hx4 (i := 6) (u := .int .i64 x6) rfl
      have e7 := cell_blk hx4 (i := 7) (u := .int .u32 x7) rfl
      have e8 := cell_blk hx4 (i := 8) (u := .int .i64 x8) rfl
      go_wp2_with fail
      go_roundw
      case rel => exact ⟨k + 1, by omega, by go_num, HE5, HB5⟩
      case measure => simp [intOf]; omega
    · obtain rfl : en = k := by omega
      have HE4 := Lib.hid (show EM wr M (lessK (ld.take 0) (mapE le)) from by
        have h9 := HEM.out
        rw [take_len HLN.out (Nat.le_refl _)] at h9
        rw [List.take_zero, less_nil]; exact h9)
      clear HEM
      have d1 := cell_blk ((HBR.out.block bd HLM.out.2).trans HDB.out) (i := 1) (u := .slice da dn dc) rfl
      clear c3
      go_wp2_with fail
      go_loopw [35] (fun s35 wr2 => ∃ j : Nat, j ≤ dn ∧ s35 = .int .i64 (j : Int) ∧ Hid (EM wr2 M (lessK (ld.take j) (mapE le))) ∧ Hid (Below M w3 wr2) ∧ Hid (∀ t, t < j → (!hasB le (ld.getD t ByteArray.empty)) = false)) (fun s35 _ => dn - (intOf s35).toNat)
      case atStart => exact ⟨0, by omega, rfl, HE4, HBR, Lib.hid (fun t ht => absurd ht (Nat.not_lt_zero t))⟩
      case round =>
        clear HE4 HBR d1
        obtain ⟨j, hj, rfl, HEM, HBR, HNO⟩ := hrel
        rename World => wr2
        by_cases hjn : j < dn
        · have hji : (j : Int) < (dn : Int) := by omega
          obtain ⟨sb, so, rfl, hsl, hok, hsc9⟩ := (HLD.out.kept (HB3.out.trans (HBR.out.mono HWM.out))).get hjn
          obtain ⟨s, hse⟩ : ∃ s, s = ld.getD j KeyS.z := ⟨_, rfl⟩
          rw [← hse] at hsc9 hok
          have HSE := Lib.hid (show s = ld.getD j ByteArray.empty from hse)
          have HNI := Lib.hid (show inB (ld.take j) s = false from by
            rw [Bool.eq_false_iff]
            intro h9
            have h8 := inB_iff.1 h9
            obtain ⟨i, hi, e⟩ := List.getElem_of_mem h8
            have hi2 := hi
            rw [List.length_take] at hi2
            have hl9 := HLD.out.len
            have h7 := (List.pairwise_iff_getElem.1 HDT.out) i j (by omega) (by omega) (by omega)
            rw [List.getElem_take, hse, List.getD_eq_getElem?_getD, List.getElem?_eq_getElem (by omega)] at e
            exact h7 e)
          clear hse
          have hz0 : s.size ≤ 1000000000000000 := by have : s.size ≤ 140737488355328 := hok; omega
          have dk : wr2.cell? ⟨sb, so + j, none⟩ = some (.string s) := by have h9 : wr2.cell? ⟨sb, so + j * 1 + 0, none⟩ = some (.string s) := hsc9 0 _ rfl; rwa [Nat.mul_one, Nat.add_zero] at h9
          have hlk := look2E HEM.out s hz0
          rw [elim_E, less_has, HNI.out, Bool.not_false, Bool.and_true] at hlk
          obtain ⟨o, ho⟩ : ∃ o, o = (getK slit s (lessK (ld.take j) (mapE le))).getD ent0 := ⟨_, rfl⟩
          rw [← ho] at hlk
          clear ho
          obtain ⟨x0, x1, x2, x3, x4, x5, x6, x7, x8⟩ := o
          obtain ⟨bo, hbo⟩ : ∃ b, b = hasB le s := ⟨_, rfl⟩
          rw [← hbo] at hlk
          have HBO := Lib.hid hbo
          have hlk2 : (Instr.lookup 54 (.map (some M)) (.string s) true).run Tryz.prog wr2 = .ok (.tuple #[.agg #[.string x0, .int .i64 x1, .string x2, .int .i64 x3, .int .i64 x4, .int .i64 x5, .int .i64 x6, .int .u32 x7, .int .i64 x8], .bool bo]) wr2 := hlk
          obtain ⟨wb, hwb⟩ : ∃ wb, wb = wr2.alloc (.cells #[.string x0, .int .i64 x1, .string x2, .int .i64 x3, .int .i64 x4, .int .i64 x5, .int .i64 x6, .int .u32 x7, .int .i64 x8] 42) := ⟨_, rfl⟩
          obtain ⟨bx, hbx⟩ : ∃ bx, bx = wr2.heap.size := ⟨_, rfl⟩
          have hb4 : Below wr2.heap.size wr2 wb := by rw [hwb]; exact (Below.refl _ _).alloc (Nat.le_refl _) _
          have hx4 : wb.heap[bx]? = some (.cells #[.string x0, .int .i64 x1, .string x2, .int .i64 x3, .int .i64 x4, .int .i64 x5, .int .i64 x6, .int .u32 x7, .int .i64 x8] 42 (0, 0)) := by rw [hwb, hbx]; exact heap_alloc_new wr2 _
          have HE5 := Lib.hid (GM.below HEM.out hb4)
          have HB5 := Lib.hid (show Below M w3 wb from HBR.out.trans (hb4.mono (Nat.le_of_lt HEM.out.gm.lt)))
          have HX5 := Lib.hid hx4
          have HWB := Lib.hid hwb
          have HBX := Lib.hid hbx
          clear hwb hbx hb4 hx4
          clear hsc9 hok hlk hbo
          cases bo with
          | false =>
            have HR := Lib.hid (show remE le ld ad fen fen' = 17 from by
              unfold remE
              rw [if_pos]
              unfold lostB
              refine List.any_eq_true.2 ⟨s, ?_, by rw [← HBO.out]; rfl⟩
              rw [HSE.out]
              exact vec_mem (S := KeyS) (by rw [HLD.out.len]; exact hjn))
            go_wp2_with fail
            go_ret2
            rw [← HWB.out]
            exact ⟨.inl ⟨by rw [HR.out]; decide, by rw [HR.out]; rfl⟩, HB3.out.trans (HB5.out.mono HWM.out)⟩
          | true =>
            obtain ⟨w6, hdr, he6, ht6⟩ := dropE HE5.out s hz0 0
            rw [less_drop] at he6
            have HE6 := Lib.hid (show EM w6 M (lessK (ld.take (j + 1)) (mapE le)) from by rw [take_snoc ld ByteArray.empty (by rw [HLD.out.len]; exact hjn), ← HSE.out]; exact he6)
            have HB6 := Lib.hid (show Below M w3 w6 from HB5.out.grown ht6.grown (Nat.le_of_lt HE5.out.lt) (fun k hk => by cases hk; exact Nat.le_refl _))
            clear he6 ht6
            go_upto_region 11 with fail
            rw [← HWB.out]
            go_wp2_with fail
            go_roundw
            case rel => exact ⟨j + 1, by omega, by go_num, HE6, HB6, Lib.hid (fun t ht => by
              rcases Nat.lt_or_ge t j with g | g
              · exact HNO.out t g
              · obtain rfl : t = j := by omega
                rw [← HSE.out, ← HBO.out]; rfl)⟩
            case measure => simp [intOf]; omega
        · obtain rfl : dn = j := by omega
          have HL2 := Lib.hid (show lostB le ld = false from any_no (d := ByteArray.empty) fun t ht => HNO.out t (by rw [← HLD.out.len]; exact ht))
          have HE4 := Lib.hid (show EM wr2 M (lessK ld (mapE le)) from by
            have h9 := HEM.out
            rw [take_len HLD.out.len (Nat.le_refl _)] at h9
            exact h9)
          clear HEM HNO
          have d0 := cell_blk ((HBR.out.block bd HLM.out.2).trans HDB.out) (i := 0) (u := .slice aa an ac) rfl
          go_wp2_with fail
          go_loopw [53] (fun s53 wr3 => ∃ j3 : Nat, j3 ≤ an ∧ s53 = .int .i64 (j3 : Int) ∧ Hid (EM wr3 M (lessK ld (mapE le))) ∧ Hid (Below M w3 wr3) ∧ Hid (∀ t, t < j3 → (decide ((ad.getD t EntS.z).born < fen) || decide ((ad.getD t EntS.z).born < fen')) = false)) (fun s53 _ => an - (intOf s53).toNat)
          case atStart => exact ⟨0, by omega, rfl, HE4, HBR, Lib.hid (fun t ht => absurd ht (Nat.not_lt_zero t))⟩
          case round =>
            clear HE4 HBR d0
            obtain ⟨j3, hj3, rfl, HEM, HBR, HNO⟩ := hrel
            rename World => wr3
            by_cases hjn : j3 < an
            · have hji : (j3 : Int) < (an : Int) := by omega
              obtain ⟨sb, so, rfl, hsl, hok, hsc9⟩ := (HLA.out.kept (HB3.out.trans (HBR.out.mono HWM.out))).get hjn
              obtain ⟨s, hse⟩ : ∃ s, s = ad.getD j3 EntS.z := ⟨_, rfl⟩
              rw [← hse] at hsc9 hok
              have HSE := Lib.hid hse
              clear hse
              obtain ⟨x0, x1, x2, x3, x4, x5, x6, x7, x8⟩ := s
              have d0 : wr3.cell? ⟨sb, so + j3 * 9, none⟩ = some (.string x0) := hsc9 0 _ rfl
              have d1 : wr3.cell? ⟨sb, so + j3 * 9 + 1, none⟩ = some (.int .i64 x1) := hsc9 1 _ rfl
              have d2 : wr3.cell? ⟨sb, so + j3 * 9 + 2, none⟩ = some (.string x2) := hsc9 2 _ rfl
              have d3 : wr3.cell? ⟨sb, so + j3 * 9 + 3, none⟩ = some (.int .i64 x3) := hsc9 3 _ rfl
              have d4 : wr3.cell? ⟨sb, so + j3 * 9 + 4, none⟩ = some (.int .i64 x4) := hsc9 4 _ rfl
              have d5 : wr3.cell? ⟨sb, so + j3 * 9 + 5, none⟩ = some (.int .i64 x5) := hsc9 5 _ rfl
              have d6 : wr3.cell? ⟨sb, so + j3 * 9 + 6, none⟩ = some (.int .i64 x6) := hsc9 6 _ rfl
              have d7 : wr3.cell? ⟨sb, so + j3 * 9 + 7, none⟩ = some (.int .u32 x7) := hsc9 7 _ rfl
              have d8 : wr3.cell? ⟨sb, so + j3 * 9 + 8, none⟩ = some (.int .i64 x8) := hsc9 8 _ rfl
              obtain ⟨wb, hwb⟩ : ∃ wb, wb = wr3.alloc (.cells #[.string x0, .int .i64 x1, .string x2, .int .i64 x3, .int .i64 x4, .int .i64 x5, .int .i64 x6, .int .u32 x7, .int .i64 x8] 42) := ⟨_, rfl⟩
              obtain ⟨bx, hbx⟩ : ∃ bx, bx = wr3.heap.size := ⟨_, rfl⟩
              have hb4 : Below wr3.heap.size wr3 wb := by rw [hwb]; exact (Below.refl _ _).alloc (Nat.le_refl _) _
              have hx4 : wb.heap[bx]? = some (.cells #[.string x0, .int .i64 x1, .string x2, .int .i64 x3, .int .i64 x4, .int .i64 x5, .int .i64 x6, .int .u32 x7, .int .i64 x8] 42 (0, 0)) := by rw [hwb, hbx]; exact heap_alloc_new wr3 _
              have HE5 := Lib.hid (GM.below HEM.out hb4)
              have HB5 := Lib.hid (show Below M w3 wb from HBR.out.trans (hb4.mono (Nat.le_of_lt HEM.out.gm.lt)))
              have HX5 := Lib.hid hx4
              have HWB := Lib.hid hwb
              have HBX := Lib.hid hbx
              clear hwb hbx hb4 hx4
              clear hsc9 hok
              have HM5 := Lib.hid ((HB5.out.block bm HLM.out.1).trans HMB.out)
              have HD5 := Lib.hid ((HB5.out.block bd HLM.out.2).trans HDB.out)
              go_upto_region 18 with fail
              rw [← HWB.out, ← HBX.out]
              have e8 := cell_blk HX5.out (i := 8) (u := .int .i64 x8) rfl
              have m2 := cell_blk HM5.out (i := 2) (u := .int .i64 fen) rfl
              have n4 := cell_blk HD5.out (i := 4) (u := .int .i64 fen') rfl
              obtain ⟨bo, hbo⟩ : ∃ b, b = (decide (x8 < fen) || decide (x8 < fen')) := ⟨_, rfl⟩
              have HBO := Lib.hid hbo
              have HR := Lib.hid (show bo = true → remE le ld ad fen fen' = 11 from fun hb => by
                unfold remE
                rw [if_neg (by rw [HL2.out]; decide), if_pos]
                unfold fenceB
                refine List.any_eq_true.2 ⟨_, vec_mem (S := EntS) (by rw [HLA.out.len]; exact hjn), ?_⟩
                rw [← HSE.out, ← hb]; exact HBO.out.symm)
              by_cases g1 : x8 < fen
              · have HR2 := Lib.hid (HR.out (by rw [hbo, decide_eq_true g1]; rfl))
                clear hbo
                go_wp2_with fail
                go_ret2
                exact ⟨.inl ⟨by rw [HR2.out]; decide, by rw [HR2.out]; rfl⟩, HB3.out.trans (HB5.out.mono HWM.out)⟩
              · by_cases g2 : x8 < fen'
                · have HR2 := Lib.hid (HR.out (by rw [hbo, decide_eq_true g2]; simp))
                  clear hbo
                  go_wp2_with fail
                  go_ret2
                  exact ⟨.inl ⟨by rw [HR2.out]; decide, by rw [HR2.out]; rfl⟩, HB3.out.trans (HB5.out.mono HWM.out)⟩
                · have HF := Lib.hid (show (decide (x8 < fen) || decide (x8 < fen')) = false from by rw [decide_eq_false g1, decide_eq_false g2]; rfl)
                  clear hbo
                  go_wp2_with fail
                  go_roundw
                  case rel => exact ⟨j3 + 1, by omega, by go_num, HE5, HB5, Lib.hid (fun t ht => by
                    rcases Nat.lt_or_ge t j3 with g | g
                    · exact HNO.out t g
                    · obtain rfl : t = j3 := by omega
                      rw [← HSE.out]; exact HF.out)⟩
                  case measure => simp [intOf]; omega
            · obtain rfl : an = j3 := by omega
              have HL3 := Lib.hid (show fenceB ad fen fen' = false from any_no (d := EntS.z) fun t ht => HNO.out t (by rw [← HLA.out.len]; exact ht))
              clear HNO
              have d0 := cell_blk ((HBR.out.block bd HLM.out.2).trans HDB.out) (i := 0) (u := .slice aa an ac) rfl
              go_wp2_with fail
              go_loopw [73] (fun s73 wr4 => ∃ j4 : Nat, j4 ≤ an ∧ s73 = .int .i64 (j4 : Int) ∧ Hid (EM wr4 M (lessK ld (mapE le))) ∧ Hid (Below M w3 wr4) ∧ Hid (∀ t, t < j4 → (hasB le (ad.getD t EntS.z).key && !inB ld (ad.getD t EntS.z).key) = false)) (fun s73 _ => an - (intOf s73).toNat)
              case atStart => exact ⟨0, by omega, rfl, HEM, HBR, Lib.hid (fun t ht => absurd ht (Nat.not_lt_zero t))⟩
              case round =>
                clear HEM HBR d0
                obtain ⟨j4, hj4, rfl, HEM, HBR, HNO⟩ := hrel
                rename World => wr4
                by_cases hjn : j4 < an
                · have hji : (j4 : Int) < (an : Int) := by omega
                  obtain ⟨sb, so, rfl, hsl, hok, hsc9⟩ := (HLA.out.kept (HB3.out.trans (HBR.out.mono HWM.out))).get hjn
                  obtain ⟨s, hse⟩ : ∃ s, s = ad.getD j4 EntS.z := ⟨_, rfl⟩
                  rw [← hse] at hsc9 hok
                  have HSE := Lib.hid hse
                  clear hse
                  obtain ⟨x0, x1, x2, x3, x4, x5, x6, x7, x8⟩ := s
                  have hz0 : x0.size ≤ 1000000000000000 := by have := hok.1; simp only at this; omega
                  have d0 : wr4.cell? ⟨sb, so + j4 * 9, none⟩ = some (.string x0) := hsc9 0 _ rfl
                  have d1 : wr4.cell? ⟨sb, so + j4 * 9 + 1, none⟩ = some (.int .i64 x1) := hsc9 1 _ rfl
                  have d2 : wr4.cell? ⟨sb, so + j4 * 9 + 2, none⟩ = some (.string x2) := hsc9 2 _ rfl
                  have d3 : wr4.cell? ⟨sb, so + j4 * 9 + 3, none⟩ = some (.int .i64 x3) := hsc9 3 _ rfl
                  have d4 : wr4.cell? ⟨sb, so + j4 * 9 + 4, none⟩ = some (.int .i64 x4) := hsc9 4 _ rfl
                  have d5 : wr4.cell? ⟨sb, so + j4 * 9 + 5, none⟩ = some (.int .i64 x5) := hsc9 5 _ rfl
                  have d6 : wr4.cell? ⟨sb, so + j4 * 9 + 6, none⟩ = some (.int .i64 x6) := hsc9 6 _ rfl
                  have d7 : wr4.cell? ⟨sb, so + j4 * 9 + 7, none⟩ = some (.int .u32 x7) := hsc9 7 _ rfl
                  have d8 : wr4.cell? ⟨sb, so + j4 * 9 + 8, none⟩ = some (.int .i64 x8) := hsc9 8 _ rfl
                  obtain ⟨wb, hwb⟩ : ∃ wb, wb = wr4.alloc (.cells #[.string x0, .int .i64 x1, .string x2, .int .i64 x3, .int .i64 x4, .int .i64 x5, .int .i64 x6, .int .u32 x7, .int .i64 x8] 42) := ⟨_, rfl⟩
                  obtain ⟨bx, hbx⟩ : ∃ bx, bx = wr4.heap.size := ⟨_, rfl⟩
                  have hb4 : Below wr4.heap.size wr4 wb := by rw [hwb]; exact (Below.refl _ _).alloc (Nat.le_refl _) _
                  have hx4 : wb.heap[bx]? = some (.cells #[.string x0, .int .i64 x1, .string x2, .int .i64 x3, .int .i64 x4, .int .i64 x5, .int .i64 x6, .int .u32 x7, .int .i64 x8] 42 (0, 0)) := by rw [hwb, hbx]; exact heap_alloc_new wr4 _
                  have HE5 := Lib.hid (GM.below HEM.out hb4)
                  have HB5 := Lib.hid (show Below M w3 wb from HBR.out.trans (hb4.mono (Nat.le_of_lt HEM.out.gm.lt)))
                  have HX5 := Lib.hid hx4
                  have HWB := Lib.hid hwb
                  have HBX := Lib.hid hbx
                  clear hwb hbx hb4 hx4
                  clear hsc9 hok
                  have hlk := look2E HE5.out x0 hz0
                  rw [elim_E, less_has] at hlk
                  obtain ⟨o, ho⟩ : ∃ o, o = (getK slit x0 (lessK ld (mapE le))).getD ent0 := ⟨_, rfl⟩
                  rw [← ho] at hlk
                  clear ho
                  obtain ⟨y0', y1', y2', y3, y4, y5, y6, y7, y8⟩ := o
                  obtain ⟨bo, hbo⟩ : ∃ b, b = (hasB le x0 && !inB ld x0) := ⟨_, rfl⟩
                  rw [← hbo] at hlk
                  have HBO := Lib.hid hbo
                  have hlk2 : (Instr.lookup 54 (.map (some M)) (.string x0) true).run Tryz.prog wb = .ok (.tuple #[.agg #[.string y0', .int .i64 y1', .string y2', .int .i64 y3, .int .i64 y4, .int .i64 y5, .int .i64 y6, .int .u32 y7, .int .i64 y8], .bool bo]) wb := hlk
                  have HB6 := Lib.hid (HB5.out.alloc (Nat.le_of_lt HE5.out.lt) (.cells #[.string y0', .int .i64 y1', .string y2', .int .i64 y3, .int .i64 y4, .int .i64 y5, .int .i64 y6, .int .u32 y7, .int .i64 y8] 42))
                  have HE6 := Lib.hid (GM.below HE5.out ((Below.refl _ wb).alloc (Nat.le_refl _) (.cells #[.string y0', .int .i64 y1', .string y2', .int .i64 y3, .int .i64 y4, .int .i64 y5, .int .i64 y6, .int .u32 y7, .int .i64 y8] 42)))
                  clear hlk hbo
                  go_upto_region 24 with fail
                  rw [← HWB.out, ← HBX.out]
                  have e0 := cell_blk HX5.out (i := 0) (u := .string x0) rfl
                  cases bo with
                  | true =>
                    have HR := Lib.hid (show remE le ld ad fen fen' = 18 from by
                      unfold remE
                      rw [if_neg (by rw [HL2.out]; decide), if_neg (by rw [HL3.out]; decide), if_pos]
                      unfold existB
                      refine List.any_eq_true.2 ⟨_, vec_mem (S := EntS) (by rw [HLA.out.len]; exact hjn), ?_⟩
                      rw [← HSE.out]; exact HBO.out.symm)
                    go_wp2_with fail
                    go_ret2
                    exact ⟨.inl ⟨by rw [HR.out]; decide, by rw [HR.out]; rfl⟩, HB3.out.trans (HB6.out.mono HWM.out)⟩
                  | false =>
                    go_wp2_with fail
                    go_roundw
                    case rel => exact ⟨j4 + 1, by omega, by go_num, HE6, HB6, Lib.hid (fun t ht => by
                      rcases Nat.lt_or_ge t j4 with g | g
                      · exact HNO.out t g
                      · obtain rfl : t = j4 := by omega
                        rw [← HSE.out]; exact HBO.out.symm)⟩
                    case measure => simp [intOf]; omega
                · obtain rfl : an = j4 := by omega
                  have HL4 := Lib.hid (show existB le ld ad = false from any_no (d := EntS.z) fun t ht => HNO.out t (by rw [← HLA.out.len]; exact ht))
                  have HR := Lib.hid (show remE le ld ad fen fen' = 0 from by
                    unfold remE
                    rw [if_neg (by rw [HL2.out]; decide), if_neg (by rw [HL3.out]; decide), if_neg (by rw [HL4.out]; decide)])
                  clear HNO
                  go_wp2_with fail
                  go_ret2
                  exact ⟨.inr ⟨HR.out, M, HWM.out, rfl, HEM.out⟩, HB3.out.trans (HBR.out.mono HWM.out)⟩
end Go.Proofs.YtadfmenlpnibnaaGreat
end PkMS4_3
section PkMS4_4
/- (Written by genapsq.py out of XColSeq.) slices.Values, Collect, Sorted of texts, walked: a range over a function (inside the wide fence). -/
namespace Go.Proofs.YtadfmenlpnibnaaGreat
open Go.RowKit Go.Shelf
set_option linter.unusedVariables false
attribute [local go_sem] Oper.semAt_some

theorem seq_infoK : (Tryz.prog.info? 9).map (fun i => (i.zero, i.size, i.bytes)) = some (some (.string ByteArray.empty), 1, 16) := by kernel_rfl

set_option maxRecDepth 100000 in
set_option maxHeartbeats 2000000 in
theorem seq_values1K (n : Nat) (hn : 1 ≤ n) (l Bs n₀ len cap : Nat) (sa : Option Addr) (zs : List ByteArray) (hlen : len ≤ 100000) (J Jx : List ByteArray → World → Prop)
    (hY : ∀ pre x W, J pre W → pre.length < len → YieldAt Fence.wide (n - 1) Tryz.prog l #[.string x] W fun e W' =>
      (e = .returned (.bool true) ∧ J (pre ++ [x]) W' ∧ Below n₀ W W') ∨ (e = .returned (.bool false) ∧ Jx (pre ++ [x]) W'))
    (W : World) (hBs : W.cell? ⟨Bs, 0, none⟩ = some (.slice sa len cap)) (hv : VecAt KeyS W sa len cap zs) (hlow : ∀ b off s, 0 < len → sa = some ⟨b, off, s⟩ → b < n₀) (h0 : J [] W) :
    CallsIn Fence.wide n Tryz.prog 72 #[.func (.yield l) #[] #[], .pointer (some ⟨Bs, 0, none⟩)] W fun e W' => (∃ v, e = .returned v) ∧
      ((∃ ys, ys = zs ∧ J ys W') ∨ (∃ pre, True ∧ Jx pre W')) := by
  have hzl := hv.len
  refine callsIn_of_wp Tryz.func72 rfl trivial ?_ rfl
  simp only [Tryz.ntmps72, List.size_toArray, List.length_cons, List.length_nil, Nat.reduceAdd, Nat.reduceSub, Array.replicate_succ, Array.replicate_zero, List.push_toArray, List.append_toArray, List.nil_append, List.cons_append]
  gi_wp2
  gi_loopw [7] (fun i wr => ∃ k : Nat, k ≤ len ∧ i = .int .i64 k ∧ J (zs.take k) wr ∧ Below n₀ W wr)
    (fun i _ => len - (intOf i).toNat)
  case atStart => exact ⟨0, Nat.zero_le _, rfl, by simpa using h0, Below.refl _ _⟩
  case round =>
    obtain ⟨k, hk, rfl, hJs, hnx⟩ := hrel
    by_cases hlt : k < len
    · obtain ⟨b, off, rfl, hbw, hc⟩ := hv.cells (by omega)
      have hb := hlow b off none (by omega) rfl
      have hcx' : World.cell? _ ⟨b, off + k, none⟩ = some (.string (zs[k]?.getD ByteArray.empty)) := (hnx.cell (p := ⟨b, off + k, none⟩) hb).trans (by
        have h3 := hc k hlt 0 (.string (zs.getD k KeyS.z)) rfl
        rw [show off + k * KeyS.K + 0 = off + k from by show off + k * 1 + 0 = off + k; omega, List.getD_eq_getElem?_getD] at h3
        exact h3)
      obtain ⟨x, hx⟩ : ∃ x, x = zs[k]?.getD ByteArray.empty := ⟨_, rfl⟩
      have hts : zs.take (k + 1) = zs.take k ++ [x] := by rw [hx]; rw [take_snoc zs ByteArray.empty (by omega), List.getD_eq_getElem?_getD]
      rw [← hx] at hcx'
      obtain ⟨fn, tmps, assign, body, hy, hR⟩ := hY _ x _ hJs (by rw [List.length_take]; omega)
      have HTS := Lib.hid hts
      clear hc hlow hx hts
      gi_wp2
      refine hR.mono ?_
      rintro e W3 (⟨rfl, hJ3, hk3⟩ | ⟨rfl, hJx3⟩)
      · gi_wp2
        go_roundw
        case rel => exact ⟨k + 1, by omega, by simp, by rw [HTS.out]; exact hJ3, hnx.trans hk3⟩
        case measure => simp [intOf]; omega
      · gi_wp2
        refine bodyPost_ret (results_none rfl _ _ _) rfl ?_
        exact ⟨⟨_, rfl⟩, .inr ⟨_, trivial, hJx3⟩⟩
    · obtain rfl : k = len := by omega
      gi_wp2
      go_end0
      exact ⟨⟨_, rfl⟩, .inl ⟨_, rfl, by rw [← hzl, List.take_length] at hJs; exact hJs⟩⟩

theorem values_anyK {w : World} (a : Option Addr) (n c : Nat) :
    Calls Tryz.prog 51 #[.slice a n c] w fun e w' => e = .returned (.func (.func 72) #[] #[.pointer (some ⟨w.heap.size, 0, none⟩)]) ∧ w' = w.alloc (.cells #[.slice a n c] 27) := by
  go_enter Tryz.func51, Tryz.ntmps51
  go_wp2_with fail
  go_ret
  exact ⟨rfl, rfl⟩

theorem seq_stopsK (n : Nat) (hn : 1 ≤ n) (Bs n₀ len cap : Nat) (sa : Option Addr) (zs : List ByteArray) (hlen : len ≤ 100000) (w : World) (hBs : Bs < w.heap.size) (hn₀ : n₀ ≤ w.heap.size)
    (hc : w.cell? ⟨Bs, 0, none⟩ = some (.slice sa len cap)) (hv : VecAt KeyS w sa len cap zs) (hlow : ∀ b off s, 0 < len → sa = some ⟨b, off, s⟩ → b < n₀) :
    SeqStopsK Fence.wide n Tryz.prog 72 #[.pointer (some ⟨Bs, 0, none⟩)] (fun x : ByteArray => #[Value.string x]) (Below n₀) (fun ys => ys = zs) (fun _ => True) len w := fun l J Jx W hW _ _ hY h0 =>
  seq_values1K n hn l Bs n₀ len cap sa zs hlen J Jx hY W ((hW.cell (p := ⟨Bs, 0, none⟩) hBs).trans hc) (hv.kept hW) hlow h0

set_option maxRecDepth 100000 in
set_option maxHeartbeats 2000000 in
theorem append_seqK (n : Nat) (hn : 3 ≤ n) {w : World} {gf : Nat} {lb : Array Value} (eg : ∀ args w, (callFunc gf args).run Tryz.prog w = .ok (.enter gf args) w) {l : List ByteArray} (hl : l.length ≤ 100000)
    (hseq : ∀ m, 1 ≤ m → SeqStopsK Fence.wide m Tryz.prog gf lb (fun x : ByteArray => #[Value.string x]) (Below w.heap.size) (fun ys => ys = l) (fun _ => True) l.length w) :
    CallsIn Fence.wide n Tryz.prog 91 #[.slice none 0 0, .func (.func gf) #[] lb] w fun e W' => ∃ v, e = .returned v ∧ W'.ownsRow w.heap.size 9 1 v l.length (KeyS.flat l) ∧ Below w.heap.size w W' := by
  have h1 : 1 ≤ n := by omega
  have hml : l.length ≤ maxLen := by unfold maxLen; omega
  obtain ⟨i0, hi, hz0, hz1, hz2⟩ := info_parts seq_infoK
  refine callsIn_of_wp_marks Tryz.func91 rfl trivial ?_ rfl
  simp only [Tryz.ntmps91, List.size_toArray, List.length_cons, List.length_nil, Nat.reduceAdd, Nat.reduceSub, Array.replicate_succ, Array.replicate_zero, List.push_toArray, List.append_toArray, List.nil_append, List.cons_append]
  gi_wp2
  have bO := Boxed.new w 27 (.slice none 0 0)
  have hB0 : Below w.heap.size w (w.alloc (.cells #[.slice none 0 0] 27)) := (Below.refl _ w).alloc (Nat.le_refl _) _
  refine wpIn_rangeFunc_ownF rfl h1 (gf := gf) (lb := lb) rfl trivial eg
    (hseq (n - 1) (by omega)) belowK_t (belowK_b (by simp)) hB0 (fun _ => rfl)
    (fun pre W => (∃ v, Boxed W w.heap.size 27 v ∧ W.ownsRow w.heap.size 9 1 v pre.length (KeyS.flat pre) ∧ True) ∧ Below w.heap.size w W)
    (fun _ _ _ => False)
    (OwnFrom.and (Own.from (holdsRow_own w.heap.size w.heap.size 27 9 1 (fun pre : List ByteArray => pre.length) (fun pre => KeyS.flat pre) (fun pre v => True)) _) (ownFrom_below (Nat.le_refl _) (by simp)))
    (fun _ _ _ _ _ hs _ _ => hs)
    ⟨⟨_, bO, World.ownsRow_nil _ _ _ _, trivial⟩, hB0⟩
    (fun x => { tmps := #[.slice none 0 0, .func (.func gf) #[] lb, .pointer (some ⟨w.heap.size, 0, none⟩), undef, .slice none 0 0, .string x, .func (.func gf) #[] lb, .string x, undef, undef, undef, undef, undef], defers := [] }) ?assign ?body ?done ?stop
  case assign =>
    intro l x W K hK
    gi_wp2
    exact hK
  case body =>
    rintro l' pre x W ⟨⟨v, hv, hrow, _⟩, hB⟩ hlt
    have hc := hv.cell
    gi_wp2_with (gi_at_builtin; refine wpListIn_append_own _ rfl _ _ 27 rfl w.heap.size 9 i0 (.string ByteArray.empty) 1 16 Tryz.underlying27 hi hz0 hz1 hz2 rfl (by decide) _ _ _ rfl (hrow.alloc _) ⟨W.heap.size, 0, none⟩ 1 1 [.string x] rfl rfl (cell_one_new _ _ _) (by simp [Value.oneCell']) (by omega) (by omega) (by have := hB.size; simp; omega) ?_; intro v' w1 hown' hgrow _; obtain ⟨g', cap', rfl⟩ := ownsRow_succ hown'; obtain ⟨hv1, hv2, hr2, hk2, hb2⟩ := hv.appended (by decide) hrow hB.size (Nat.le_refl _) hown' hgrow; have hc1 := hv1.cell; have hf1 := hv1.frozen)
    exact ⟨hk2, hb2, ⟨_, hv2, by rw [KeyS.flat_snoc, List.length_append]; exact hr2, trivial⟩, hB.trans hb2⟩
  case done =>
    rintro D ys W hD rfl ⟨⟨v, hv, hrow, _⟩, hB⟩ hK
    have hc := hv.cell
    gi_wp2
    refine ⟨by simp, .inl ⟨_, _, rfl, run_takeDeferred hK, ?_⟩⟩
    exact ⟨_, results_tmp rfl _ _ _, v, rfl, ownsRow_putObj hrow _ hK rfl, hB.trans (belowK_b (w := w) (Nat.le_refl _) W D _ _ (by simp at hD; omega) hK rfl rfl)⟩
  case stop =>
    rintro D c pre W _ _ h _
    exact h.elim

theorem collect_anyK {w : World} {gf : Nat} {lb : Array Value} (eg : ∀ args w, (callFunc gf args).run Tryz.prog w = .ok (.enter gf args) w) {l : List ByteArray} (hl : l.length ≤ 100000)
    (hseq : ∀ m, 1 ≤ m → SeqStopsK Fence.wide m Tryz.prog gf lb (fun x : ByteArray => #[Value.string x]) (Below w.heap.size) (fun ys => ys = l) (fun _ => True) l.length w) :
    Calls Tryz.prog 70 #[.func (.func gf) #[] lb] w fun e W' => ∃ v, e = .returned v ∧ W'.ownsRow w.heap.size 9 1 v l.length (KeyS.flat l) ∧ Below w.heap.size w W' := by
  have HA := Lib.hid (callsIn_wide.1 (append_seqK 3 (by omega) eg hl hseq))
  clear hseq
  go_enter Tryz.func70, Tryz.ntmps70
  go_wp2_with fail
  refine HA.out.mono ?_
  rintro e w1 ⟨v, rfl, ho, hb⟩
  have HO := Lib.hid ho
  have HB := Lib.hid hb
  clear ho hb
  go_wp2_with fail
  first | go_ret2 | go_ret
  exact ⟨v, rfl, HO.out, HB.out⟩
end Go.Proofs.YtadfmenlpnibnaaGreat
end PkMS4_4
section PkMS4_5
/- (Written by genapsq.py out of XColSeq.) slices.Values, Collect, Sorted of entries, walked: a range over a function (inside the wide fence). -/
namespace Go.Proofs.YtadfmenlpnibnaaGreat
open Go.RowKit Go.Shelf
set_option linter.unusedVariables false
attribute [local go_sem] Oper.semAt_some

set_option maxRecDepth 100000 in
set_option maxHeartbeats 2000000 in
theorem seq_values1E (n : Nat) (hn : 1 ≤ n) (l Bs n₀ len cap : Nat) (sa : Option Addr) (zs : List EntV) (hlen : len ≤ 100000) (J Jx : List EntV → World → Prop)
    (hY : ∀ pre x W, J pre W → pre.length < len → YieldAt Fence.wide (n - 1) Tryz.prog l #[entV x] W fun e W' =>
      (e = .returned (.bool true) ∧ J (pre ++ [x]) W' ∧ Below n₀ W W') ∨ (e = .returned (.bool false) ∧ Jx (pre ++ [x]) W'))
    (hJk : ∀ pre W o, J pre W → J pre (W.alloc o))
    (W : World) (hn0 : n₀ ≤ W.heap.size) (hBs : W.cell? ⟨Bs, 0, none⟩ = some (.slice sa len cap)) (hv : VecAt EntS W sa len cap zs) (hlow : ∀ b off s, 0 < len → sa = some ⟨b, off, s⟩ → b < n₀) (h0 : J [] W) :
    CallsIn Fence.wide n Tryz.prog 69 #[.func (.yield l) #[] #[], .pointer (some ⟨Bs, 0, none⟩)] W fun e W' => (∃ v, e = .returned v) ∧
      ((∃ ys, ys = zs ∧ J ys W') ∨ (∃ pre, True ∧ Jx pre W')) := by
  have hzl := hv.len
  refine callsIn_of_wp Tryz.func69 rfl trivial ?_ rfl
  simp only [Tryz.ntmps69, List.size_toArray, List.length_cons, List.length_nil, Nat.reduceAdd, Nat.reduceSub, Array.replicate_succ, Array.replicate_zero, List.push_toArray, List.append_toArray, List.nil_append, List.cons_append]
  gi_wp2
  gi_loopw [7] (fun i wr => ∃ k : Nat, k ≤ len ∧ i = .int .i64 k ∧ J (zs.take k) wr ∧ Below n₀ W wr)
    (fun i _ => len - (intOf i).toNat)
  case atStart => exact ⟨0, Nat.zero_le _, rfl, by simpa using h0, Below.refl _ _⟩
  case round =>
    obtain ⟨k, hk, rfl, hJs, hnx⟩ := hrel
    rename World => wr
    by_cases hlt : k < len
    · obtain ⟨b, off, rfl, hbw, hc⟩ := hv.cells (by omega)
      have hb := hlow b off none (by omega) rfl
      obtain ⟨x, hx⟩ : ∃ x, x = zs.getD k EntS.z := ⟨_, rfl⟩
      have hc9 : ∀ j u, (EntS.f x)[j]? = some u → W.cell? ⟨b, off + k * 9 + j, none⟩ = some u := by rw [hx]; exact hc k hlt
      have hts : zs.take (k + 1) = zs.take k ++ [x] := by rw [hx]; exact take_snoc zs EntS.z (by omega)
      obtain ⟨x0, x1, x2, x3, x4, x5, x6, x7, x8⟩ := x
      have d0 : World.cell? wr ⟨b, off + k * 9, none⟩ = some (.string x0) := (hnx.cell (p := ⟨b, off + k * 9, none⟩) hb).trans (hc9 0 _ rfl)
      have d1 : World.cell? wr ⟨b, off + k * 9 + 1, none⟩ = some (.int .i64 x1) := (hnx.cell (p := ⟨b, off + k * 9 + 1, none⟩) hb).trans (hc9 1 _ rfl)
      have d2 : World.cell? wr ⟨b, off + k * 9 + 2, none⟩ = some (.string x2) := (hnx.cell (p := ⟨b, off + k * 9 + 2, none⟩) hb).trans (hc9 2 _ rfl)
      have d3 : World.cell? wr ⟨b, off + k * 9 + 3, none⟩ = some (.int .i64 x3) := (hnx.cell (p := ⟨b, off + k * 9 + 3, none⟩) hb).trans (hc9 3 _ rfl)
      have d4 : World.cell? wr ⟨b, off + k * 9 + 4, none⟩ = some (.int .i64 x4) := (hnx.cell (p := ⟨b, off + k * 9 + 4, none⟩) hb).trans (hc9 4 _ rfl)
      have d5 : World.cell? wr ⟨b, off + k * 9 + 5, none⟩ = some (.int .i64 x5) := (hnx.cell (p := ⟨b, off + k * 9 + 5, none⟩) hb).trans (hc9 5 _ rfl)
      have d6 : World.cell? wr ⟨b, off + k * 9 + 6, none⟩ = some (.int .i64 x6) := (hnx.cell (p := ⟨b, off + k * 9 + 6, none⟩) hb).trans (hc9 6 _ rfl)
      have d7 : World.cell? wr ⟨b, off + k * 9 + 7, none⟩ = some (.int .u32 x7) := (hnx.cell (p := ⟨b, off + k * 9 + 7, none⟩) hb).trans (hc9 7 _ rfl)
      have d8 : World.cell? wr ⟨b, off + k * 9 + 8, none⟩ = some (.int .i64 x8) := (hnx.cell (p := ⟨b, off + k * 9 + 8, none⟩) hb).trans (hc9 8 _ rfl)
      have hbb : Below n₀ W (wr.alloc (.cells #[.string x0, .int .i64 x1, .string x2, .int .i64 x3, .int .i64 x4, .int .i64 x5, .int .i64 x6, .int .u32 x7, .int .i64 x8] 42)) := hnx.alloc (Nat.le_trans hn0 hnx.size) _
      have hYx : YieldAt Fence.wide (n - 1) Tryz.prog l #[.agg #[.string x0, .int .i64 x1, .string x2, .int .i64 x3, .int .i64 x4, .int .i64 x5, .int .i64 x6, .int .u32 x7, .int .i64 x8]] (wr.alloc (.cells #[.string x0, .int .i64 x1, .string x2, .int .i64 x3, .int .i64 x4, .int .i64 x5, .int .i64 x6, .int .u32 x7, .int .i64 x8] 42)) _ := hY _ (⟨x0, x1, x2, x3, x4, x5, x6, x7, x8⟩ : EntV) _ (hJk _ _ _ hJs) (by rw [List.length_take]; omega)
      obtain ⟨fn, tmps, assign, body, hy, hR⟩ := hYx
      have HTS := Lib.hid hts
      clear hc hc9 hlow hx hts
      gi_wp2
      refine hR.mono ?_
      rintro e W3 (⟨rfl, hJ3, hk3⟩ | ⟨rfl, hJx3⟩)
      · gi_wp2
        go_roundw
        case rel => exact ⟨k + 1, by omega, by simp, by rw [HTS.out]; exact hJ3, hbb.trans hk3⟩
        case measure => simp [intOf]; omega
      · gi_wp2
        refine bodyPost_ret (results_none rfl _ _ _) rfl ?_
        exact ⟨⟨_, rfl⟩, .inr ⟨_, trivial, hJx3⟩⟩
    · obtain rfl : k = len := by omega
      gi_wp2
      go_end0
      exact ⟨⟨_, rfl⟩, .inl ⟨_, rfl, by rw [← hzl, List.take_length] at hJs; exact hJs⟩⟩

theorem values_anyE {w : World} (a : Option Addr) (n c : Nat) :
    Calls Tryz.prog 49 #[.slice a n c] w fun e w' => e = .returned (.func (.func 69) #[] #[.pointer (some ⟨w.heap.size, 0, none⟩)]) ∧ w' = w.alloc (.cells #[.slice a n c] 22) := by
  go_enter Tryz.func49, Tryz.ntmps49
  go_wp2_with fail
  go_ret
  exact ⟨rfl, rfl⟩

theorem seq_stopsE (n : Nat) (hn : 1 ≤ n) (Bs n₀ len cap : Nat) (sa : Option Addr) (zs : List EntV) (hlen : len ≤ 100000) (w : World) (hBs : Bs < w.heap.size) (hn₀ : n₀ ≤ w.heap.size)
    (hc : w.cell? ⟨Bs, 0, none⟩ = some (.slice sa len cap)) (hv : VecAt EntS w sa len cap zs) (hlow : ∀ b off s, 0 < len → sa = some ⟨b, off, s⟩ → b < n₀) :
    SeqStopsK Fence.wide n Tryz.prog 69 #[.pointer (some ⟨Bs, 0, none⟩)] (fun x : EntV => #[entV x]) (Below n₀) (fun ys => ys = zs) (fun _ => True) len w := fun l J Jx W hW hJ _ hY h0 =>
  seq_values1E n hn l Bs n₀ len cap sa zs hlen J Jx hY (fun pre W' o hs => hJ _ _ _ none hs (World.grownBy_alloc W' o none) (by simp)) W (Nat.le_trans hn₀ hW.size) ((hW.cell (p := ⟨Bs, 0, none⟩) hBs).trans hc) (hv.kept hW) hlow h0

end Go.Proofs.YtadfmenlpnibnaaGreat
end PkMS4_5
section PkMS4_6
/- slices.AppendSeq, Collect over entries, walked. Written by genapse2.py. -/
namespace Go.Proofs.YtadfmenlpnibnaaGreat
open Go.RowKit Go.Shelf
set_option linter.unusedVariables false
attribute [local go_sem] Oper.semAt_some

theorem infoAE : (Tryz.prog.info? 42).map (fun i => (i.zero, i.size, i.bytes)) = some (some (.agg #[.string ByteArray.empty, .int .i64 0, .string ByteArray.empty, .int .i64 0, .int .i64 0, .int .i64 0, .int .i64 0, .int .u32 0, .int .i64 0]), 9, 88) := by kernel_rfl
/-- the round's variable: its box, and the slots -/
def AxE (w : World) (gf : Nat) (lb : Array Value) (x : EntV) (a' : Act) (W : World) : Prop := ∃ bk, w.heap.size < bk ∧ W.heap[bk]? = some (.cells (EntS.f x).toArray 42 (0, 0)) ∧ a' = { tmps := #[.slice none 0 0, .func (.func gf) #[] lb, .pointer (some ⟨w.heap.size, 0, none⟩), undef, .slice none 0 0, .pointer (some ⟨bk, 0, none⟩), .func (.func gf) #[] lb, entV x, undef, undef, undef, undef, undef], defers := [] }
theorem AxE.own (w : World) (gf : Nat) (lb : Array Value) (B : Nat) (x : EntV) (a' : Act) : OwnFrom B (fun (_ : Unit) W => AxE w gf lb x a' W) := by
  rintro _ X Y row ⟨bk, h0, h1, h2⟩ hg hr
  refine ⟨bk, h0, (hg.block bk (Array.getElem?_eq_some_iff.1 h1).1 (fun e => ?_)).trans h1, h2⟩
  obtain ⟨_, o, ho, hc⟩ := hr bk e.symm
  rw [h1] at ho; cases ho; cases hc
set_option maxRecDepth 100000 in
set_option maxHeartbeats 4000000 in
theorem append_seqE (n : Nat) (hn : 3 ≤ n) {w : World} {gf : Nat} {lb : Array Value} (eg : ∀ args w, (callFunc gf args).run Tryz.prog w = .ok (.enter gf args) w) {S : List EntV → Prop} {N : Nat} (hl : N ≤ 100000)
    (hseq : ∀ m, 1 ≤ m → SeqStopsK Fence.wide m Tryz.prog gf lb (fun x : EntV => #[entV x]) (fun A B => Below w.heap.size A B ∧ KeepsWalks A B) S (fun _ => True) N w) :
    CallsIn Fence.wide n Tryz.prog 75 #[.slice none 0 0, .func (.func gf) #[] lb] w fun e W' => ∃ v ys, S ys ∧ e = .returned v ∧ W'.ownsRow w.heap.size 42 9 v ys.length (EntS.flat ys) ∧ Below w.heap.size w W' := by
  have h1 : 1 ≤ n := by omega
  have hml : N ≤ maxLen := by unfold maxLen; omega
  obtain ⟨i0, hi, hz0, hz1, hz2⟩ := info_parts infoAE
  refine callsIn_of_wp_marks Tryz.func75 rfl trivial ?_ rfl
  simp only [Tryz.ntmps75, List.size_toArray, List.length_cons, List.length_nil, Nat.reduceAdd, Nat.reduceSub, Array.replicate_succ, Array.replicate_zero, List.push_toArray, List.append_toArray, List.nil_append, List.cons_append]
  gi_wp2
  have bO := Boxed.new w 22 (.slice none 0 0)
  have hB0 : Below w.heap.size w (w.alloc (.cells #[.slice none 0 0] 22)) := (Below.refl _ w).alloc (Nat.le_refl _) _
  refine wpIn_rangeFunc_ownH rfl h1 (gf := gf) (lb := lb) rfl trivial eg
    (hseq (n - 1) (by omega)) (fun h k => ⟨h.1.trans k.1, h.2.trans k.2⟩) (fun W l o o' h1 h2 h3 h4 => ⟨belowK_b (by simp) W l o o' h1 h2 h3 h4, walksK_b W l o o' h1 h2 h3 h4⟩) hB0 (fun _ => rfl)
    (fun pre W => (∃ v, Boxed W w.heap.size 22 v ∧ W.ownsRow w.heap.size 42 9 v pre.length (EntS.flat pre) ∧ True) ∧ Below w.heap.size w W)
    (fun _ _ _ => False)
    (OwnFrom.and (Own.from (holdsRow_own w.heap.size w.heap.size 22 42 9 (fun pre : List EntV => pre.length) (fun pre => EntS.flat pre) (fun pre v => True)) _) (ownFrom_below (Nat.le_refl _) (by simp)))
    (fun _ _ _ _ _ hs _ _ => hs)
    ⟨⟨_, bO, World.ownsRow_nil _ _ _ _, trivial⟩, hB0⟩
    (AxE w gf lb) (fun x a' => AxE.own w gf lb _ x a') ?assign ?body ?done ?stop
  case assign =>
    rintro l' pre x W K ⟨⟨v, hv, hrow, _⟩, hB⟩ hK
    obtain ⟨x0, x1, x2, x3, x4, x5, x6, x7, x8⟩ := x
    have hws : w.heap.size < W.heap.size := hv.lt
    have hK2 := hK { tmps := #[.slice none 0 0, .func (.func gf) #[] lb, .pointer (some ⟨w.heap.size, 0, none⟩), undef, .slice none 0 0, .pointer (some ⟨W.heap.size, 0, none⟩), .func (.func gf) #[] lb, entV (⟨x0, x1, x2, x3, x4, x5, x6, x7, x8⟩ : EntV), undef, undef, undef, undef, undef], defers := [] } (W.alloc (.cells #[.string x0, .int .i64 x1, .string x2, .int .i64 x3, .int .i64 x4, .int .i64 x5, .int .i64 x6, .int .u32 x7, .int .i64 x8] 42)) (KeepsFrom.of_grownBy (row := none) (World.grownBy_alloc W _ none) (fun j hj => by cases hj)) ⟨(Below.refl _ W).alloc (Nat.le_of_lt hws) _, KeepsWalks.alloc _ _⟩ ⟨⟨v, hv.alloc _, hrow.alloc _, trivial⟩, hB.alloc (Nat.le_of_lt hws) _⟩ ⟨W.heap.size, hws, World.alloc_heap_new W _, rfl⟩
    unfold entV
    gi_wp2
    exact hK2
  case body =>
    rintro l' pre x a' W hlw hrec ⟨⟨v, hv, hrow, _⟩, hB⟩ ⟨bk, hbk, hblk, rfl⟩ hlt
    obtain ⟨x0, x1, x2, x3, x4, x5, x6, x7, x8⟩ := x
    have hc := hv.cell
    have d0 : W.cell? ⟨bk, 0, none⟩ = some (.string x0) := cell_blk hblk rfl
    have d1 : W.cell? ⟨bk, 1, none⟩ = some (.int .i64 x1) := cell_blk hblk rfl
    have d2 : W.cell? ⟨bk, 2, none⟩ = some (.string x2) := cell_blk hblk rfl
    have d3 : W.cell? ⟨bk, 3, none⟩ = some (.int .i64 x3) := cell_blk hblk rfl
    have d4 : W.cell? ⟨bk, 4, none⟩ = some (.int .i64 x4) := cell_blk hblk rfl
    have d5 : W.cell? ⟨bk, 5, none⟩ = some (.int .i64 x5) := cell_blk hblk rfl
    have d6 : W.cell? ⟨bk, 6, none⟩ = some (.int .i64 x6) := cell_blk hblk rfl
    have d7 : W.cell? ⟨bk, 7, none⟩ = some (.int .u32 x7) := cell_blk hblk rfl
    have d8 : W.cell? ⟨bk, 8, none⟩ = some (.int .i64 x8) := cell_blk hblk rfl
    have hsrc := EntS.src W (⟨x0, x1, x2, x3, x4, x5, x6, x7, x8⟩ : EntV) 42 (cs := #[.string x0, .int .i64 x1, .string x2, .int .i64 x3, .int .i64 x4, .int .i64 x5, .int .i64 x6, .int .u32 x7, .int .i64 x8]) rfl
    gi_wp2_with (gi_at_builtin; refine wpListIn_append_own _ rfl _ _ 22 rfl w.heap.size 42 i0 _ 9 88 Tryz.underlying22 hi hz0 hz1 hz2 rfl (by decide) _ _ _ rfl (hrow.alloc _) ⟨W.heap.size, 0, none⟩ 1 1 (EntS.f (⟨x0, x1, x2, x3, x4, x5, x6, x7, x8⟩ : EntV)) rfl rfl hsrc (EntS.one _) (by omega) (by omega) (by have := hB.size; simp; omega) ?_; intro v' w1 hown' hgrow _; obtain ⟨g', cap', rfl⟩ := ownsRow_succ hown'; obtain ⟨hv1, hv2, hr2, hk2, hb2⟩ := hv.appended (by decide) hrow hB.size (Nat.le_refl _) hown' hgrow; have hc1 := hv1.cell; have hf1 := hv1.frozen)
    exact ⟨hk2.from _, ⟨hb2, hk2.walks⟩, ⟨_, hv2, by rw [EntS.flat_snoc, List.length_append]; exact hr2, trivial⟩, hB.trans hb2⟩
  case done =>
    rintro D ys W hD hS ⟨⟨v, hv, hrow, _⟩, hB⟩ hK
    have hc := hv.cell
    gi_wp2
    refine ⟨by simp, .inl ⟨_, _, rfl, run_takeDeferred hK, ?_⟩⟩
    exact ⟨_, results_tmp rfl _ _ _, v, ys, hS, rfl, ownsRow_putObj hrow _ hK rfl, hB.trans (belowK_b (w := w) (Nat.le_refl _) W D _ _ (by simp at hD; omega) hK rfl rfl)⟩
  case stop =>
    rintro D c pre W _ _ h _
    exact h.elim
theorem collect_anyE {w : World} {gf : Nat} {lb : Array Value} (eg : ∀ args w, (callFunc gf args).run Tryz.prog w = .ok (.enter gf args) w) {S : List EntV → Prop} {N : Nat} (hl : N ≤ 100000)
    (hseq : ∀ m, 1 ≤ m → SeqStopsK Fence.wide m Tryz.prog gf lb (fun x : EntV => #[entV x]) (fun A B => Below w.heap.size A B ∧ KeepsWalks A B) S (fun _ => True) N w) :
    Calls Tryz.prog 57 #[.func (.func gf) #[] lb] w fun e W' => ∃ v ys, S ys ∧ e = .returned v ∧ W'.ownsRow w.heap.size 42 9 v ys.length (EntS.flat ys) ∧ Below w.heap.size w W' := by
  have HA := Lib.hid (callsIn_wide.1 (append_seqE 3 (by omega) eg hl hseq))
  clear hseq
  go_enter Tryz.func57, Tryz.ntmps57
  go_wp2_with fail
  refine HA.out.mono ?_
  rintro e w1 ⟨v, ys, hS, rfl, ho, hb⟩
  have HS := Lib.hid hS
  have HO := Lib.hid ho
  have HB := Lib.hid hb
  clear ho hb hS
  go_wp2_with fail
  first | go_ret2 | go_ret
  exact ⟨v, ys, HS.out, rfl, HO.out, HB.out⟩
theorem seq_kp {α : Type} {F : Fence} {n : Nat} {P : Program} {g : Nat} {lb : Array Value} {encs : α → Array Value} {Kp Kq : World → World → Prop} {S Sp : List α → Prop} {N : Nat} {w : World} (h : SeqStopsK F n P g lb encs Kp S Sp N w) (hk : ∀ A B, Kq A B → Kp A B) : SeqStopsK F n P g lb encs Kq S Sp N w :=
  fun l J Jx W hW hJ hJx hY h0 => h l J Jx W hW hJ hJx (fun pre x W1 h1 h2 => by
    obtain ⟨fn, tmps, assign, body, hy, hR⟩ := hY pre x W1 h1 h2
    exact ⟨fn, tmps, assign, body, hy, hR.mono (fun e W' h9 => h9.imp (fun g => ⟨g.1, g.2.1, hk _ _ g.2.2⟩) id)⟩) h0
end Go.Proofs.YtadfmenlpnibnaaGreat
end PkMS4_6
section PkMS4_7
/- A range over a map inside the fence: the step; maps.Values of entries. -/
namespace Go.Proofs.YtadfmenlpnibnaaGreat
open Go.RowKit Go.Shelf
open Go.Maps (Keyed)
set_option linter.unusedVariables false
attribute [local go_sem] Oper.semAt_some

section
variable {F : Fence} {n : Nat} {κ α : Type} {lit : κ → Lit} {f : α → Value} {l : List (κ × α)} {T : MTy} {w w' : World} {M r cnt : Nat} {left : Lit → Bool}
theorem wpListIn_range_gm {ops : Array Oper} {rest : List Oper} {o : Oper} {a : Act} {Q : Exit → Act → World → Prop} (hg : o.guard = none) (m : Operand) (hop : o.op = Op.range T.t m) (hm : a.eval m = .map (some M)) (h : GM T lit f w M l)
    (hK : ∀ w', GR T lit f w' M w.heap.size l (Maps.has (.map (encK lit f l))) l.length → w.grownBy w' none → w'.heap.size = w.heap.size + 1 → wpListIn F n Tryz.prog ops Q rest (a.put o.dst (.pointer (some ⟨w.heap.size, 0, none⟩))) w') : wpListIn F n Tryz.prog ops Q (o :: rest) a w :=
  wpListIn_range_own w hg m T.t hop T.k T.e T.K T.ht heldR M l.length _ hm h fun w' h1 h2 h3 => hK w' (by rw [enc_size] at h1; exact h1) h2 h3
theorem wpListIn_next_gm {ops : Array Oper} {rest : List Oper} {o : Oper} {a : Act} {Q : Exit → Act → World → Prop} (hg : o.guard = none) (it : Operand) (hop : o.op = Op.next it false) (kv : κ → Value) (hkv : ∀ p ∈ l, keyOf Tryz.prog T.k (kv p.1) = some (lit p.1))
    (hit : a.eval it = .pointer (some ⟨r, 0, none⟩)) (h : GR T lit f w M r l left cnt)
    (hDone : (∀ kl, left kl = false) → wpListIn F n Tryz.prog ops Q rest (a.put o.dst (.tuple #[.bool false])) w)
    (hMore : ∀ (q : κ × α) (w' : World) (cnt' : Nat), q ∈ l → left (lit q.1) = true → GR T lit f w' M r l (fun z => left z && !z.sameKey (lit q.1)) cnt' → cnt' < cnt → w.grownBy w' (some r) → w'.heap.size = w.heap.size →
      (Instr.entry (.pointer (some ⟨r, 0, none⟩))).run Tryz.prog w' = .ok (.tuple #[kv q.1, f q.2]) w' → wpListIn F n Tryz.prog ops Q rest (a.put o.dst (.tuple #[.bool true, kv q.1, f q.2])) w') : wpListIn F n Tryz.prog ops Q (o :: rest) a w := by
  refine wpListIn_plain hg fun K' hK' => ?_
  unfold Oper.wpIn
  refine ⟨by simp [Oper.about, hop], ?_⟩
  rw [Oper.semAt_plain F _ _ (by rw [hop]; intro c hc'; cases hc')]
  rcases World.ranges.next h T.K o.type with ⟨h0, hl, hrun⟩ | ⟨key, v, kl, y, w', cnt', hkey, hlk, hv, hat, hrun, hrg, hlt, hgr, hsz, hen⟩
  · simp [execOp, hop, hit, hrun, Result.andThen]
    exact hK' _ _ (hDone hl)
  · obtain ⟨q, hq, rfl, hy⟩ := find_key hat
    have hv2 : v = f q.2 := by
      unfold heldR at hv
      have := congrArg (fun z => (z.map Prod.fst)) hv
      simp only [Option.map_some, Option.some.injEq] at this
      rw [hy] at this
      simpa using this
    have hk2 : key = kv q.1 := T.K.inj hkey (hkv q hq)
    subst hv2
    subst hk2
    simp [execOp, hop, hit, hrun, Result.andThen]
    exact hK' _ _ (hMore q w' cnt' hq hlk hrg hlt hgr hsz hen)
end
theorem mvalues_anyE {w : World} (b : Nat) :
    Calls Tryz.prog 27 #[.map (some b)] w fun e w' => e = .returned (.func (.func 59) #[] #[.pointer (some ⟨w.heap.size, 0, none⟩)]) ∧ w' = w.alloc (.cells #[.map (some b)] 54) := by
  go_enter Tryz.func27, Tryz.ntmps27
  go_wp2_with fail
  go_ret
  exact ⟨rfl, rfl⟩

theorem perm_of_mem {α : Type} {a b : List α} (ha : a.Nodup) (hb : b.Nodup) (h : ∀ x, x ∈ a ↔ x ∈ b) : a.Perm b := (List.perm_ext_iff_of_nodup ha hb).2 h
theorem nodup_apart {κ α : Type} {lit : κ → Lit} {l : List (κ × α)} (h : l.Pairwise fun p q => lit p.1 ≠ lit q.1) : l.Nodup := h.imp fun {a b} g e => g (by rw [e])
set_option maxRecDepth 100000 in
set_option maxHeartbeats 2000000 in
theorem mvals1E (n : Nat) (hn : 1 ≤ n) (l Bm M : Nat) (L : List (ByteArray × EntV)) (J Jx : List EntV → World → Prop)
    (hY : ∀ pre x W, J pre W → pre.length < L.length → YieldAt Fence.wide (n - 1) Tryz.prog l #[entV x] W fun e W' =>
      (e = .returned (.bool true) ∧ J (pre ++ [x]) W' ∧ KeepsWalks W W') ∨ (e = .returned (.bool false) ∧ Jx (pre ++ [x]) W'))
    (W : World) (hJ : AbidesFrom W.heap.size J) (hm : W.cell? ⟨Bm, 0, none⟩ = some (.map (some M))) (hE : EM W M L) (hks : ∀ p ∈ L, p.1.size ≤ 1000000000000000) (h0 : J [] W) :
    CallsIn Fence.wide n Tryz.prog 59 #[.func (.yield l) #[] #[], .pointer (some ⟨Bm, 0, none⟩)] W fun e W' => (∃ v, e = .returned v) ∧
      ((∃ ys, (∃ zs : List (ByteArray × EntV), zs.Perm L ∧ ys = zs.map (·.2)) ∧ J ys W') ∨ (∃ pre, True ∧ Jx pre W')) := by
  have HE := Lib.hid hE.gm
  have HAP := Lib.hid hE.gm.apart
  have HKV := Lib.hid (show ∀ x ∈ L, keyOf Tryz.prog TE.k (.string x.1) = some (slit x.1) from fun x hx => keyS (by have := hks x hx; unfold maxLen; omega))
  have HKY := Lib.hid hE.gm.key
  clear hE hks
  refine callsIn_of_wp Tryz.func59 rfl trivial ?_ rfl
  simp only [Tryz.ntmps59, List.size_toArray, List.length_cons, List.length_nil, Nat.reduceAdd, Nat.reduceSub, Array.replicate_succ, Array.replicate_zero, List.push_toArray, List.append_toArray, List.nil_append, List.cons_append]
  gi_wp2_with (first
    | (gi_at_range; refine wpListIn_range_gm (T := TE) (M := M) rfl _ rfl rfl HE.out ?_; intro W0 hrg0 hg0 hs0)
    | gi_in)
  go_frame
  gi_loopw [4] (fun _ wr => ∃ (left : Lit → Bool) (cnt : Nat) (ps : List (ByteArray × EntV)), Hid (GR TE slit entV wr M W.heap.size L left cnt) ∧ Hid (ps.length + cnt ≤ L.length) ∧ Hid (ps.Nodup ∧ ∀ p, p ∈ ps ↔ p ∈ L ∧ left (slit p.1) = false) ∧ J (ps.map (·.2)) wr)
    (fun _ wr => wr.rangeLeft M W.heap.size)
  case atStart =>
    refine ⟨_, _, [], Lib.hid hrg0, Lib.hid (by simp), Lib.hid ⟨List.nodup_nil, fun p => ⟨(fun h => by cases h), fun h => ?_⟩⟩, hJ [] W W0 none h0 hg0 (fun r e => by cases e)⟩
    have h1 : Maps.has (DataW.map (encK slit entV L)) (slit p.1) = true := List.any_eq_true.2 ⟨(slit p.1, .held (entV p.2)), List.mem_map.2 ⟨p, h.1, rfl⟩, WideAt.sameKey_self (HKY.out p h.1)⟩
    rw [h1] at h
    cases h.2
  case round =>
    obtain ⟨left, cnt, ps, HR, HC, HP, hJs⟩ := hrel
    rename World => wr
    gi_wp2_with (first
      | (gi_at_next; refine wpListIn_next_gm (T := TE) rfl _ rfl (fun k => .string k) HKV.out rfl HR.out ?_ ?_)
      | gi_in)
    · intro hl0
      have HL0 := Lib.hid hl0
      clear hl0
      gi_wp2
      go_end0
      exact ⟨⟨_, rfl⟩, .inl ⟨_, ⟨ps, perm_of_mem HP.out.1 (nodup_apart HAP.out) (fun p => by rw [HP.out.2, HL0.out]; simp), rfl⟩, hJs⟩⟩
    · intro k x w2 cnt2 hq hlk hrg2 hlt hg2 hs2 hen
      have hJ2 : J (ps.map (·.2)) w2 := hJ _ wr w2 (some W.heap.size) hJs hg2 (fun r e => by cases e; exact ⟨Nat.le_refl _, World.ranges.iter_walk HR.out⟩)
      have HRG2 := Lib.hid hrg2
      have HLT := Lib.hid hlt
      have HN : Hid ((ps ++ [(k, x)]).Nodup ∧ ∀ p, p ∈ ps ++ [(k, x)] ↔ p ∈ L ∧ (left (slit p.1) && !(slit p.1).sameKey (slit k)) = false) := by
        refine Lib.hid ⟨List.nodup_append.2 ⟨HP.out.1, by simp, ?_⟩, fun p => ?_⟩
        · intro a ha b hb e
          obtain rfl : b = (k, x) := by simpa using hb
          have := ((HP.out.2 a).1 ha).2
          rw [e] at this
          rw [this] at hlk
          cases hlk
        · rw [List.mem_append, HP.out.2, List.mem_singleton]
          constructor
          · rintro (⟨h1, h2⟩ | rfl)
            · exact ⟨h1, by rw [h2]; rfl⟩
            · exact ⟨hq, by rw [WideAt.sameKey_self (HKY.out _ hq)]; simp⟩
          · rintro ⟨h1, h2⟩
            by_cases e : slit p.1 = slit k
            · exact .inr (same_of (lit := slit) HAP.out hq h1 e)
            · rw [Maps.sameKey_ne e] at h2
              exact .inl ⟨h1, by simpa using h2⟩
      have hcl := HC.out
      obtain ⟨x0, x1, x2, x3, x4, x5, x6, x7, x8⟩ := x
      have hJ3 : J (ps.map (·.2)) (w2.alloc (.cells #[.string x0, .int .i64 x1, .string x2, .int .i64 x3, .int .i64 x4, .int .i64 x5, .int .i64 x6, .int .u32 x7, .int .i64 x8] 42)) := hJ _ w2 _ none hJ2 (World.grownBy_alloc w2 _ none) (fun r e => by cases e)
      have hYx := hY (ps.map (·.2)) (⟨x0, x1, x2, x3, x4, x5, x6, x7, x8⟩ : EntV) _ hJ3 (by simp; omega)
      have hYx2 : YieldAt Fence.wide (n - 1) Tryz.prog l #[.agg #[.string x0, .int .i64 x1, .string x2, .int .i64 x3, .int .i64 x4, .int .i64 x5, .int .i64 x6, .int .u32 x7, .int .i64 x8]] (w2.alloc (.cells #[.string x0, .int .i64 x1, .string x2, .int .i64 x3, .int .i64 x4, .int .i64 x5, .int .i64 x6, .int .u32 x7, .int .i64 x8] 42)) _ := hYx
      have hen2 : (Instr.entry (.pointer (some ⟨W.heap.size, 0, none⟩))).run Tryz.prog w2 = .ok (.tuple #[.string k, .agg #[.string x0, .int .i64 x1, .string x2, .int .i64 x3, .int .i64 x4, .int .i64 x5, .int .i64 x6, .int .u32 x7, .int .i64 x8]]) w2 := hen
      obtain ⟨fn, tmps, assign, body, hy, hR⟩ := hYx2
      clear hq hlk hrg2 hlt hg2 hs2 hen hcl hYx
      gi_wp2
      refine hR.mono ?_
      rintro e W3 (⟨rfl, hJ3, hk3⟩ | ⟨rfl, hJx3⟩)
      · have HK3 := Lib.hid ((KeepsWalks.alloc w2 _).trans hk3)
        clear hk3
        gi_wp2
        go_roundw
        case rel => exact ⟨_, cnt2, ps ++ [(k, ⟨x0, x1, x2, x3, x4, x5, x6, x7, x8⟩)], Lib.hid (World.ranges.of_walks HRG2.out HK3.out), Lib.hid (by have := HC.out; have := HLT.out; simp; omega), HN, by simpa using hJ3⟩
        case measure =>
          rw [(show GR TE slit entV W3 M W.heap.size L _ cnt2 from World.ranges.of_walks HRG2.out HK3.out).left_eq, HR.out.left_eq]
          exact HLT.out
      · gi_wp2
        refine bodyPost_ret (results_none rfl _ _ _) rfl ?_
        exact ⟨⟨_, rfl⟩, .inr ⟨_, trivial, hJx3⟩⟩
theorem mvals_seqE (n : Nat) (hn : 1 ≤ n) (Bm M : Nat) (L : List (ByteArray × EntV)) (w : World) (hBm : Bm < w.heap.size) (hm : w.cell? ⟨Bm, 0, none⟩ = some (.map (some M))) (hE : EM w M L) (hks : ∀ p ∈ L, p.1.size ≤ 1000000000000000) :
    SeqStopsK Fence.wide n Tryz.prog 59 #[.pointer (some ⟨Bm, 0, none⟩)] (fun x : EntV => #[entV x]) KeepsWalks (fun ys => ∃ zs : List (ByteArray × EntV), zs.Perm L ∧ ys = zs.map (·.2)) (fun _ => True) L.length w := fun l J Jx W hW hJ _ hY h0 =>
  mvals1E n hn l Bm M L J Jx hY W hJ ((hW.cell (p := ⟨Bm, 0, none⟩) hBm).trans hm) (GM.below hE hW) hks h0
end Go.Proofs.YtadfmenlpnibnaaGreat
end PkMS4_7
