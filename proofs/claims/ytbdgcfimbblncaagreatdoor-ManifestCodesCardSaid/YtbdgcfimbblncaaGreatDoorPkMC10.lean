/- Texts put together by packtpl2.py: MfCW, MfOpen, CrcLaid, TiedSh. -/
import Derived.Test.YtbdgcfimbblncaaGreatDoorPkMC1
import Derived.Test.YtbdgcfimbblncaaGreatDoorPkMC3
import Derived.Test.YtbdgcfimbblncaaGreatDoorPkMC4
import Derived.Test.YtbdgcfimbblncaaGreatDoorPkMC5
import Derived.Test.YtbdgcfimbblncaaGreatDoorPkMC8
import Derived.Test.YtbdgcfimbblncaaGreatDoorPkMC9
import Derived.Deep.Slices
import Derived.Deep.Fields
import Derived.SizedLaws
import Derived.OpenShut
import Derived.Test.YtbdgcfimbblncaaGreatDoorRows
import Derived.Lib.LaidTab
import Derived.MakeChecks
import Derived.Handed
import Derived.HandedShaped
section PkMC10_0
/- Manifests: the law ManifestCodes, walked. Written by genmfcw.py. -/
namespace Go.Proofs.YtbdgcfimbblncaaGreatDoor
open Go.RowKit NumsPlain LabPlain CrcPlain
set_option linter.unusedVariables false

def MaxAt (mx : Int) (w : World) : Prop := w.cell? ⟨1, 0, none⟩ = some (.int .i64 mx)
theorem MaxAt.below {mx : Int} {w w' : World} (h : MaxAt mx w) (hb : Below w.heap.size w w') : MaxAt mx w' := (hb.cell (p := ⟨1, 0, none⟩) (World.block_lt_of_cell? w _ h)).trans h
theorem par_any {mx : Int} {w : World} (h : MaxAt mx w) {le : List EntV} (hk : ∀ x ∈ le, x.part.size ≤ 1300) : ∀ (W : World) (x : EntV), x ∈ le → Below w.heap.size w W → Calls Tryz.prog 82 #[.string x.part] W fun e w' => ParIs (pfS x.part) e ∧ Below W.heap.size W w' := fun W x hx hb => by
  refine (parse_any x.part (hk x hx) mx W (h.below hb)).mono ?_
  rintro e w' ⟨a, n, c, rfl, _, hb2⟩
  exact ⟨⟨a, n, c, rfl⟩, hb2⟩

set_option maxRecDepth 100000 in
set_option maxHeartbeats 2000000 in
theorem mencode_no {w : World} (pf : ByteArray → Int) {s d hz : Int} {ea ma oa : Option Addr} {en ec mn mc on oc : Nat} {le : List EntV} {lm : List (Int × Int)} {lo : List (Int × Int × Int)} (hE : VecAt EntS w ea en ec le) (hM : VecAt MarkS w ma mn mc lm) (hO : VecAt OwnS w oa on oc lo) (hP : ∀ (W : World) (x : EntV), x ∈ le → Below w.heap.size w W → Calls Tryz.prog 82 #[.string x.part] W fun e w' => ParIs (pf x.part) e ∧ Below W.heap.size W w')
    (h : ¬ IsMan pf s d hz en le mn lm on lo) :
    Calls Tryz.prog 9 #[.agg #[.int .i64 s, .int .i64 d, .int .i64 hz, .slice ea en ec, .slice ma mn mc, .slice oa on oc]] w fun e w' => e = .returned (.tuple #[.slice none 0 0, .int .i64 4]) ∧ Below w.heap.size w w' := by
  obtain ⟨wa, hwa⟩ : ∃ wa, wa = w.alloc (.cells #[.int .i64 s, .int .i64 d, .int .i64 hz, .slice ea en ec, .slice ma mn mc, .slice oa on oc] 26) := ⟨_, rfl⟩
  have ba : Below w.heap.size w wa := by rw [hwa]; exact (Below.refl _ _).alloc (Nat.le_refl _) _
  have HR := Lib.hid (mright_any pf (hE.kept ba) (hM.kept ba) (hO.kept ba) (s := s) (d := d) (hz := hz) (fun W x hx hb => hP W x hx (ba.trans (hb.mono ba.size))))
  have HIM := Lib.hid h
  have HBA := Lib.hid ba
  have HWA := Lib.hid hwa
  clear hE hM hO hP h hwa ba
  go_enter Tryz.func9, Tryz.ntmps9
  go_wp2_with fail
  rw [← HWA.out]
  go_wp2_with fail
  refine HR.out.mono ?_
  rintro e w1 ⟨⟨b1, rfl, hb1⟩, hbl⟩
  have hbf : b1 = false := by
    cases b1 with
    | false => rfl
    | true => exact absurd (hb1.1 rfl) HIM.out
  subst hbf
  have HB1 := Lib.hid (HBA.out.trans (hbl.mono HBA.out.size))
  clear hb1 hbl
  go_wp2_with fail
  go_ret2
  exact ⟨rfl, HB1.out⟩

set_option maxRecDepth 100000 in
set_option maxHeartbeats 8000000 in
theorem codes_yes {w : World} (hT : Table w) {mx : Int} (hmx : MaxAt mx w) {ns nd nh : Nat} {ea ma oa : Option Addr} {en ec mn mc on oc : Nat} {le : List EntV} {lm : List (Int × Int)} {lo : List (Int × Int × Int)} (hE : VecAt EntS w ea en ec le) (hM : VecAt MarkS w ma mn mc lm) (hO : VecAt OwnS w oa on oc lo) (hman : IsMan pfS ns nd nh en le mn lm on lo) :
    Calls Tryz.prog 3 #[.agg #[.int .i64 (ns : Int), .int .i64 (nd : Int), .int .i64 (nh : Int), .slice ea en ec, .slice ma mn mc, .slice oa on oc]] w fun e w' => e = .returned (.bool true) ∧ Below w.heap.size w w' := by
  obtain ⟨wa, hwa⟩ : ∃ wa, wa = w.alloc (.cells #[.int .i64 (ns : Int), .int .i64 (nd : Int), .int .i64 (nh : Int), .slice ea en ec, .slice ma mn mc, .slice oa on oc] 26) := ⟨_, rfl⟩
  have ba : Below w.heap.size w wa := by rw [hwa]; exact (Below.refl _ _).alloc (Nat.le_refl _) _
  have ga : wa.heap[w.heap.size]? = some (.cells #[.int .i64 (ns : Int), .int .i64 (nd : Int), .int .i64 (nh : Int), .slice ea en ec, .slice ma mn mc, .slice oa on oc] 26 (0, 0)) := by rw [hwa]; exact heap_alloc_new _ _
  have HT := Lib.hid hT
  have HX := Lib.hid hmx
  have HE := Lib.hid hE
  have HM := Lib.hid hM
  have HO := Lib.hid hO
  have HMAN := Lib.hid hman
  have HBA := Lib.hid ba
  have HGA := Lib.hid ga
  have HWA := Lib.hid hwa
  have HLV := Lib.hid (fun W : World => lives_true W)
  clear hwa ba ga hT hmx hE hM hO hman
  go_enter Tryz.func3, Tryz.ntmps3
  go_wp2_with fail
  rw [← HWA.out]
  refine (HLV.out _).mono ?_
  rintro e w1 ⟨rfl, hb1⟩
  have B1 := Lib.hid (HBA.out.trans (hb1.mono HBA.out.size))
  have G1 := Lib.hid ((hb1.block w.heap.size (Array.getElem?_eq_some_iff.1 HGA.out).1).trans HGA.out)
  have HFEW := Lib.hid (few_says (w := w1) (s := ns) (d := nd) (hz := nh) (ma := ma) (mn := mn) (mc := mc) (oa := oa) (on := on) (oc := oc) (HE.out.kept B1.out))
  have a0 : w1.cell? ⟨w.heap.size, 0, none⟩ = some (.int .i64 (ns : Int)) := cell_blk9 G1.out rfl
  have a1 : w1.cell? ⟨w.heap.size, 1, none⟩ = some (.int .i64 (nd : Int)) := cell_blk9 G1.out rfl
  have a2 : w1.cell? ⟨w.heap.size, 2, none⟩ = some (.int .i64 (nh : Int)) := cell_blk9 G1.out rfl
  have a3 : w1.cell? ⟨w.heap.size, 3, none⟩ = some (.slice ea en ec) := cell_blk9 G1.out rfl
  have a4 : w1.cell? ⟨w.heap.size, 4, none⟩ = some (.slice ma mn mc) := cell_blk9 G1.out rfl
  have a5 : w1.cell? ⟨w.heap.size, 5, none⟩ = some (.slice oa on oc) := cell_blk9 G1.out rfl
  clear hb1
  go_wp2_with fail
  refine HFEW.out.mono ?_
  rintro e w2 ⟨⟨b2, rfl, hfew⟩, hb2⟩
  have B2 := Lib.hid (B1.out.trans (hb2.mono B1.out.size))
  have G2 := Lib.hid ((hb2.block w.heap.size (Array.getElem?_eq_some_iff.1 G1.out).1).trans G1.out)
  have HF := Lib.hid hfew
  clear hb2 hfew a0 a1 a2 a3 a4 a5
  cases b2 with
  | false =>
    go_wp2_with fail
    refine (HLV.out _).mono ?_
    rintro e w3 ⟨rfl, hb3⟩
    have B3 := Lib.hid (B2.out.trans (hb3.mono B2.out.size))
    clear hb3
    go_wp2_with fail
    go_ret
    exact ⟨rfl, B3.out⟩
  | true =>
  obtain ⟨f1, f2, f3, f4⟩ := HF.out (by first | rfl | trivial)
  have HSZ := Lib.hid (FewIs.all HE.out f4)
  have HK := Lib.hid (show ∀ x ∈ le, x.key.size ≤ 100 ∧ x.part.size ≤ 1300 from fun x hx => ⟨(HSZ.out x hx).1, by have := (HSZ.out x hx).2; omega⟩)
  have HTW := Lib.hid (rtwin13_any (s := ns) (d := nd) (hz := nh) (HE.out.kept B2.out) (HM.out.kept B2.out) (HO.out.kept B2.out) (by omega) (by omega) (by omega))
  have d0 : w2.cell? ⟨w.heap.size, 0, none⟩ = some (.int .i64 (ns : Int)) := cell_blk9 G2.out rfl
  have d1 : w2.cell? ⟨w.heap.size, 1, none⟩ = some (.int .i64 (nd : Int)) := cell_blk9 G2.out rfl
  have d2 : w2.cell? ⟨w.heap.size, 2, none⟩ = some (.int .i64 (nh : Int)) := cell_blk9 G2.out rfl
  have d3 : w2.cell? ⟨w.heap.size, 3, none⟩ = some (.slice ea en ec) := cell_blk9 G2.out rfl
  have d4 : w2.cell? ⟨w.heap.size, 4, none⟩ = some (.slice ma mn mc) := cell_blk9 G2.out rfl
  have d5 : w2.cell? ⟨w.heap.size, 5, none⟩ = some (.slice oa on oc) := cell_blk9 G2.out rfl
  clear f4
  go_wp2_with fail
  refine HTW.out.mono ?_
  rintro e w3 ⟨ea', ec', ma', mc', oa', oc', rfl, hE3, hM3, hO3, hb3⟩
  have B3 := Lib.hid (B2.out.trans (hb3.mono B2.out.size))
  have G3 := Lib.hid ((hb3.block w.heap.size (Array.getElem?_eq_some_iff.1 G2.out).1).trans G2.out)
  obtain ⟨w4, hw4⟩ : ∃ w4, w4 = w3.alloc (.cells #[.int .i64 (ns : Int), .int .i64 (nd : Int), .int .i64 (nh : Int), .slice ea' en ec', .slice ma' mn mc', .slice oa' on oc'] 26) := ⟨_, rfl⟩
  have b34 : Below w3.heap.size w3 w4 := by rw [hw4]; exact (Below.refl _ _).alloc (Nat.le_refl _) _
  have g4 : w4.heap[w3.heap.size]? = some (.cells #[.int .i64 (ns : Int), .int .i64 (nd : Int), .int .i64 (nh : Int), .slice ea' en ec', .slice ma' mn mc', .slice oa' on oc'] 26 (0, 0)) := by rw [hw4]; exact heap_alloc_new _ _
  have B4 := Lib.hid (B3.out.trans (b34.mono B3.out.size))
  have G4 := Lib.hid ((b34.block w.heap.size (Array.getElem?_eq_some_iff.1 G3.out).1).trans G3.out)
  have K4 := Lib.hid g4
  have VE := Lib.hid (hE3.kept b34)
  have VM := Lib.hid (hM3.kept b34)
  have VO := Lib.hid (hO3.kept b34)
  have HW4 := Lib.hid hw4
  have HEN := Lib.hid (mencode_nat (w := w4) (HT.out.below B4.out) pfS VE.out VM.out VO.out (par_any (HX.out.below B4.out) (fun x hx => (HK.out x hx).2)) HMAN.out HK.out f2 f3)
  have HL3 := Lib.hid (Array.getElem?_eq_some_iff.1 g4).1
  clear hb3 hE3 hM3 hO3 b34 g4 hw4 d0 d1 d2 d3 d4 d5
  go_wp2_with fail
  rw [← HW4.out]
  refine HEN.out.mono ?_
  rintro e w5 ⟨⟨a9, c9, rfl, hby⟩, hb5⟩
  have B5 := Lib.hid (B4.out.trans (hb5.mono B4.out.size))
  have G5 := Lib.hid ((hb5.block w.heap.size (Array.getElem?_eq_some_iff.1 G4.out).1).trans G4.out)
  have K5 := Lib.hid ((hb5.block w3.heap.size HL3.out).trans K4.out)
  have VE5 := Lib.hid (VE.out.kept hb5)
  have VM5 := Lib.hid (VM.out.kept hb5)
  have VO5 := Lib.hid (VO.out.kept hb5)
  have HY5 := Lib.hid (hby)
  clear hby
  have HRR := Lib.hid (rright_man (w := w5) (s := ns) (d := nd) (hz := nh) (HE.out.kept B5.out) (HM.out.kept B5.out) (HO.out.kept B5.out) (fun x hx => (HK.out x hx).2))
  have e0 : w5.cell? ⟨w.heap.size, 0, none⟩ = some (.int .i64 (ns : Int)) := cell_blk9 G5.out rfl
  have e1 : w5.cell? ⟨w.heap.size, 1, none⟩ = some (.int .i64 (nd : Int)) := cell_blk9 G5.out rfl
  have e2 : w5.cell? ⟨w.heap.size, 2, none⟩ = some (.int .i64 (nh : Int)) := cell_blk9 G5.out rfl
  have e3 : w5.cell? ⟨w.heap.size, 3, none⟩ = some (.slice ea en ec) := cell_blk9 G5.out rfl
  have e4 : w5.cell? ⟨w.heap.size, 4, none⟩ = some (.slice ma mn mc) := cell_blk9 G5.out rfl
  have e5 : w5.cell? ⟨w.heap.size, 5, none⟩ = some (.slice oa on oc) := cell_blk9 G5.out rfl
  clear hb5
  go_wp2_with fail
  refine HRR.out.mono ?_
  rintro e w6 ⟨⟨b6, rfl, hb6⟩, hbl6⟩
  obtain rfl : b6 = true := hb6.2 HMAN.out
  have B6 := Lib.hid (B5.out.trans (hbl6.mono B5.out.size))
  have G6 := Lib.hid ((hbl6.block w.heap.size (Array.getElem?_eq_some_iff.1 G5.out).1).trans G5.out)
  have K6 := Lib.hid ((hbl6.block w3.heap.size (Array.getElem?_eq_some_iff.1 K5.out).1).trans K5.out)
  have VE6 := Lib.hid (VE5.out.kept hbl6)
  have VM6 := Lib.hid (VM5.out.kept hbl6)
  have VO6 := Lib.hid (VO5.out.kept hbl6)
  have HY6 := Lib.hid (HY5.out.kept hbl6)
  have HMR := Lib.hid (mright_any (w := w6) pfS (s := ns) (d := nd) (hz := nh) VE6.out VM6.out VO6.out (par_any (HX.out.below B6.out) (fun x hx => (HK.out x hx).2)))
  have g0 : w6.cell? ⟨w3.heap.size, 0, none⟩ = some (.int .i64 (ns : Int)) := cell_blk9 K6.out rfl
  have g1 : w6.cell? ⟨w3.heap.size, 1, none⟩ = some (.int .i64 (nd : Int)) := cell_blk9 K6.out rfl
  have g2 : w6.cell? ⟨w3.heap.size, 2, none⟩ = some (.int .i64 (nh : Int)) := cell_blk9 K6.out rfl
  have g3 : w6.cell? ⟨w3.heap.size, 3, none⟩ = some (.slice ea' en ec') := cell_blk9 K6.out rfl
  have g4 : w6.cell? ⟨w3.heap.size, 4, none⟩ = some (.slice ma' mn mc') := cell_blk9 K6.out rfl
  have g5 : w6.cell? ⟨w3.heap.size, 5, none⟩ = some (.slice oa' on oc') := cell_blk9 K6.out rfl
  clear hb6 hbl6 e0 e1 e2 e3 e4 e5
  go_wp2_with fail
  refine HMR.out.mono ?_
  rintro e w7 ⟨⟨b7, rfl, hb7⟩, hbl7⟩
  obtain rfl : b7 = true := hb7.2 HMAN.out
  have B7 := Lib.hid (B6.out.trans (hbl7.mono B6.out.size))
  have G7 := Lib.hid ((hbl7.block w.heap.size (Array.getElem?_eq_some_iff.1 G6.out).1).trans G6.out)
  have K7 := Lib.hid ((hbl7.block w3.heap.size (Array.getElem?_eq_some_iff.1 K6.out).1).trans K6.out)
  have VE7 := Lib.hid (VE6.out.kept hbl7)
  have VM7 := Lib.hid (VM6.out.kept hbl7)
  have VO7 := Lib.hid (VO6.out.kept hbl7)
  have HY7 := Lib.hid (HY6.out.kept hbl7)
  have HSM := Lib.hid (rsame13_any (w := w7) (s := ns) (s2 := ns) (d := nd) (d2 := nd) (hz := nh) (hz2 := nh) VE7.out VM7.out VO7.out (HE.out.kept B7.out) (HM.out.kept B7.out) (HO.out.kept B7.out))
  have k0 : w7.cell? ⟨w3.heap.size, 0, none⟩ = some (.int .i64 (ns : Int)) := cell_blk9 K7.out rfl
  have k1 : w7.cell? ⟨w3.heap.size, 1, none⟩ = some (.int .i64 (nd : Int)) := cell_blk9 K7.out rfl
  have k2 : w7.cell? ⟨w3.heap.size, 2, none⟩ = some (.int .i64 (nh : Int)) := cell_blk9 K7.out rfl
  have k3 : w7.cell? ⟨w3.heap.size, 3, none⟩ = some (.slice ea' en ec') := cell_blk9 K7.out rfl
  have k4 : w7.cell? ⟨w3.heap.size, 4, none⟩ = some (.slice ma' mn mc') := cell_blk9 K7.out rfl
  have k5 : w7.cell? ⟨w3.heap.size, 5, none⟩ = some (.slice oa' on oc') := cell_blk9 K7.out rfl
  have l0 : w7.cell? ⟨w.heap.size, 0, none⟩ = some (.int .i64 (ns : Int)) := cell_blk9 G7.out rfl
  have l1 : w7.cell? ⟨w.heap.size, 1, none⟩ = some (.int .i64 (nd : Int)) := cell_blk9 G7.out rfl
  have l2 : w7.cell? ⟨w.heap.size, 2, none⟩ = some (.int .i64 (nh : Int)) := cell_blk9 G7.out rfl
  have l3 : w7.cell? ⟨w.heap.size, 3, none⟩ = some (.slice ea en ec) := cell_blk9 G7.out rfl
  have l4 : w7.cell? ⟨w.heap.size, 4, none⟩ = some (.slice ma mn mc) := cell_blk9 G7.out rfl
  have l5 : w7.cell? ⟨w.heap.size, 5, none⟩ = some (.slice oa on oc) := cell_blk9 G7.out rfl
  clear hb7 hbl7 g0 g1 g2 g3 g4 g5
  go_wp2_with fail
  refine HSM.out.mono ?_
  rintro e w8 ⟨⟨b8, rfl, hb8⟩, hbl8⟩
  obtain rfl : b8 = true := hb8.2 ⟨rfl, rfl, rfl, rfl, rfl, rfl⟩
  have B8 := Lib.hid (B7.out.trans (hbl8.mono B7.out.size))
  have G8 := Lib.hid ((hbl8.block w.heap.size (Array.getElem?_eq_some_iff.1 G7.out).1).trans G7.out)
  have HY8 := Lib.hid (HY7.out.kept hbl8)
  clear hb8 hbl8 k0 k1 k2 k3 k4 k5 l0 l1 l2 l3 l4 l5
  obtain ⟨hI, hNE, hNM, hNO⟩ := man_nat HMAN.out HE.out.len HM.out.len HO.out.len HK.out (fun x hx => (HE.out.all x hx).2.2)
  have hI3 : ns ≤ 1099511627775 ∧ nd ≤ 1099511627775 ∧ nh ≤ 1099511627775 := by
    obtain ⟨q1, q2, q3⟩ := hI
    unfold InR at q1 q2 q3
    omega
  have HEN2 := Lib.hid (rencode_nat (w := w8) (HE.out.kept B8.out) (HM.out.kept B8.out) (HO.out.kept B8.out) hI3.1 hI3.2.1 hI3.2.2 hNE hNM hNO f1 f2 f3)
  clear hI hNE hNM hNO hI3
  have r0 : w8.cell? ⟨w.heap.size, 0, none⟩ = some (.int .i64 (ns : Int)) := cell_blk9 G8.out rfl
  have r1 : w8.cell? ⟨w.heap.size, 1, none⟩ = some (.int .i64 (nd : Int)) := cell_blk9 G8.out rfl
  have r2 : w8.cell? ⟨w.heap.size, 2, none⟩ = some (.int .i64 (nh : Int)) := cell_blk9 G8.out rfl
  have r3 : w8.cell? ⟨w.heap.size, 3, none⟩ = some (.slice ea en ec) := cell_blk9 G8.out rfl
  have r4 : w8.cell? ⟨w.heap.size, 4, none⟩ = some (.slice ma mn mc) := cell_blk9 G8.out rfl
  have r5 : w8.cell? ⟨w.heap.size, 5, none⟩ = some (.slice oa on oc) := cell_blk9 G8.out rfl
  go_wp2_with fail
  refine HEN2.out.mono ?_
  rintro e w9 ⟨a8, c8, rfl, hby8, hb9⟩
  have B9 := Lib.hid (B8.out.trans (hb9.mono B8.out.size))
  have HSA := Lib.hid (same_any (HY8.out.kept hb9) hby8)
  clear hby8 hb9 r0 r1 r2 r3 r4 r5
  go_wp2_with fail
  refine HSA.out.mono ?_
  rintro e w10 ⟨rfl, rfl⟩
  rw [beq_self_eq_true]
  go_wp2_with fail
  go_ret
  exact ⟨rfl, B9.out⟩

set_option maxRecDepth 100000 in
set_option maxHeartbeats 8000000 in
theorem codes_no {w : World} (hT : Table w) {mx : Int} (hmx : MaxAt mx w) {s d hz : Int} {ea ma oa : Option Addr} {en ec mn mc on oc : Nat} {le : List EntV} {lm : List (Int × Int)} {lo : List (Int × Int × Int)} (hE : VecAt EntS w ea en ec le) (hM : VecAt MarkS w ma mn mc lm) (hO : VecAt OwnS w oa on oc lo) (hman : ¬ IsMan pfS s d hz en le mn lm on lo) :
    Calls Tryz.prog 3 #[.agg #[.int .i64 s, .int .i64 d, .int .i64 hz, .slice ea en ec, .slice ma mn mc, .slice oa on oc]] w fun e w' => e = .returned (.bool true) ∧ Below w.heap.size w w' := by
  obtain ⟨wa, hwa⟩ : ∃ wa, wa = w.alloc (.cells #[.int .i64 s, .int .i64 d, .int .i64 hz, .slice ea en ec, .slice ma mn mc, .slice oa on oc] 26) := ⟨_, rfl⟩
  have ba : Below w.heap.size w wa := by rw [hwa]; exact (Below.refl _ _).alloc (Nat.le_refl _) _
  have ga : wa.heap[w.heap.size]? = some (.cells #[.int .i64 s, .int .i64 d, .int .i64 hz, .slice ea en ec, .slice ma mn mc, .slice oa on oc] 26 (0, 0)) := by rw [hwa]; exact heap_alloc_new _ _
  have HT := Lib.hid hT
  have HX := Lib.hid hmx
  have HE := Lib.hid hE
  have HM := Lib.hid hM
  have HO := Lib.hid hO
  have HMAN := Lib.hid hman
  have HBA := Lib.hid ba
  have HGA := Lib.hid ga
  have HWA := Lib.hid hwa
  have HLV := Lib.hid (fun W : World => lives_true W)
  clear hwa ba ga hT hmx hE hM hO hman
  go_enter Tryz.func3, Tryz.ntmps3
  go_wp2_with fail
  rw [← HWA.out]
  refine (HLV.out _).mono ?_
  rintro e w1 ⟨rfl, hb1⟩
  have B1 := Lib.hid (HBA.out.trans (hb1.mono HBA.out.size))
  have G1 := Lib.hid ((hb1.block w.heap.size (Array.getElem?_eq_some_iff.1 HGA.out).1).trans HGA.out)
  have HFEW := Lib.hid (few_says (w := w1) (s := s) (d := d) (hz := hz) (ma := ma) (mn := mn) (mc := mc) (oa := oa) (on := on) (oc := oc) (HE.out.kept B1.out))
  have a0 : w1.cell? ⟨w.heap.size, 0, none⟩ = some (.int .i64 s) := cell_blk9 G1.out rfl
  have a1 : w1.cell? ⟨w.heap.size, 1, none⟩ = some (.int .i64 d) := cell_blk9 G1.out rfl
  have a2 : w1.cell? ⟨w.heap.size, 2, none⟩ = some (.int .i64 hz) := cell_blk9 G1.out rfl
  have a3 : w1.cell? ⟨w.heap.size, 3, none⟩ = some (.slice ea en ec) := cell_blk9 G1.out rfl
  have a4 : w1.cell? ⟨w.heap.size, 4, none⟩ = some (.slice ma mn mc) := cell_blk9 G1.out rfl
  have a5 : w1.cell? ⟨w.heap.size, 5, none⟩ = some (.slice oa on oc) := cell_blk9 G1.out rfl
  clear hb1
  go_wp2_with fail
  refine HFEW.out.mono ?_
  rintro e w2 ⟨⟨b2, rfl, hfew⟩, hb2⟩
  have B2 := Lib.hid (B1.out.trans (hb2.mono B1.out.size))
  have G2 := Lib.hid ((hb2.block w.heap.size (Array.getElem?_eq_some_iff.1 G1.out).1).trans G1.out)
  have HF := Lib.hid hfew
  clear hb2 hfew a0 a1 a2 a3 a4 a5
  cases b2 with
  | false =>
    go_wp2_with fail
    refine (HLV.out _).mono ?_
    rintro e w3 ⟨rfl, hb3⟩
    have B3 := Lib.hid (B2.out.trans (hb3.mono B2.out.size))
    clear hb3
    go_wp2_with fail
    go_ret
    exact ⟨rfl, B3.out⟩
  | true =>
  obtain ⟨f1, f2, f3, f4⟩ := HF.out (by first | rfl | trivial)
  have HSZ := Lib.hid (FewIs.all HE.out f4)
  have HK := Lib.hid (show ∀ x ∈ le, x.key.size ≤ 100 ∧ x.part.size ≤ 1300 from fun x hx => ⟨(HSZ.out x hx).1, by have := (HSZ.out x hx).2; omega⟩)
  have HTW := Lib.hid (rtwin13_any (s := s) (d := d) (hz := hz) (HE.out.kept B2.out) (HM.out.kept B2.out) (HO.out.kept B2.out) (by omega) (by omega) (by omega))
  have d0 : w2.cell? ⟨w.heap.size, 0, none⟩ = some (.int .i64 s) := cell_blk9 G2.out rfl
  have d1 : w2.cell? ⟨w.heap.size, 1, none⟩ = some (.int .i64 d) := cell_blk9 G2.out rfl
  have d2 : w2.cell? ⟨w.heap.size, 2, none⟩ = some (.int .i64 hz) := cell_blk9 G2.out rfl
  have d3 : w2.cell? ⟨w.heap.size, 3, none⟩ = some (.slice ea en ec) := cell_blk9 G2.out rfl
  have d4 : w2.cell? ⟨w.heap.size, 4, none⟩ = some (.slice ma mn mc) := cell_blk9 G2.out rfl
  have d5 : w2.cell? ⟨w.heap.size, 5, none⟩ = some (.slice oa on oc) := cell_blk9 G2.out rfl
  clear f4
  go_wp2_with fail
  refine HTW.out.mono ?_
  rintro e w3 ⟨ea', ec', ma', mc', oa', oc', rfl, hE3, hM3, hO3, hb3⟩
  have B3 := Lib.hid (B2.out.trans (hb3.mono B2.out.size))
  have G3 := Lib.hid ((hb3.block w.heap.size (Array.getElem?_eq_some_iff.1 G2.out).1).trans G2.out)
  obtain ⟨w4, hw4⟩ : ∃ w4, w4 = w3.alloc (.cells #[.int .i64 s, .int .i64 d, .int .i64 hz, .slice ea' en ec', .slice ma' mn mc', .slice oa' on oc'] 26) := ⟨_, rfl⟩
  have b34 : Below w3.heap.size w3 w4 := by rw [hw4]; exact (Below.refl _ _).alloc (Nat.le_refl _) _
  have g4 : w4.heap[w3.heap.size]? = some (.cells #[.int .i64 s, .int .i64 d, .int .i64 hz, .slice ea' en ec', .slice ma' mn mc', .slice oa' on oc'] 26 (0, 0)) := by rw [hw4]; exact heap_alloc_new _ _
  have B4 := Lib.hid (B3.out.trans (b34.mono B3.out.size))
  have G4 := Lib.hid ((b34.block w.heap.size (Array.getElem?_eq_some_iff.1 G3.out).1).trans G3.out)
  have K4 := Lib.hid g4
  have VE := Lib.hid (hE3.kept b34)
  have VM := Lib.hid (hM3.kept b34)
  have VO := Lib.hid (hO3.kept b34)
  have HW4 := Lib.hid hw4
  have HEN := Lib.hid (mencode_no (w := w4) pfS VE.out VM.out VO.out (par_any (HX.out.below B4.out) (fun x hx => (HK.out x hx).2)) HMAN.out)
  have HL3 := Lib.hid (Array.getElem?_eq_some_iff.1 g4).1
  clear hb3 hE3 hM3 hO3 b34 g4 hw4 d0 d1 d2 d3 d4 d5
  go_wp2_with fail
  rw [← HW4.out]
  refine HEN.out.mono ?_
  rintro e w5 ⟨rfl, hb5⟩
  have B5 := Lib.hid (B4.out.trans (hb5.mono B4.out.size))
  have G5 := Lib.hid ((hb5.block w.heap.size (Array.getElem?_eq_some_iff.1 G4.out).1).trans G4.out)
  have K5 := Lib.hid ((hb5.block w3.heap.size HL3.out).trans K4.out)
  have VE5 := Lib.hid (VE.out.kept hb5)
  have VM5 := Lib.hid (VM.out.kept hb5)
  have VO5 := Lib.hid (VO.out.kept hb5)
  have HRR := Lib.hid (rright_man (w := w5) (s := s) (d := d) (hz := hz) (HE.out.kept B5.out) (HM.out.kept B5.out) (HO.out.kept B5.out) (fun x hx => (HK.out x hx).2))
  have e0 : w5.cell? ⟨w.heap.size, 0, none⟩ = some (.int .i64 s) := cell_blk9 G5.out rfl
  have e1 : w5.cell? ⟨w.heap.size, 1, none⟩ = some (.int .i64 d) := cell_blk9 G5.out rfl
  have e2 : w5.cell? ⟨w.heap.size, 2, none⟩ = some (.int .i64 hz) := cell_blk9 G5.out rfl
  have e3 : w5.cell? ⟨w.heap.size, 3, none⟩ = some (.slice ea en ec) := cell_blk9 G5.out rfl
  have e4 : w5.cell? ⟨w.heap.size, 4, none⟩ = some (.slice ma mn mc) := cell_blk9 G5.out rfl
  have e5 : w5.cell? ⟨w.heap.size, 5, none⟩ = some (.slice oa on oc) := cell_blk9 G5.out rfl
  clear hb5
  go_wp2_with fail
  refine HRR.out.mono ?_
  rintro e w6 ⟨⟨b6, rfl, hb6⟩, hbl6⟩
  obtain rfl : b6 = false := (by cases b6 with
    | false => rfl
    | true => exact absurd (hb6.1 rfl) HMAN.out)
  have B6 := Lib.hid (B5.out.trans (hbl6.mono B5.out.size))
  have G6 := Lib.hid ((hbl6.block w.heap.size (Array.getElem?_eq_some_iff.1 G5.out).1).trans G5.out)
  have K6 := Lib.hid ((hbl6.block w3.heap.size (Array.getElem?_eq_some_iff.1 K5.out).1).trans K5.out)
  have VE6 := Lib.hid (VE5.out.kept hbl6)
  have VM6 := Lib.hid (VM5.out.kept hbl6)
  have VO6 := Lib.hid (VO5.out.kept hbl6)
  have HMR := Lib.hid (mright_any (w := w6) pfS (s := s) (d := d) (hz := hz) VE6.out VM6.out VO6.out (par_any (HX.out.below B6.out) (fun x hx => (HK.out x hx).2)))
  have g0 : w6.cell? ⟨w3.heap.size, 0, none⟩ = some (.int .i64 s) := cell_blk9 K6.out rfl
  have g1 : w6.cell? ⟨w3.heap.size, 1, none⟩ = some (.int .i64 d) := cell_blk9 K6.out rfl
  have g2 : w6.cell? ⟨w3.heap.size, 2, none⟩ = some (.int .i64 hz) := cell_blk9 K6.out rfl
  have g3 : w6.cell? ⟨w3.heap.size, 3, none⟩ = some (.slice ea' en ec') := cell_blk9 K6.out rfl
  have g4 : w6.cell? ⟨w3.heap.size, 4, none⟩ = some (.slice ma' mn mc') := cell_blk9 K6.out rfl
  have g5 : w6.cell? ⟨w3.heap.size, 5, none⟩ = some (.slice oa' on oc') := cell_blk9 K6.out rfl
  clear hb6 hbl6 e0 e1 e2 e3 e4 e5
  go_wp2_with fail
  refine HMR.out.mono ?_
  rintro e w7 ⟨⟨b7, rfl, hb7⟩, hbl7⟩
  obtain rfl : b7 = false := (by cases b7 with
    | false => rfl
    | true => exact absurd (hb7.1 rfl) HMAN.out)
  have B7 := Lib.hid (B6.out.trans (hbl7.mono B6.out.size))
  have G7 := Lib.hid ((hbl7.block w.heap.size (Array.getElem?_eq_some_iff.1 G6.out).1).trans G6.out)
  have K7 := Lib.hid ((hbl7.block w3.heap.size (Array.getElem?_eq_some_iff.1 K6.out).1).trans K6.out)
  have VE7 := Lib.hid (VE6.out.kept hbl7)
  have VM7 := Lib.hid (VM6.out.kept hbl7)
  have VO7 := Lib.hid (VO6.out.kept hbl7)
  have HSM := Lib.hid (rsame13_any (w := w7) (s := s) (s2 := s) (d := d) (d2 := d) (hz := hz) (hz2 := hz) VE7.out VM7.out VO7.out (HE.out.kept B7.out) (HM.out.kept B7.out) (HO.out.kept B7.out))
  have k0 : w7.cell? ⟨w3.heap.size, 0, none⟩ = some (.int .i64 s) := cell_blk9 K7.out rfl
  have k1 : w7.cell? ⟨w3.heap.size, 1, none⟩ = some (.int .i64 d) := cell_blk9 K7.out rfl
  have k2 : w7.cell? ⟨w3.heap.size, 2, none⟩ = some (.int .i64 hz) := cell_blk9 K7.out rfl
  have k3 : w7.cell? ⟨w3.heap.size, 3, none⟩ = some (.slice ea' en ec') := cell_blk9 K7.out rfl
  have k4 : w7.cell? ⟨w3.heap.size, 4, none⟩ = some (.slice ma' mn mc') := cell_blk9 K7.out rfl
  have k5 : w7.cell? ⟨w3.heap.size, 5, none⟩ = some (.slice oa' on oc') := cell_blk9 K7.out rfl
  have l0 : w7.cell? ⟨w.heap.size, 0, none⟩ = some (.int .i64 s) := cell_blk9 G7.out rfl
  have l1 : w7.cell? ⟨w.heap.size, 1, none⟩ = some (.int .i64 d) := cell_blk9 G7.out rfl
  have l2 : w7.cell? ⟨w.heap.size, 2, none⟩ = some (.int .i64 hz) := cell_blk9 G7.out rfl
  have l3 : w7.cell? ⟨w.heap.size, 3, none⟩ = some (.slice ea en ec) := cell_blk9 G7.out rfl
  have l4 : w7.cell? ⟨w.heap.size, 4, none⟩ = some (.slice ma mn mc) := cell_blk9 G7.out rfl
  have l5 : w7.cell? ⟨w.heap.size, 5, none⟩ = some (.slice oa on oc) := cell_blk9 G7.out rfl
  clear hb7 hbl7 g0 g1 g2 g3 g4 g5
  go_wp2_with fail
  refine HSM.out.mono ?_
  rintro e w8 ⟨⟨b8, rfl, hb8⟩, hbl8⟩
  obtain rfl : b8 = true := hb8.2 ⟨rfl, rfl, rfl, rfl, rfl, rfl⟩
  have B8 := Lib.hid (B7.out.trans (hbl8.mono B7.out.size))
  have G8 := Lib.hid ((hbl8.block w.heap.size (Array.getElem?_eq_some_iff.1 G7.out).1).trans G7.out)
  clear hb8 hbl8 k0 k1 k2 k3 k4 k5 l0 l1 l2 l3 l4 l5
  go_wp2_with fail
  go_ret
  exact ⟨rfl, B8.out⟩

/-- as the frame takes it -/
theorem codes_go (s d hz : Int) (ea : Option Addr) (en ec : Nat) (le : List EntV) (ma : Option Addr) (mn mc : Nat) (lm : List (Int × Int)) (oa : Option Addr) (on oc : Nat) (lo : List (Int × Int × Int)) (w : World) (hT : Table w) (hE : VecAt EntS w ea en ec le) (hM : VecAt MarkS w ma mn mc lm) (hO : VecAt OwnS w oa on oc lo) (hmx : ∃ m, w.cell? ⟨1, 0, none⟩ = some (.int .i64 m)) :
    Calls Tryz.prog 3 #[.agg #[.int .i64 s, .int .i64 d, .int .i64 hz, .slice ea en ec, .slice ma mn mc, .slice oa on oc]] w fun e w' => e = .returned (.bool true) ∧ Below w.heap.size w w' := by
  obtain ⟨mx, hm⟩ := hmx
  by_cases h : IsMan pfS s d hz en le mn lm on lo
  · have h1 := h.1
    simp only [withinB, Bool.and_eq_true, decide_eq_true_eq] at h1
    obtain ⟨ns, rfl⟩ : ∃ n : Nat, s = (n : Int) := ⟨s.toNat, by omega⟩
    obtain ⟨nd, rfl⟩ : ∃ n : Nat, d = (n : Int) := ⟨d.toNat, by omega⟩
    obtain ⟨nh, rfl⟩ : ∃ n : Nat, hz = (n : Int) := ⟨hz.toNat, by omega⟩
    exact codes_yes hT hm hE hM hO h
  · exact codes_no hT hm hE hM hO h
end Go.Proofs.YtbdgcfimbblncaaGreatDoor
end PkMC10_0
section PkMC10_1
/- Manifests and owners, opened as a law's arguments. Written by genmfopen.py. -/
namespace Go.Proofs.YtbdgcfimbblncaaGreatDoor
open Go.ChangeShapes Go.WideShapes Go.Deep Go.RowKit LabPlain
set_option linter.unusedVariables false

theorem u32_wfb {n : Int} (h : (Lit.int .u32 n).wf = true) : 0 ≤ n ∧ n ≤ 4294967295 := by
  simpa [Lit.wf, IntKind.min, IntKind.max, IntKind.signed, IntKind.bits] using h

set_option maxRecDepth 100000 in
theorem mkr_fields0 {H : Type} {enc : TypeId × Value → H} {W : World} {fuel : Nat} {cs : List Value} {y : DataW H × List MemPlace} (h : DataW.trod enc Tryz.prog W 0 (fun _ => true) true fuel 43 cs = some y) (hw : ∀ n, n ∈ DataW.weights Tryz.prog 43 y.1 → n ≤ reachBytes) :
    ∃ (s0 : Int) (s1 : Int), cs = [.int .i64 s0, .int .i64 s1] ∧ (Lit.int .i64 s0).wf = true ∧ (Lit.int .i64 s1).wf = true ∧ True := by
  obtain ⟨xs, n, _, hy, hcl, hxl, hfld⟩ := DataW.trod_struct Tryz.underlying43 h
  rw [show Tryz.prog.cellsOf 43 = 2 from by kernel_rfl] at hcl
  have hxl2 : xs.length = 2 := hxl
  match cs, xs, hcl, hxl2 with
  | [v0, v1], [p0, p1], _, _ =>
    have t0 : DataW.trod enc Tryz.prog W 0 (fun _ => true) true n 3 (List.take (Tryz.prog.cellsOf 3) (List.drop 0 [v0, v1])) = [p0, p1][0]? := hfld 0 _ rfl
    rw [show Tryz.prog.cellsOf 3 = 1 from by kernel_rfl] at t0
    obtain ⟨s0, hs0, hx0, hw0⟩ := DataW.trod_int Tryz.underlying3 (show DataW.trod enc Tryz.prog W 0 (fun _ => true) true n 3 [v0] = some p0 from by simpa using t0)
    have e0 : v0 = .int .i64 s0 := by simpa using hs0
    have t1 : DataW.trod enc Tryz.prog W 0 (fun _ => true) true n 3 (List.take (Tryz.prog.cellsOf 3) (List.drop 1 [v0, v1])) = [p0, p1][1]? := hfld 1 _ rfl
    rw [show Tryz.prog.cellsOf 3 = 1 from by kernel_rfl] at t1
    obtain ⟨s1, hs1, hx1, hw1⟩ := DataW.trod_int Tryz.underlying3 (show DataW.trod enc Tryz.prog W 0 (fun _ => true) true n 3 [v1] = some p1 from by simpa using t1)
    have e1 : v1 = .int .i64 s1 := by simpa using hs1
    subst e0 e1
    have hy1 : y.1 = .agg [p0.1, p1.1] := by rw [hy]; rfl
    have hr := reachBytes_lt
    exact ⟨s0, s1, rfl, hw0, hw1, trivial⟩

theorem mkr_fields {H : Type} {enc : TypeId × Value → H} {W : World} {fuel : Nat} {cs : List Value} {y : DataW H × List MemPlace} (h : DataW.trod enc Tryz.prog W 0 (fun _ => true) true fuel 43 cs = some y) (hw : ∀ n, n ∈ DataW.weights Tryz.prog 43 y.1 → n ≤ reachBytes) :
    ∃ r : (Int × Int), cs = MarkS.f r ∧ MarkS.ok W r := by
  obtain ⟨s0, s1, rfl, _⟩ := mkr_fields0 h hw
  exact ⟨(s0, s1), rfl, trivial⟩

set_option maxRecDepth 100000 in
theorem own_fields0 {H : Type} {enc : TypeId × Value → H} {W : World} {fuel : Nat} {cs : List Value} {y : DataW H × List MemPlace} (h : DataW.trod enc Tryz.prog W 0 (fun _ => true) true fuel 45 cs = some y) (hw : ∀ n, n ∈ DataW.weights Tryz.prog 45 y.1 → n ≤ reachBytes) :
    ∃ (s0 : Int) (s1 : Int) (s2 : Int), cs = [.int .i64 s0, .int .i64 s1, .int .i64 s2] ∧ (Lit.int .i64 s0).wf = true ∧ (Lit.int .i64 s1).wf = true ∧ (Lit.int .i64 s2).wf = true ∧ True := by
  obtain ⟨xs, n, _, hy, hcl, hxl, hfld⟩ := DataW.trod_struct Tryz.underlying45 h
  rw [show Tryz.prog.cellsOf 45 = 3 from by kernel_rfl] at hcl
  have hxl2 : xs.length = 3 := hxl
  match cs, xs, hcl, hxl2 with
  | [v0, v1, v2], [p0, p1, p2], _, _ =>
    have t0 : DataW.trod enc Tryz.prog W 0 (fun _ => true) true n 3 (List.take (Tryz.prog.cellsOf 3) (List.drop 0 [v0, v1, v2])) = [p0, p1, p2][0]? := hfld 0 _ rfl
    rw [show Tryz.prog.cellsOf 3 = 1 from by kernel_rfl] at t0
    obtain ⟨s0, hs0, hx0, hw0⟩ := DataW.trod_int Tryz.underlying3 (show DataW.trod enc Tryz.prog W 0 (fun _ => true) true n 3 [v0] = some p0 from by simpa using t0)
    have e0 : v0 = .int .i64 s0 := by simpa using hs0
    have t1 : DataW.trod enc Tryz.prog W 0 (fun _ => true) true n 3 (List.take (Tryz.prog.cellsOf 3) (List.drop 1 [v0, v1, v2])) = [p0, p1, p2][1]? := hfld 1 _ rfl
    rw [show Tryz.prog.cellsOf 3 = 1 from by kernel_rfl] at t1
    obtain ⟨s1, hs1, hx1, hw1⟩ := DataW.trod_int Tryz.underlying3 (show DataW.trod enc Tryz.prog W 0 (fun _ => true) true n 3 [v1] = some p1 from by simpa using t1)
    have e1 : v1 = .int .i64 s1 := by simpa using hs1
    have t2 : DataW.trod enc Tryz.prog W 0 (fun _ => true) true n 3 (List.take (Tryz.prog.cellsOf 3) (List.drop 2 [v0, v1, v2])) = [p0, p1, p2][2]? := hfld 2 _ rfl
    rw [show Tryz.prog.cellsOf 3 = 1 from by kernel_rfl] at t2
    obtain ⟨s2, hs2, hx2, hw2⟩ := DataW.trod_int Tryz.underlying3 (show DataW.trod enc Tryz.prog W 0 (fun _ => true) true n 3 [v2] = some p2 from by simpa using t2)
    have e2 : v2 = .int .i64 s2 := by simpa using hs2
    subst e0 e1 e2
    have hy1 : y.1 = .agg [p0.1, p1.1, p2.1] := by rw [hy]; rfl
    have hr := reachBytes_lt
    exact ⟨s0, s1, s2, rfl, hw0, hw1, hw2, trivial⟩

theorem own_fields {H : Type} {enc : TypeId × Value → H} {W : World} {fuel : Nat} {cs : List Value} {y : DataW H × List MemPlace} (h : DataW.trod enc Tryz.prog W 0 (fun _ => true) true fuel 45 cs = some y) (hw : ∀ n, n ∈ DataW.weights Tryz.prog 45 y.1 → n ≤ reachBytes) :
    ∃ r : (Int × Int × Int), cs = OwnS.f r ∧ OwnS.ok W r := by
  obtain ⟨s0, s1, s2, rfl, _⟩ := own_fields0 h hw
  exact ⟨(s0, s1, s2), rfl, trivial⟩

set_option maxRecDepth 100000 in
theorem enr_fields0 {H : Type} {enc : TypeId × Value → H} {W : World} {fuel : Nat} {cs : List Value} {y : DataW H × List MemPlace} (h : DataW.trod enc Tryz.prog W 0 (fun _ => true) true fuel 53 cs = some y) (hw : ∀ n, n ∈ DataW.weights Tryz.prog 53 y.1 → n ≤ reachBytes) :
    ∃ (s0 : ByteArray) (s1 : Int) (s2 : ByteArray) (s3 : Int) (s4 : Int) (s5 : Int) (s6 : Int) (s7 : Int) (s8 : Int), cs = [.string s0, .int .i64 s1, .string s2, .int .i64 s3, .int .i64 s4, .int .i64 s5, .int .i64 s6, .int .u32 s7, .int .i64 s8] ∧ s0.size ≤ 140737488355328 ∧ (Lit.int .i64 s1).wf = true ∧ s2.size ≤ 140737488355328 ∧ (Lit.int .i64 s3).wf = true ∧ (Lit.int .i64 s4).wf = true ∧ (Lit.int .i64 s5).wf = true ∧ (Lit.int .i64 s6).wf = true ∧ (Lit.int .u32 s7).wf = true ∧ (Lit.int .i64 s8).wf = true ∧ True := by
  obtain ⟨xs, n, _, hy, hcl, hxl, hfld⟩ := DataW.trod_struct Tryz.underlying53 h
  rw [show Tryz.prog.cellsOf 53 = 9 from by kernel_rfl] at hcl
  have hxl2 : xs.length = 9 := hxl
  match cs, xs, hcl, hxl2 with
  | [v0, v1, v2, v3, v4, v5, v6, v7, v8], [p0, p1, p2, p3, p4, p5, p6, p7, p8], _, _ =>
    have t0 : DataW.trod enc Tryz.prog W 0 (fun _ => true) true n 9 (List.take (Tryz.prog.cellsOf 9) (List.drop 0 [v0, v1, v2, v3, v4, v5, v6, v7, v8])) = [p0, p1, p2, p3, p4, p5, p6, p7, p8][0]? := hfld 0 _ rfl
    rw [show Tryz.prog.cellsOf 9 = 1 from by kernel_rfl] at t0
    obtain ⟨s0, hs0, hx0, _⟩ := DataW.trod_string Tryz.underlying9 (show DataW.trod enc Tryz.prog W 0 (fun _ => true) true n 9 [v0] = some p0 from by simpa using t0)
    have e0 : v0 = .string s0 := by simpa using hs0
    have t1 : DataW.trod enc Tryz.prog W 0 (fun _ => true) true n 3 (List.take (Tryz.prog.cellsOf 3) (List.drop 1 [v0, v1, v2, v3, v4, v5, v6, v7, v8])) = [p0, p1, p2, p3, p4, p5, p6, p7, p8][1]? := hfld 1 _ rfl
    rw [show Tryz.prog.cellsOf 3 = 1 from by kernel_rfl] at t1
    obtain ⟨s1, hs1, hx1, hw1⟩ := DataW.trod_int Tryz.underlying3 (show DataW.trod enc Tryz.prog W 0 (fun _ => true) true n 3 [v1] = some p1 from by simpa using t1)
    have e1 : v1 = .int .i64 s1 := by simpa using hs1
    have t2 : DataW.trod enc Tryz.prog W 0 (fun _ => true) true n 9 (List.take (Tryz.prog.cellsOf 9) (List.drop 2 [v0, v1, v2, v3, v4, v5, v6, v7, v8])) = [p0, p1, p2, p3, p4, p5, p6, p7, p8][2]? := hfld 2 _ rfl
    rw [show Tryz.prog.cellsOf 9 = 1 from by kernel_rfl] at t2
    obtain ⟨s2, hs2, hx2, _⟩ := DataW.trod_string Tryz.underlying9 (show DataW.trod enc Tryz.prog W 0 (fun _ => true) true n 9 [v2] = some p2 from by simpa using t2)
    have e2 : v2 = .string s2 := by simpa using hs2
    have t3 : DataW.trod enc Tryz.prog W 0 (fun _ => true) true n 3 (List.take (Tryz.prog.cellsOf 3) (List.drop 3 [v0, v1, v2, v3, v4, v5, v6, v7, v8])) = [p0, p1, p2, p3, p4, p5, p6, p7, p8][3]? := hfld 3 _ rfl
    rw [show Tryz.prog.cellsOf 3 = 1 from by kernel_rfl] at t3
    obtain ⟨s3, hs3, hx3, hw3⟩ := DataW.trod_int Tryz.underlying3 (show DataW.trod enc Tryz.prog W 0 (fun _ => true) true n 3 [v3] = some p3 from by simpa using t3)
    have e3 : v3 = .int .i64 s3 := by simpa using hs3
    have t4 : DataW.trod enc Tryz.prog W 0 (fun _ => true) true n 3 (List.take (Tryz.prog.cellsOf 3) (List.drop 4 [v0, v1, v2, v3, v4, v5, v6, v7, v8])) = [p0, p1, p2, p3, p4, p5, p6, p7, p8][4]? := hfld 4 _ rfl
    rw [show Tryz.prog.cellsOf 3 = 1 from by kernel_rfl] at t4
    obtain ⟨s4, hs4, hx4, hw4⟩ := DataW.trod_int Tryz.underlying3 (show DataW.trod enc Tryz.prog W 0 (fun _ => true) true n 3 [v4] = some p4 from by simpa using t4)
    have e4 : v4 = .int .i64 s4 := by simpa using hs4
    have t5 : DataW.trod enc Tryz.prog W 0 (fun _ => true) true n 3 (List.take (Tryz.prog.cellsOf 3) (List.drop 5 [v0, v1, v2, v3, v4, v5, v6, v7, v8])) = [p0, p1, p2, p3, p4, p5, p6, p7, p8][5]? := hfld 5 _ rfl
    rw [show Tryz.prog.cellsOf 3 = 1 from by kernel_rfl] at t5
    obtain ⟨s5, hs5, hx5, hw5⟩ := DataW.trod_int Tryz.underlying3 (show DataW.trod enc Tryz.prog W 0 (fun _ => true) true n 3 [v5] = some p5 from by simpa using t5)
    have e5 : v5 = .int .i64 s5 := by simpa using hs5
    have t6 : DataW.trod enc Tryz.prog W 0 (fun _ => true) true n 3 (List.take (Tryz.prog.cellsOf 3) (List.drop 6 [v0, v1, v2, v3, v4, v5, v6, v7, v8])) = [p0, p1, p2, p3, p4, p5, p6, p7, p8][6]? := hfld 6 _ rfl
    rw [show Tryz.prog.cellsOf 3 = 1 from by kernel_rfl] at t6
    obtain ⟨s6, hs6, hx6, hw6⟩ := DataW.trod_int Tryz.underlying3 (show DataW.trod enc Tryz.prog W 0 (fun _ => true) true n 3 [v6] = some p6 from by simpa using t6)
    have e6 : v6 = .int .i64 s6 := by simpa using hs6
    have t7 : DataW.trod enc Tryz.prog W 0 (fun _ => true) true n 51 (List.take (Tryz.prog.cellsOf 51) (List.drop 7 [v0, v1, v2, v3, v4, v5, v6, v7, v8])) = [p0, p1, p2, p3, p4, p5, p6, p7, p8][7]? := hfld 7 _ rfl
    rw [show Tryz.prog.cellsOf 51 = 1 from by kernel_rfl] at t7
    obtain ⟨s7, hs7, hx7, hw7⟩ := DataW.trod_int Tryz.underlying51 (show DataW.trod enc Tryz.prog W 0 (fun _ => true) true n 51 [v7] = some p7 from by simpa using t7)
    have e7 : v7 = .int .u32 s7 := by simpa using hs7
    have t8 : DataW.trod enc Tryz.prog W 0 (fun _ => true) true n 3 (List.take (Tryz.prog.cellsOf 3) (List.drop 8 [v0, v1, v2, v3, v4, v5, v6, v7, v8])) = [p0, p1, p2, p3, p4, p5, p6, p7, p8][8]? := hfld 8 _ rfl
    rw [show Tryz.prog.cellsOf 3 = 1 from by kernel_rfl] at t8
    obtain ⟨s8, hs8, hx8, hw8⟩ := DataW.trod_int Tryz.underlying3 (show DataW.trod enc Tryz.prog W 0 (fun _ => true) true n 3 [v8] = some p8 from by simpa using t8)
    have e8 : v8 = .int .i64 s8 := by simpa using hs8
    subst e0 e1 e2 e3 e4 e5 e6 e7 e8
    have hy1 : y.1 = .agg [p0.1, p1.1, p2.1, p3.1, p4.1, p5.1, p6.1, p7.1, p8.1] := by rw [hy]; rfl
    have hr := reachBytes_lt
    have w0 := hw s0.data.toList.length (by rw [hy1, hx0]; simp [DataW.weights, DataW.weightsEach, Tryz.underlying53])
    have w2 := hw s2.data.toList.length (by rw [hy1, hx2]; simp [DataW.weights, DataW.weightsEach, Tryz.underlying53])
    exact ⟨s0, s1, s2, s3, s4, s5, s6, s7, s8, rfl, (by simp at w0; omega), hw1, (by simp at w2; omega), hw3, hw4, hw5, hw6, hw7, hw8, trivial⟩

theorem enr_fields {H : Type} {enc : TypeId × Value → H} {W : World} {fuel : Nat} {cs : List Value} {y : DataW H × List MemPlace} (h : DataW.trod enc Tryz.prog W 0 (fun _ => true) true fuel 53 cs = some y) (hw : ∀ n, n ∈ DataW.weights Tryz.prog 53 y.1 → n ≤ reachBytes) :
    ∃ r : EntV, cs = EntS.f r ∧ EntS.ok W r := by
  obtain ⟨s0, s1, s2, s3, s4, s5, s6, s7, s8, rfl, h0, _, h2, _, _, _, _, h7, _⟩ := enr_fields0 h hw
  exact ⟨⟨s0, s1, s2, s3, s4, s5, s6, s7, s8⟩, rfl, ⟨h0, h2, u32_wfb h7⟩⟩

set_option maxRecDepth 100000 in
theorem man_fields0 {H : Type} {enc : TypeId × Value → H} {W : World} {fuel : Nat} {cs : List Value} {y : DataW H × List MemPlace} (h : DataW.trod enc Tryz.prog W 0 (fun _ => true) true fuel 26 cs = some y) (hw : ∀ n, n ∈ DataW.weights Tryz.prog 26 y.1 → n ≤ reachBytes) :
    ∃ (s0 : Int) (s1 : Int) (s2 : Int) (a3 : Option Addr) (n3 c3 : Nat) (l3 : List _) (a4 : Option Addr) (n4 c4 : Nat) (l4 : List _) (a5 : Option Addr) (n5 c5 : Nat) (l5 : List _), cs = [.int .i64 s0, .int .i64 s1, .int .i64 s2, .slice a3 n3 c3, .slice a4 n4 c4, .slice a5 n5 c5] ∧ (Lit.int .i64 s0).wf = true ∧ (Lit.int .i64 s1).wf = true ∧ (Lit.int .i64 s2).wf = true ∧ VecAt (EntS) W a3 n3 c3 l3 ∧ VecAt (MarkS) W a4 n4 c4 l4 ∧ VecAt (OwnS) W a5 n5 c5 l5 ∧ True := by
  obtain ⟨xs, n, _, hy, hcl, hxl, hfld⟩ := DataW.trod_struct Tryz.underlying26 h
  rw [show Tryz.prog.cellsOf 26 = 6 from by kernel_rfl] at hcl
  have hxl2 : xs.length = 6 := hxl
  match cs, xs, hcl, hxl2 with
  | [v0, v1, v2, v3, v4, v5], [p0, p1, p2, p3, p4, p5], _, _ =>
    have t0 : DataW.trod enc Tryz.prog W 0 (fun _ => true) true n 3 (List.take (Tryz.prog.cellsOf 3) (List.drop 0 [v0, v1, v2, v3, v4, v5])) = [p0, p1, p2, p3, p4, p5][0]? := hfld 0 _ rfl
    rw [show Tryz.prog.cellsOf 3 = 1 from by kernel_rfl] at t0
    obtain ⟨s0, hs0, hx0, hw0⟩ := DataW.trod_int Tryz.underlying3 (show DataW.trod enc Tryz.prog W 0 (fun _ => true) true n 3 [v0] = some p0 from by simpa using t0)
    have e0 : v0 = .int .i64 s0 := by simpa using hs0
    have t1 : DataW.trod enc Tryz.prog W 0 (fun _ => true) true n 3 (List.take (Tryz.prog.cellsOf 3) (List.drop 1 [v0, v1, v2, v3, v4, v5])) = [p0, p1, p2, p3, p4, p5][1]? := hfld 1 _ rfl
    rw [show Tryz.prog.cellsOf 3 = 1 from by kernel_rfl] at t1
    obtain ⟨s1, hs1, hx1, hw1⟩ := DataW.trod_int Tryz.underlying3 (show DataW.trod enc Tryz.prog W 0 (fun _ => true) true n 3 [v1] = some p1 from by simpa using t1)
    have e1 : v1 = .int .i64 s1 := by simpa using hs1
    have t2 : DataW.trod enc Tryz.prog W 0 (fun _ => true) true n 3 (List.take (Tryz.prog.cellsOf 3) (List.drop 2 [v0, v1, v2, v3, v4, v5])) = [p0, p1, p2, p3, p4, p5][2]? := hfld 2 _ rfl
    rw [show Tryz.prog.cellsOf 3 = 1 from by kernel_rfl] at t2
    obtain ⟨s2, hs2, hx2, hw2⟩ := DataW.trod_int Tryz.underlying3 (show DataW.trod enc Tryz.prog W 0 (fun _ => true) true n 3 [v2] = some p2 from by simpa using t2)
    have e2 : v2 = .int .i64 s2 := by simpa using hs2
    have t3 : DataW.trod enc Tryz.prog W 0 (fun _ => true) true n 22 (List.take (Tryz.prog.cellsOf 22) (List.drop 3 [v0, v1, v2, v3, v4, v5])) = [p0, p1, p2, p3, p4, p5][3]? := hfld 3 _ rfl
    rw [show Tryz.prog.cellsOf 22 = 1 from by kernel_rfl] at t3
    have t3' : DataW.trod enc Tryz.prog W 0 (fun _ => true) true n 22 [v3] = some p3 := by simpa using t3
    have t4 : DataW.trod enc Tryz.prog W 0 (fun _ => true) true n 23 (List.take (Tryz.prog.cellsOf 23) (List.drop 4 [v0, v1, v2, v3, v4, v5])) = [p0, p1, p2, p3, p4, p5][4]? := hfld 4 _ rfl
    rw [show Tryz.prog.cellsOf 23 = 1 from by kernel_rfl] at t4
    have t4' : DataW.trod enc Tryz.prog W 0 (fun _ => true) true n 23 [v4] = some p4 := by simpa using t4
    have t5 : DataW.trod enc Tryz.prog W 0 (fun _ => true) true n 24 (List.take (Tryz.prog.cellsOf 24) (List.drop 5 [v0, v1, v2, v3, v4, v5])) = [p0, p1, p2, p3, p4, p5][5]? := hfld 5 _ rfl
    rw [show Tryz.prog.cellsOf 24 = 1 from by kernel_rfl] at t5
    have t5' : DataW.trod enc Tryz.prog W 0 (fun _ => true) true n 24 [v5] = some p5 := by simpa using t5
    subst e0 e1 e2
    have hy1 : y.1 = .agg [p0.1, p1.1, p2.1, p3.1, p4.1, p5.1] := by rw [hy]; rfl
    have hr := reachBytes_lt
    have w3 : ∀ m, m ∈ DataW.weights Tryz.prog 22 p3.1 → m ≤ reachBytes := fun m hm => hw m (by rw [hy1]; simp [DataW.weights, DataW.weightsEach, Tryz.underlying26, hm])
    have hv3 : ∃ a len cap, v3 = .slice a len cap := by
      rcases open_slice Tryz.underlying22 t3' with ⟨hcs, _⟩ | ⟨x0, l, c, m, n, D, Pl, hcs, _⟩
      · simp at hcs; exact ⟨_, _, _, hcs⟩
      · simp at hcs; exact ⟨_, _, _, hcs⟩
    obtain ⟨a3, len3, cap3, rfl⟩ := hv3
    obtain ⟨z3, hz3⟩ := open_vec (EntS) Tryz.underlying22 (by kernel_rfl) (fun _ _ _ g1 g2 => enr_fields g1 g2) t3' w3
    have w4 : ∀ m, m ∈ DataW.weights Tryz.prog 23 p4.1 → m ≤ reachBytes := fun m hm => hw m (by rw [hy1]; simp [DataW.weights, DataW.weightsEach, Tryz.underlying26, hm])
    have hv4 : ∃ a len cap, v4 = .slice a len cap := by
      rcases open_slice Tryz.underlying23 t4' with ⟨hcs, _⟩ | ⟨x0, l, c, m, n, D, Pl, hcs, _⟩
      · simp at hcs; exact ⟨_, _, _, hcs⟩
      · simp at hcs; exact ⟨_, _, _, hcs⟩
    obtain ⟨a4, len4, cap4, rfl⟩ := hv4
    obtain ⟨z4, hz4⟩ := open_vec (MarkS) Tryz.underlying23 (by kernel_rfl) (fun _ _ _ g1 g2 => mkr_fields g1 g2) t4' w4
    have w5 : ∀ m, m ∈ DataW.weights Tryz.prog 24 p5.1 → m ≤ reachBytes := fun m hm => hw m (by rw [hy1]; simp [DataW.weights, DataW.weightsEach, Tryz.underlying26, hm])
    have hv5 : ∃ a len cap, v5 = .slice a len cap := by
      rcases open_slice Tryz.underlying24 t5' with ⟨hcs, _⟩ | ⟨x0, l, c, m, n, D, Pl, hcs, _⟩
      · simp at hcs; exact ⟨_, _, _, hcs⟩
      · simp at hcs; exact ⟨_, _, _, hcs⟩
    obtain ⟨a5, len5, cap5, rfl⟩ := hv5
    obtain ⟨z5, hz5⟩ := open_vec (OwnS) Tryz.underlying24 (by kernel_rfl) (fun _ _ _ g1 g2 => own_fields g1 g2) t5' w5
    exact ⟨s0, s1, s2, a3, len3, cap3, z3, a4, len4, cap4, z4, a5, len5, cap5, z5, rfl, hw0, hw1, hw2, hz3, hz4, hz5, trivial⟩

/-- a manifest that came in -/
theorem open_man {H : Type} {enc : TypeId × Value → H} {W : World} {fuel : Nat} {cs : Array Value} {x : DataW H × List MemPlace}
    (hf : DataW.trod enc Tryz.prog W 0 (fun _ => true) true fuel 26 cs.toList = some x) (hw : ∀ n, n ∈ DataW.weights Tryz.prog 26 x.1 → n ≤ reachBytes) :
    ∃ (s0 s1 s2 : Int) (a3 : Option Addr) (n3 c3 : Nat) (l3 : List EntV) (a4 : Option Addr) (n4 c4 : Nat) (l4 : List (Int × Int)) (a5 : Option Addr) (n5 c5 : Nat) (l5 : List (Int × Int × Int)), cs = #[.int .i64 s0, .int .i64 s1, .int .i64 s2, .slice a3 n3 c3, .slice a4 n4 c4, .slice a5 n5 c5] ∧ VecAt EntS W a3 n3 c3 l3 ∧ VecAt MarkS W a4 n4 c4 l4 ∧ VecAt OwnS W a5 n5 c5 l5 := by
  obtain ⟨s0, s1, s2, a3, n3, c3, l3, a4, n4, c4, l4, a5, n5, c5, l5, hcs, _, _, _, h3, h4, h5, _⟩ := man_fields0 hf hw
  exact ⟨s0, s1, s2, a3, n3, c3, l3, a4, n4, c4, l4, a5, n5, c5, l5, by rw [← Array.toList_inj, hcs], h3, h4, h5⟩
/-- an owner that came in -/
theorem open_owner {H : Type} {enc : TypeId × Value → H} {W : World} {fuel : Nat} {cs : Array Value} {x : DataW H × List MemPlace}
    (hf : DataW.trod enc Tryz.prog W 0 (fun _ => true) true fuel 45 cs.toList = some x) (hw : ∀ n, n ∈ DataW.weights Tryz.prog 45 x.1 → n ≤ reachBytes) :
    ∃ (s0 s1 s2 : Int), cs = #[.int .i64 s0, .int .i64 s1, .int .i64 s2] := by
  obtain ⟨s0, s1, s2, hcs, _⟩ := own_fields0 hf hw
  exact ⟨s0, s1, s2, by rw [← Array.toList_inj, hcs]⟩

end Go.Proofs.YtbdgcfimbblncaaGreatDoor
end PkMC10_1
section PkMC10_2
/- The table that the card ties: what the condition gives the walks. -/
namespace Go.Proofs.YtbdgcfimbblncaaGreatDoor
open Go.RowKit CrcPlain
set_option linter.unusedVariables false

theorem gSteps : Tryz.prog.globalNamed "entrepot/crc.steps" = some 0 := by kernel_rfl
theorem tSteps : (Tryz.prog.globals[0]?).map (·.type) = some 171 := by kernel_rfl
def nibI : List Int := [0, 498536548, 997073096, 651767980, 1994146192, 1802195444, 1303535960, 1342533948, 3988292384, 4027552580, 3604390888, 3412177804, 2607071920, 2262029012, 2685067896, 3183342108]
theorem nibI_ok : ∀ r, r < 16 → nibI.getD r 0 = ((nib.getD r 0 : Nat) : Int) := by decide

theorem table_of {W : World} (h : laidMetH Tryz.prog [("entrepot/crc.steps", Rows.laid_entrepot_crc_steps)] W) : Table W := by
  rw [MakeChecks.laidMetH_plain _ _ _ (by kernel_rfl)] at h
  have h1 : laidMet Tryz.prog [("entrepot/crc.steps", Lib.tabData .u32 nibI)] W := h
  have h2 := Lib.tabIs_of_head gSteps tSteps Tryz.underlying171 Tryz.underlying51 (by kernel_rfl) (by kernel_rfl) h1
  intro r hr
  rw [← nibI_ok r hr]
  exact h2.cell gSteps r (by simpa [nibI] using hr)
end Go.Proofs.YtbdgcfimbblncaaGreatDoor
end PkMC10_2
section PkMC10_3
/- A row by its walk, where the card ties listed variables and the walk wants the world's shape besides. -/
namespace Go.Proofs.YtbdgcfimbblncaaGreatDoor
open Go.ChangeShapes Go.WideShapes
set_option linter.unusedVariables false

theorem handed_tied_shaped {H : Type} {enc : TypeId × Value → H} {a : Assume} {C : Checked} {os : Os} {f : FuncId} {fn : Func} {s : ChangeSpec} {conds : List PathCond} {apart fresh handsOn again : Bool} {X : World → Array Value → Prop}
    (hX : ∀ (u v : World) (l : Array Value), u.heap = v.heap → X u l → X v l) (own : ownKnob C.prog.godebug = none) (started : os.Started) (noInit : C.prog.inits.idxOf? f = none) (hfn : C.prog.funcs[f]? = some fn)
    (witness : ∃ (w : World) (tape : Tape) (i : Input), w.os = os ∧ (w.forCall tape i).Shaped C.prog ∧ i.vars = [] ∧ Input.okWide C.prog (w.forCall tape i) .any w.heap.size f i ∧
      ((s.pre enc C.prog fn conds apart (w.forCall tape i).memory i.args ∧ X (w.forCall tape i).memory i.args) ∧ sizedMet enc C.prog fn (OpenSpec.ofChange s) apart (w.forCall tape i).memory i.args) ∧ a.holds C.prog (lone (Frame.enter C.prog f i.args .normal) [] (w.forCall tape i)))
    (walk : ∀ (W : World) (base : Nat) (args : Array Value) (ds gs : List (DataW H)) (before : List MemPlace),
      (∀ (j : Nat) t v, fn.params[j]? = some t → args[j]? = some v → Value.okWide C.prog W .any base t v) →
      DataW.Whole enc C.prog fn.params.toList s.vars apart W args.toList ds gs before →
      (DataW.weightsEach C.prog (fn.params.toList ++ s.plain.varTypes C.prog) (ds ++ gs)).all (· ≤ reachBytes) = true → W.ShapedOpen C.prog → X W args →
      Calls C.prog f args W fun e W' => ∃ v, e = .returned v ∧ s.post enc C.prog fn apart fresh handsOn again W args v W') :
    ReturnsInHanded a C os f .any (fun w args => (s.pre enc C.prog fn conds apart w args ∧ X w args) ∧ sizedMet enc C.prog fn (OpenSpec.ofChange s) apart w args) (s.post enc C.prog fn apart fresh handsOn again) := by
  refine returnsInHanded_of_calls own started noInit witness ?_
  intro w tape i _ hsh _ hok ⟨⟨⟨ds, gs, before, hw, hc⟩, hx⟩, hz⟩ hh
  obtain ⟨_, _, _, fn2, hfn2, _, _, _, _, hval⟩ := hok
  obtain rfl : fn2 = fn := Option.some.inj (hfn2.symm.trans hfn)
  refine (walk (w.forCall tape i) w.heap.size i.args ds gs before hval (DataW.Whole.of_heap (w' := w.forCall tape i) (by rfl) hw) (hz.weights hw) hsh (hX _ _ _ (by rfl) hx)).mono ?_
  rintro e W' ⟨v, rfl, hp⟩
  exact ChangeSpec.post_blind hp
end Go.Proofs.YtbdgcfimbblncaaGreatDoor
end PkMC10_3
