/- Package inflate: symbols, walked: letters and distances up to the block's end. -/
import Derived.Test.YtnfdojdppifmoaaDoorInfSym
import Derived.Deep.LoopGhost
namespace Go.Proofs.YtnfdojdppifmoaaDoor
open Go.RowKit PrefPlain BitsPlain InfPlain
set_option linter.unusedVariables false



set_option maxRecDepth 100000 in
set_option maxHeartbeats 2000000 in
theorem isym_any {w : World} {B R base : Nat} {ra : Option Addr} {n c : Nat} {xs : List Nat} {p : Nat} {v : Value} {o : List Nat} {most : Nat} {fl fd : Option Addr} (h : InAt w B R base ra n c xs p v o most fl fd) {LB DB : Nat} {L D : List Int} (hL : Kept w B R v LB L) (hD : Kept w B R v DB D) (f : Nat) (hf : 8 * xs.length < p + f) :
    Calls Tryd.prog 21 #[.pointer (some ⟨B, 0, none⟩), .agg #[.pointer (some ⟨LB, 0, none⟩), .pointer (some ⟨DB, 0, none⟩)]] w fun e w' => Says w B R base ra n c xs v most fl fd (run xs most (symR L D f) p o) e w' := by
  have HH := Lib.hid h
  have HL := Lib.hid hL
  have HD := Lib.hid hD
  have HFU := Lib.hid hf
  clear h hL hD hf
  go_enter Tryd.func21, Tryd.ntmps21
  go_wp2_with fail
  obtain ⟨cb, hcb⟩ : ∃ cb, cb = w.heap.size := ⟨_, rfl⟩
  generalize hw1 : w.alloc (Obj.cells _ _) = w1
  rw [← hcb]
  have hbel : Below w.heap.size w w1 := by rw [← hw1]; exact (Below.refl _ _).alloc (Nat.le_refl _) _
  have hf1 : Fr w w1 B R v := Fr.below hbel
  have hbox : w1.heap[cb]? = some (.cells #[.pointer (some ⟨LB, 0, none⟩), .pointer (some ⟨DB, 0, none⟩)] 39 (0, 0)) := by rw [← hw1, hcb]; exact heap_alloc_new w _
  have hcbl : cb < w1.heap.size := (Array.getElem?_eq_some_iff.1 hbox).1
  have HI1 := Lib.hid (HH.out.below hbel)
  have HL1 := Lib.hid (HL.out.on hf1 (Went.refl _ _))
  have HD1 := Lib.hid (HD.out.on hf1 (Went.refl _ _))
  have hcbB : cb ≠ B := by have := HH.out.hB; have := HH.out.low; omega
  have hcbR : cb ≠ R := by have := HH.out.hR; have := HH.out.low; omega
  have hcbV : some cb ≠ v.ownBlock := fun e => by have := HH.out.vlt cb e.symm; omega
  have HBOX := Lib.hid hbox
  have HCB := Lib.hid (And.intro hcbB (And.intro hcbR hcbV))
  have HF1 := Lib.hid hf1
  clear hbox hf1 hbel hw1 hcb hcbB hcbR hcbV
  go_loopg [] f (fun g wr => ∃ (f' q : Nat) (v' : Value) (o' : List Nat), g = f' ∧ Hid (Sy xs most L D f p o f' q o') ∧ Hid (InAt wr B R base ra n c xs q v' o' most fl fd) ∧ Hid (Fr w1 wr B R v) ∧ Hid (Went w1 v v'))
  case atStart => exact ⟨f, p, v, o, rfl, Lib.hid ⟨rfl, HFU.out⟩, HI1, Lib.hid (Fr.refl _ _ _ _), Lib.hid (Went.refl _ _)⟩
  case round =>
    obtain ⟨f', q, v', o', hg, HS, HI, HF, HW⟩ := hrel
    rename World => wr
    have hq := HI.out.pl
    obtain ⟨f2, rfl⟩ : ∃ f2, f' = f2 + 1 := ⟨f' - 1, by have := HS.out.fuel; omega⟩
    have HGG := Lib.hid hg
    clear hg
    have hbx : wr.heap[cb]? = some (.cells #[.pointer (some ⟨LB, 0, none⟩), .pointer (some ⟨DB, 0, none⟩)] 39 (0, 0)) := (HF.out.block cb hcbl HCB.out.1 HCB.out.2.1 HCB.out.2.2).trans HBOX.out
    have cL : wr.cell? ⟨cb, 0, none⟩ = some (.pointer (some ⟨LB, 0, none⟩)) := by rw [cell_of_row wr cb 0 _ _ (0, 0) hbx]; rfl
    have cD : wr.cell? ⟨cb, 1, none⟩ = some (.pointer (some ⟨DB, 0, none⟩)) := by rw [cell_of_row wr cb 1 _ _ (0, 0) hbx]; rfl
    have c0 := HI.out.ib.c0
    have hid := HI.out.below (below_drew wr)
    have HLR := Lib.hid ((HL1.out.on HF.out HW.out).on (Fr.below (below_drew wr)) (Went.refl _ _))
    have HDR := Lib.hid ((HD1.out.on HF.out HW.out).on (Fr.below (below_drew wr)) (Went.refl _ _))
    have hnx := next_any HLR.out.at hid.rd HLR.out.ne (fun w' hg => HLR.out.tab w' (Fr.rd B _ hg))
    have E1 := @sym_1 xs most q o' L D f2 hq
    have E2 := @sym_2 xs most q o' L D f2 hq
    have E3 := @sym_3 xs most q o' L D f2 hq
    have E4 := @sym_4 xs most q o' L D f2 hq
    have E5 := @sym_5 xs most q o' L D f2 hq
    have hone := @rn_one L xs q
    obtain ⟨sn, hsn⟩ : ∃ sn : Nat, (rn L xs q).1 = (sn : Int) := ⟨(rn L xs q).1.toNat, by have := rn_nonneg L xs q; omega⟩
    have hsle : sn ≤ 320 := by have := rn_le L xs q; have := HLR.out.at.short; omega
    rw [hsn] at hnx E2 E3 E4 E5
    obtain ⟨er, her⟩ : ∃ er, er = (rn L xs q).2.1 := ⟨_, rfl⟩
    obtain ⟨ct, hct⟩ : ∃ ct, ct = (rn L xs q).2.2 := ⟨_, rfl⟩
    rw [← her] at hnx E1 E2 E3 E4 E5 hone
    rw [← hct] at hnx E2 E3 E5 hone
    rw [Int.toNat_natCast] at E3
    have HNX := Lib.hid hnx
    have HE1 := Lib.hid E1
    have HE2 := Lib.hid E2
    have HE3 := Lib.hid E3
    have HE4 := Lib.hid E4
    have HE5 := Lib.hid E5
    have HONE := Lib.hid hone
    have HID := Lib.hid hid
    have hBl := hid.ib.lt
    have hcbr : cb < wr.heap.size := (Array.getElem?_eq_some_iff.1 hbx).1
    have HBX := Lib.hid hbx
    have HQ := Lib.hid hq
    clear hnx E1 E2 E3 E4 E5 hone hid hbx her hct hsn hq
    go_wp2_with fail
    go_region_held3 (fun w' => w'.cell? ⟨cb, 0, none⟩ = some (.pointer (some ⟨LB, 0, none⟩)) ∧ w'.cell? ⟨B, 0, none⟩ = some (.pointer (some ⟨R, 0, none⟩))) (first | go_keep | exact ⟨hgrow.cell (w := wr.drew) cL (fun e => HCB.out.2.1 (Option.some.inj e)), hgrow.cell (w := wr.drew) c0 (fun e => HID.out.ne (Option.some.inj e))⟩) (first | (go_at_call 36; refine HNX.out.mono ?_; rintro r w2 ⟨rfl, hr2, hgrow⟩))
    have hi2 := HID.out.read hr2 hgrow
    have hf2 : Fr wr w2 B R v' := (Fr.below (below_drew wr)).trans (Went.refl _ _) (Fr.rd B v' hgrow)
    have HF2 := Lib.hid (HF.out.trans HW.out hf2)
    have HDK := Lib.hid (HDR.out.on (Fr.rd B v' hgrow) (Went.refl _ _))
    have HI2 := Lib.hid hi2
    have hcD2 : w2.cell? ⟨cb, 1, none⟩ = some (.pointer (some ⟨DB, 0, none⟩)) := hgrow.cell (w := wr.drew) cD (fun e => HCB.out.2.1 (Option.some.inj e))
    have hsz2 : w1.heap.size ≤ w2.heap.size := HF2.out.size
    clear hr2 hgrow hi2 hf2 cL cD c0
    by_cases her0 : er = 0
    · subst her0
      have hz : ((0 : Int) != 0) = false := by decide
      have h1 := HONE.out rfl
      have hfu : 8 * xs.length < q + ct + f2 := by have := HS.out.fuel; omega
      have HFU2 := Lib.hid hfu
      clear hfu
      by_cases s256 : sn = 256
      · subst s256
        have HE := Lib.hid (HS.out.run.trans (HE2.out rfl (by rfl)))
        have hee : (((256 : Nat) : Int) == 256) = true := by decide
        go_wp2_with fail
        go_ret
        rw [HE.out]
        exact ⟨rfl, HF1.out.trans (Went.refl _ _) HF2.out, _, HI2.out, (Went.refl w v).trans HF1.out.size HW.out⟩
      · have hne : ((sn : Int) == 256) = false := by rw [beq_eq_false_iff_ne]; omega
        by_cases slt : sn < 256
        · have hsi : (sn : Int) < 256 := by omega
          have HP := Lib.hid (iput_all HI2.out sn slt)
          have HE := Lib.hid (HE3.out rfl hsi)
          have HNZ := Lib.hid (nz_put (x := sn) (nz_ret (α := Unit) ()) xs most (q + ct) o')
          have HLE := Lib.hid (fun u q3 o3 => @run_le Unit xs most (.put sn (.ret ())) (q + ct) o' u q3 o3)
          obtain ⟨rr, hrr⟩ : ∃ rr, rr = run xs most (.put sn (.ret ())) (q + ct) o' := ⟨_, rfl⟩
          rw [← hrr] at HP HE HNZ HLE
          clear hrr s256
          go_wp2_with fail
          refine HP.out.mono ?_
          rintro e w3 hsay
          cases rr with
          | error e3 =>
            obtain ⟨rfl, hf3⟩ := hsay
            have hez : ((e3 : Int) != 0) = true := by rw [bne_iff_ne]; have := HNZ.out e3 rfl; omega
            have HR := Lib.hid (HS.out.run.trans HE.out)
            have HF3 := Lib.hid (HF2.out.trans HW.out hf3)
            clear hf3
            go_wp2_with fail
            go_ret
            rw [HR.out]
            exact ⟨rfl, HF1.out.trans (Went.refl _ _) HF3.out⟩
          | ok r3 =>
            obtain ⟨u3, q3, o3⟩ := r3
            obtain ⟨rfl, hf3, v3, hi3, hw3⟩ := hsay
            have HR := Lib.hid (HS.out.run.trans HE.out)
            have HF3 := Lib.hid (HF2.out.trans HW.out hf3)
            have HI3 := Lib.hid hi3
            have HW3 := Lib.hid (HW.out.trans hsz2 hw3)
            clear hf3 hi3 hw3
            go_wp2_with fail
            go_roundg f2
            case rel => exact ⟨f2, q3, v3, o3, rfl, Lib.hid ⟨HR.out, by have := (HLE.out u3 q3 o3 rfl).1; have := HFU2.out; omega⟩, HI3, HF3, HW3⟩
            case measure => have := HGG.out; omega
        · have hsi : (256 : Int) ≤ (sn : Int) := by omega
          by_cases s286 : 286 ≤ sn
          · have hsi2 : (286 : Int) ≤ (sn : Int) := by omega
            have HE := Lib.hid (HS.out.run.trans (HE4.out rfl hsi2))
            clear s256 slt
            go_wp2_with fail
            go_ret
            rw [HE.out]
            exact ⟨rfl, HF1.out.trans (Went.refl _ _) HF2.out⟩
          · obtain ⟨m, rfl⟩ : ∃ m, sn = m + 257 := ⟨sn - 257, by omega⟩
            have hm29 : m < 29 := by omega
            have hsi2 : ((m + 257 : Nat) : Int) < 286 := by omega
            have hme : (m : Int) + 257 - 256 - 1 = (m : Int) := by omega
            have hp0 := irep_any HI2.out m hm29 HDK.out.tab HDK.out.ne
            rw [← hme] at hp0
            have HP := Lib.hid hp0
            have HE := Lib.hid (HE5.out rfl (by omega) hsi2)
            rw [show (((m + 257 : Nat) : Int) - 257).toNat = m from by omega] at HE
            have HNZ := Lib.hid (nz_rep m D xs most (q + ct) o')
            have HLE := Lib.hid (fun u q3 o3 => @run_le Unit xs most (repR m D) (q + ct) o' u q3 o3)
            obtain ⟨rr, hrr⟩ : ∃ rr, rr = run xs most (repR m D) (q + ct) o' := ⟨_, rfl⟩
            rw [← hrr] at HP HE HNZ HLE
            clear hrr s256 slt s286 hme hp0
            go_wp2_with fail
            refine HP.out.mono ?_
            rintro e w3 hsay
            cases rr with
            | error e3 =>
              obtain ⟨rfl, hf3⟩ := hsay
              have hez : ((e3 : Int) != 0) = true := by rw [bne_iff_ne]; have := HNZ.out e3 rfl; omega
              have HR := Lib.hid (HS.out.run.trans HE.out)
              have HF3 := Lib.hid (HF2.out.trans HW.out hf3)
              clear hf3
              go_wp2_with fail
              go_ret
              rw [HR.out]
              exact ⟨rfl, HF1.out.trans (Went.refl _ _) HF3.out⟩
            | ok r3 =>
              obtain ⟨u3, q3, o3⟩ := r3
              obtain ⟨rfl, hf3, v3, hi3, hw3⟩ := hsay
              have HR := Lib.hid (HS.out.run.trans HE.out)
              have HF3 := Lib.hid (HF2.out.trans HW.out hf3)
              have HI3 := Lib.hid hi3
              have HW3 := Lib.hid (HW.out.trans hsz2 hw3)
              clear hf3 hi3 hw3
              go_wp2_with fail
              go_roundg f2
              case rel => exact ⟨f2, q3, v3, o3, rfl, Lib.hid ⟨HR.out, by have := (HLE.out u3 q3 o3 rfl).1; have := HFU2.out; omega⟩, HI3, HF3, HW3⟩
              case measure => have := HGG.out; omega
    · have hz : ((er : Int) != 0) = true := by rw [bne_iff_ne]; omega
      have HE := Lib.hid (HS.out.run.trans (HE1.out her0))
      clear her0
      go_wp2_with fail
      go_ret
      rw [HE.out]
      exact ⟨rfl, HF1.out.trans (Went.refl _ _) HF2.out⟩
end Go.Proofs.YtnfdojdppifmoaaDoor
