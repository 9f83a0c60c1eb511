/- The law MergeChooses, walked. Written by genchooses.py. -/
import Derived.Test.YteihbbmbdkkbbaaELives
import Derived.Test.YteihbbmbdkkbbaaEPlain
import Derived.Test.YteihbbmbdkkbbaaEEq
import Derived.Test.YteihbbmbdkkbbaaEApp
import Derived.Test.YteihbbmbdkkbbaaETexts
import Derived.Test.YteihbbmbdkkbbaaERChoose
namespace Go.Proofs.Yteihbbmbdkkbbaa
open Go.ChangeShapes Go.WideShapes Go.Deep Go.RowKit LabPlain Stab
set_option linter.unusedVariables false

theorem plain_rows {l : List EntV} {n : Nat} (hl : l.length = n) (h : PlainTo l n) : ∀ x ∈ l, 1 ≤ x.rows ∧ x.rows ≤ 1099511627776 := by
  intro x hx
  obtain ⟨i, hi, rfl⟩ := List.mem_iff_getElem.1 hx
  have h1 := h.2.1 i (by omega)
  have h2 : 1 ≤ l[i].rows ∧ l[i].rows ≤ 2048 := by simpa [hi] using h1
  exact ⟨h2.1, by omega⟩
theorem plain_keys {l : List EntV} {n : Nat} (hl : l.length = n) (h : PlainTo l n) : l.Pairwise (fun x y => x.key ≠ y.key) := by
  rw [List.pairwise_iff_getElem]
  intro i j hi hj hij
  have := h.2.2 i j hij (by omega)
  simpa [hi, hj] using this
/-- the document's choice is the program's -/
theorem cho_rcho {small most : Int} {l fs al : List EntV} (hp : fs.Pairwise (fun x y => ltE x y = true)) (hm : ∀ x, x ∈ fs ↔ x ∈ l ∧ x.rows < small) (hp2 : al.Pairwise (fun x y => ltE x y = true)) (hm2 : ∀ x, x ∈ al ↔ x ∈ l) (hr : ∀ x ∈ l, 1 ≤ x.rows) : cho most fs = rcho small most al := by
  have e : fs = al.filter fun x => decide (x.rows < small) := by
    refine sorted_eq (R := fun x y => ltE x y = true) (fun x h => by have := weak_ltE.irr x; rw [h] at this; cases this) (fun x y z h1 h2 => weak_ltE.tr x y z h1 h2) _ _ hp (hp2.filter _) (fun x => ?_)
    rw [hm x, List.mem_filter, hm2 x]; simp
  rw [e]
  exact cho_eq al (allruns_of al hp2) (fun x hx => hr x ((hm2 x).1 hx))

set_option maxRecDepth 100000 in
set_option maxHeartbeats 4000000 in
theorem merge_chooses (a : Option Addr) (n c : Nat) (l : List EntV) (small most : Int) (w : World) (h : EntsAt w a n c l) (_ : (Lit.int .i64 small).wf = true) (_ : (Lit.int .i64 most).wf = true) :
    Calls Try.prog 6 #[.slice a n c, .int .i64 small, .int .i64 most] w fun e w' => e = .returned (.bool true) ∧ Below w.heap.size w w' := by
  have hcap := h.cap
  have hcm := h.capm
  have HH := Lib.hid h
  have HL := Lib.hid h.len
  clear h
  go_enter Try.func6, Try.ntmps6
  go_wp2_with fail
  refine (lives16_any _).mono ?_
  rintro e w2 ⟨rfl, hb2⟩
  have HB2 := Lib.hid hb2
  have HH2 := Lib.hid (HH.out.kept hb2)
  clear hb2
  go_wp2_with fail
  refine (plain_any HH2.out).mono ?_
  rintro e w3 ⟨r, rfl, hr, hb3⟩
  have HB3 := Lib.hid (HB2.out.trans (hb3.mono HB2.out.size))
  have HP := Lib.hid hr
  clear hb3 hr
  cases r
  case false =>
    go_wp2_with fail
    refine (lives16_any _).mono ?_
    rintro e w9 ⟨rfl, hb9⟩
    have HB9 := Lib.hid (HB3.out.trans (hb9.mono HB3.out.size))
    clear hb9
    go_wp2_with fail
    go_ret
    exact ⟨rfl, HB9.out⟩
  case true =>
    by_cases hm0 : most < 0
    case pos =>
      go_wp2_with fail
      refine (lives16_any _).mono ?_
      rintro e w9 ⟨rfl, hb9⟩
      have HB9 := Lib.hid (HB3.out.trans (hb9.mono HB3.out.size))
      clear hb9
      go_wp2_with fail
      go_ret
      exact ⟨rfl, HB9.out⟩
    case neg =>
      by_cases hm1 : 1099511627776 < most
      case pos =>
        go_wp2_with fail
        refine (lives16_any _).mono ?_
        rintro e w9 ⟨rfl, hb9⟩
        have HB9 := Lib.hid (HB3.out.trans (hb9.mono HB3.out.size))
        clear hb9
        go_wp2_with fail
        go_ret
        exact ⟨rfl, HB9.out⟩
      case neg =>
        have hpl := HP.out rfl
        have hn1 : n ≤ 61 := hpl.1
        have HPR := Lib.hid (plain_rows HL.out hpl)
        have HPK := Lib.hid (plain_keys HL.out hpl)
        have hm : 0 ≤ most ∧ most ≤ 1099511627776 := by omega
        have hown0 : (w3.alloc (.cells #[] 57)).ownsRow w3.heap.size 57 9 (.slice (some ⟨w3.heap.size, 0, none⟩) 0 0) 0 (ecells []) := World.ownsRow_lit (base := w3.heap.size) (e := 57) (size := 9) w3 #[] 0 (Nat.le_refl _) (by unfold maxLen; omega) rfl
        have HH3 := Lib.hid (HH.out.kept HB3.out)
        have hb4 : Below w3.heap.size w3 (w3.alloc (.cells #[] 57)) := (Below.refl _ _).alloc (Nat.le_refl _) _
        have HH4 := Lib.hid (HH3.out.kept hb4)
        have HB4 := Lib.hid hb4
        have HN0 := Lib.hid hown0
        have hs4 := hb4.size
        clear hpl hown0 hb4
        go_wp2_with (at_builtin; refine wpList_append_ents rfl (.tmp 26) (.tmp 27) rfl w3.heap.size _ 0 [] rfl HN0.out a n c l rfl HH4.out (by omega) hs4 ?_)
        intro v5 w5 hown5 hgrow5
        have HB5 := Lib.hid (HB4.out.grown hgrow5 HB4.out.size (fun q hq => (HN0.out.lt q hq).1))
        obtain ⟨a5, c5, rfl, hat5⟩ := EntsAt.ofOwn hown5 HL.out HH.out.size
        have HAT5 := Lib.hid hat5
        clear hown5 hgrow5 hat5 hs4 HN0
        go_wp2_with fail
        refine (choose_any HAT5.out (by omega) hm HPR.out HPK.out).mono ?_
        rintro e w6 ⟨v6, fs, rfl, hp6, hm6, hown6, hb6⟩
        obtain ⟨a6, c6, rfl, hat6⟩ := TextsAt.ofOwn hown6
        have HB6 := Lib.hid (HB5.out.trans (hb6.mono HB5.out.size))
        have HP6 := Lib.hid hp6
        have HM6 := Lib.hid hm6
        have HT6 := Lib.hid hat6
        have HA6 := Lib.hid (HAT5.out.kept hb6)
        have HH6 := Lib.hid (HH3.out.kept HB6.out)
        clear hp6 hm6 hown6 hat6 hb6
        go_wp2_with fail
        go_loopw [9, 35] (fun s9 s35 wr => ∃ i : Nat, i ≤ n ∧ s35 = .int .i64 (i : Int) ∧ Hid (Below w6.heap.size w6 wr)) (fun _ s35 _ => n - (intOf s35).toNat)
        case atStart => exact ⟨0, by omega, rfl, Lib.hid (Below.refl _ _)⟩
        case round =>
          obtain ⟨i, hin, rfl, HBR⟩ := hrel
          rename World => wr
          by_cases hlt : i < n
          · have hlti : (i : Int) < (n : Int) := by omega
            have hc5 := HA6.out.cap
            obtain ⟨ba, oa, hea, hltb, hcella⟩ := (HA6.out.kept HBR.out).cells (by omega)
            obtain ⟨bb, ob, heb, hltb2, hcellb⟩ := (HH6.out.kept HBR.out).cells (by omega)
            subst hea
            subst heb
            obtain ⟨x, hx⟩ : ∃ x, x = l.getD i ent0 := ⟨_, rfl⟩
            obtain ⟨a0_, a1_, a2_, a3_, a4_, a5_, a6_, a7_, a8_⟩ := EntsAt.nine hcella hlt hx
            obtain ⟨b0_, b1_, b2_, b3_, b4_, b5_, b6_, b7_, b8_⟩ := EntsAt.nine hcellb hlt hx
            have HB7 := Lib.hid HBR.out.drew
            clear hcella hcellb hltb hltb2 hx
            go_wp2_with fail
            go_region
            go_wp2_with fail
            go_roundw
            case rel => exact ⟨i + 1, by omega, by go_num, HB7⟩
            case measure => simp [intOf]; omega
          · obtain rfl : i = n := by omega
            have HH8 := Lib.hid (HH6.out.kept HBR.out)
            clear hlt
            go_wp2_with fail
            refine (rchoose_any HH8.out (by omega) hm HPR.out HPK.out).mono ?_
            rintro e w8 ⟨v8, al, rfl, hp8, hm8, hown8, hb8⟩
            obtain ⟨a8, c8, rfl, hat8⟩ := TextsAt.ofOwn hown8
            have he := cho_rcho (most := most) HP6.out HM6.out hp8 hm8 (fun x hx => (HPR.out x hx).1)
            rw [← he] at hat8 ⊢
            have hb68 := HBR.out.trans (hb8.mono HBR.out.size)
            have hat68 : TextsAt w8 a6 (cho most fs).length (cho most fs) := ⟨HT6.out.1, HT6.out.2.1, fun hp => by
              obtain ⟨b, off, h1, h2, h3⟩ := HT6.out.2.2 hp
              exact ⟨b, off, h1, Nat.lt_of_lt_of_le h2 hb68.size, fun i hi => (hb68.cell (p := ⟨b, off + i, none⟩) h2).trans (h3 i hi)⟩⟩
            have HS := Lib.hid (sametexts_any (c := c6) (d := c8) hat68 hat8)
            have HB8 := Lib.hid ((HB3.out.trans (HB6.out.mono HB3.out.size)).trans (hb68.mono (Nat.le_trans HB3.out.size HB6.out.size)))
            clear hp8 hm8 hown8 hb8 hat8 he hb68 hat68
            go_wp2_with fail
            refine HS.out.mono ?_
            rintro e w10 ⟨rfl, hb10⟩
            have HB10 := Lib.hid (HB8.out.trans (hb10.mono HB8.out.size))
            clear hb10
            go_wp2_with fail
            go_ret
            exact ⟨rfl, HB10.out⟩
end Go.Proofs.Yteihbbmbdkkbbaa
