/- Texts put together by packtpl2.py: MfBW, MfOpen, CrcLaid, TiedSh. -/
import Derived.Test.YtbdgcfimbblncaaGreatDoorPkMB1
import Derived.Test.YtbdgcfimbblncaaGreatDoorPkMB5
import Derived.Test.YtbdgcfimbblncaaGreatDoorPkMB7
import Derived.Test.YtbdgcfimbblncaaGreatDoorPkMB8
import Derived.Test.YtbdgcfimbblncaaGreatDoorPkMB9
import Derived.Deep.Slices
import Derived.Deep.Fields
import Derived.SizedLaws
import Derived.OpenShut
import Derived.Test.YtbdgcfimbblncaaGreatDoorRows
import Derived.Lib.LaidTab
import Derived.MakeChecks
import Derived.Handed
import Derived.HandedShaped
section PkMB10_0
/- Manifests: the law ManifestBack, walked. Written by genmfbw.py. -/
namespace Go.Proofs.YtbdgcfimbblncaaGreatDoor
open Go.RowKit NumsPlain LabPlain CrcPlain
set_option linter.unusedVariables false

theorem ris_count {α : Type} {p : α → Bool} {cm : α → α → Int} {d : α} {l : List α} {n : Nat} {m : Int} (key : α → Int) (h : RisOk p cm d l n) (hp : ∀ x, p x = true → 1 ≤ key x ∧ key x ≤ m) (hc : ∀ a b, cm a b < 0 → key a < key b) (h0 : 0 ≤ m) : (n : Int) ≤ m := by
  have h1 : ∀ j, j < n → (j : Int) + 1 ≤ key (l.getD j d) := by
    intro j
    induction j with
    | zero => intro hj; have := (hp _ (h 0 hj).1).1; omega
    | succ j ih =>
      intro hj
      have h2 := ih (by omega)
      have h3 := hc _ _ ((h (j + 1) hj).2 (by omega))
      rw [Nat.add_sub_cancel] at h3
      omega
  rcases Nat.eq_zero_or_pos n with e | e
  · omega
  · have h2 := h1 (n - 1) (by omega)
    have h3 := (hp _ (h (n - 1) (by omega)).1).2
    omega
theorem set_size {s : ByteArray} (h : (setIn s).isSome = true) : s.size ≤ 1000 := by
  cases hs : setIn s with
  | none => rw [hs] at h; cases h
  | some l =>
    obtain ⟨h1, h2⟩ := setIn_sound hs
    have h4 := textTo_size h1 l.length (Nat.le_refl _)
    have h5 : l.length ≤ 4 := ((Bool.and_eq_true _ _).mp h1 |>.1 |> of_decide_eq_true)
    rw [← h2]
    unfold textOf
    rw [ByteArray.size_append, show ({ data := #[125] } : ByteArray).size = 1 from rfl]; omega
theorem key_size {s : ByteArray} (h : keyB s = true) : s.size ≤ 40 := by
  unfold keyB at h
  simp only [Bool.and_eq_true, decide_eq_true_eq] at h
  exact h.2.1
/-- a right manifest keeps the limits -/
theorem man_lim {s d hz : Int} {en : Nat} {le : List EntV} {mn : Nat} {lm : List (Int × Int)} {on : Nat} {lo : List (Int × Int × Int)} {mw mr mz k1 k2 : Int} (h : IsMan pfS s d hz en le mn lm on lo) (hle : le.length = en) (hlm : lm.length = mn) (hlo : lo.length = on) (hsum : ∀ x ∈ le, 0 ≤ x.sum ∧ x.sum ≤ 4294967295) (hmw : 1099511627775 ≤ mw) (hmr : 2048 ≤ mr) (hmz : 262144 ≤ mz) (hk1 : 64 ≤ k1) (hk2 : 8 ≤ k2) :
    (∀ x ∈ le, EntLim mw mr mz x) ∧ (∀ x ∈ lm, (0 ≤ x.1 ∧ x.1 ≤ k1 ∧ x.1 ≤ 1099511627775) ∧ (0 ≤ x.2 ∧ x.2 ≤ mw ∧ x.2 ≤ 1099511627775)) ∧ (∀ x ∈ lo, (0 ≤ x.1 ∧ x.1 ≤ k2 ∧ x.1 ≤ 1099511627775) ∧ (0 ≤ x.2.1 ∧ x.2.1 ≤ mw ∧ x.2.1 ≤ 1099511627775) ∧ (0 ≤ x.2.2 ∧ x.2.2 ≤ mw ∧ x.2.2 ≤ 1099511627775)) ∧ le.length ≤ 256 ∧ lm.length ≤ 64 ∧ lo.length ≤ 8 := by
  obtain ⟨h1, h2, h3, h4, h5⟩ := h
  refine ⟨fun x hx => ?_, fun x hx => ?_, fun x hx => ?_, by omega, ?_, ?_⟩
  · obtain ⟨j, hj, e⟩ := List.getElem_of_mem hx
    have e2 : le.getD j EntS.z = x := by simp [hj, e]
    have h6 := (h3 j (by omega)).1
    rw [e2] at h6
    simp only [stayB, pfS_is, entB, withinB, Bool.and_eq_true, decide_eq_true_eq] at h6
    have h7 := key_size h6.1.1
    have h8 := set_size h6.1.2.2.1
    have h9 := hsum x hx
    refine ⟨h7, by omega, ⟨?_, ?_, ?_⟩, ⟨?_, ?_, ?_⟩, ⟨?_, ?_, ?_⟩, ⟨?_, ?_, ?_⟩, ⟨?_, ?_, ?_⟩, h9, ⟨?_, ?_, ?_⟩⟩ <;> omega
  · obtain ⟨j, hj, e⟩ := List.getElem_of_mem hx
    have e2 : lm.getD j MarkS.z = x := by simp [hj, e]
    have h6 := (h4 j (by omega)).1
    rw [e2] at h6
    simp only [isMarkB, withinB, Bool.and_eq_true, decide_eq_true_eq] at h6
    refine ⟨⟨?_, ?_, ?_⟩, ⟨?_, ?_, ?_⟩⟩ <;> omega
  · obtain ⟨j, hj, e⟩ := List.getElem_of_mem hx
    have e2 : lo.getD j OwnS.z = x := by simp [hj, e]
    have h6 := (h5 j (by omega)).1
    rw [e2] at h6
    simp only [isOwnB, withinB, Bool.and_eq_true, decide_eq_true_eq] at h6
    refine ⟨⟨?_, ?_, ?_⟩, ⟨?_, ?_, ?_⟩, ⟨?_, ?_, ?_⟩⟩ <;> omega
  · have := ris_count (m := 64) (fun x : Int × Int => x.1) h4 (fun x hx => by simp only [isMarkB, withinB, Bool.and_eq_true, decide_eq_true_eq] at hx; exact hx.1) (fun a b hab => (cmp3_lt9 _ _).1 hab) (by decide)
    omega
  · have := ris_count (m := 8) (fun x : Int × Int × Int => x.1) h5 (fun x hx => by simp only [isOwnB, withinB, Bool.and_eq_true, decide_eq_true_eq] at hx; exact hx.1) (fun a b hab => (cmp3_lt9 _ _).1 hab) (by decide)
    omega
theorem man_read {ns nd nh : Nat} {en : Nat} {le : List EntV} {mn : Nat} {lm : List (Int × Int)} {on : Nat} {lo : List (Int × Int × Int)} {mw mr mz k1 k2 : Int} (h : IsMan pfS ns nd nh en le mn lm on lo) (hle : le.length = en) (hlm : lm.length = mn) (hlo : lo.length = on) (hsum : ∀ x ∈ le, 0 ≤ x.sum ∧ x.sum ≤ 4294967295) (hmw : 1099511627775 ≤ mw) (hmr : 2048 ≤ mr) (hmz : 262144 ≤ mz) (hk1 : 64 ≤ k1) (hk2 : 8 ≤ k2) :
    rdM (manC ns nd nh le lm lo) mw mr mz k1 k2 = ⟨[77, 65, 78, 73, 1], ns, nd, nh, en, le, mn, lm, on, lo, ((manC ns nd nh le lm lo).length, 0)⟩ := by
  obtain ⟨q1, q2, q3, q4, q5, q6⟩ := man_lim h hle hlm hlo hsum hmw hmr hmz hk1 hk2
  have h1 := h.1
  simp only [withinB, Bool.and_eq_true, decide_eq_true_eq] at h1
  have := man_at (mw := mw) (mr := mr) (mz := mz) (k1 := k1) (k2 := k2) (ns := ns) (nd := nd) (nh := nh) ⟨by omega, by omega, by omega⟩ ⟨by omega, by omega, by omega⟩ q1 q2 q3 q4 q5 q6
  rw [hle, hlm, hlo] at this
  exact this
theorem man_inj {ns nd nh ns2 nd2 nh2 : Nat} {en en2 mn mn2 on on2 : Nat} {le le2 : List EntV} {lm lm2 : List (Int × Int)} {lo lo2 : List (Int × Int × Int)} (h : IsMan pfS ns nd nh en le mn lm on lo) (h' : IsMan pfS ns2 nd2 nh2 en2 le2 mn2 lm2 on2 lo2) (hle : le.length = en) (hlm : lm.length = mn) (hlo : lo.length = on) (hsum : ∀ x ∈ le, 0 ≤ x.sum ∧ x.sum ≤ 4294967295) (hle2 : le2.length = en2) (hlm2 : lm2.length = mn2) (hlo2 : lo2.length = on2) (hsum2 : ∀ x ∈ le2, 0 ≤ x.sum ∧ x.sum ≤ 4294967295) :
    (sealed (manC ns nd nh le lm lo) == sealed (manC ns2 nd2 nh2 le2 lm2 lo2)) = true ↔ SameP ns ns2 nd nd2 nh nh2 le le2 lm lm2 lo lo2 := by
  rw [beq_iff_eq]
  constructor
  · intro e
    have e1 := sealed_inj e
    have r1 := man_read (mw := 1099511627776) (mr := 2048) (mz := 262144) (k1 := 64) (k2 := 8) h hle hlm hlo hsum (by decide) (by decide) (by decide) (by decide) (by decide)
    have r2 := man_read (mw := 1099511627776) (mr := 2048) (mz := 262144) (k1 := 64) (k2 := 8) h' hle2 hlm2 hlo2 hsum2 (by decide) (by decide) (by decide) (by decide) (by decide)
    rw [e1, r2] at r1
    simp only [RdM.mk.injEq] at r1
    obtain ⟨_, a1, a2, a3, _, a4, _, a5, _, a6, _⟩ := r1
    exact ⟨by rw [a1], by rw [a2], by rw [a3], a4.symm, a5.symm, a6.symm⟩
  · rintro ⟨a1, a2, a3, rfl, rfl, rfl⟩
    have b1 : ns = ns2 := by omega
    have b2 : nd = nd2 := by omega
    have b3 : nh = nh2 := by omega
    rw [b1, b2, b3]

set_option maxRecDepth 100000 in
set_option maxHeartbeats 8000000 in
theorem back_yy {w : World} (hT : Table w) {mx : Int} (hmx : MaxAt mx w) {ns nd nh : Nat} {ns2 nd2 nh2 : Nat} {ea ma oa ea2 ma2 oa2 : Option Addr} {en ec mn mc on oc en2 ec2 mn2 mc2 on2 oc2 : Nat} {le le2 : List EntV} {lm lm2 : List (Int × Int)} {lo lo2 : List (Int × Int × Int)} (hE : VecAt EntS w ea en ec le) (hM : VecAt MarkS w ma mn mc lm) (hO : VecAt OwnS w oa on oc lo) (hE2 : VecAt EntS w ea2 en2 ec2 le2) (hM2 : VecAt MarkS w ma2 mn2 mc2 lm2) (hO2 : VecAt OwnS w oa2 on2 oc2 lo2) (hman : IsMan pfS ns nd nh en le mn lm on lo) (hman2 : IsMan pfS ns2 nd2 nh2 en2 le2 mn2 lm2 on2 lo2) :
    Calls Tryz.prog 5 #[.agg #[.int .i64 (ns : Int), .int .i64 (nd : Int), .int .i64 (nh : Int), .slice ea en ec, .slice ma mn mc, .slice oa on oc], .agg #[.int .i64 (ns2 : Int), .int .i64 (nd2 : Int), .int .i64 (nh2 : Int), .slice ea2 en2 ec2, .slice ma2 mn2 mc2, .slice oa2 on2 oc2]] w fun e w' => e = .returned (.bool true) ∧ Below w.heap.size w w' := by
  obtain ⟨wa, hwa⟩ : ∃ wa, wa = w.alloc (.cells #[.int .i64 (ns : Int), .int .i64 (nd : Int), .int .i64 (nh : Int), .slice ea en ec, .slice ma mn mc, .slice oa on oc] 26) := ⟨_, rfl⟩
  have ba : Below w.heap.size w wa := by rw [hwa]; exact (Below.refl _ _).alloc (Nat.le_refl _) _
  have ga : wa.heap[w.heap.size]? = some (.cells #[.int .i64 (ns : Int), .int .i64 (nd : Int), .int .i64 (nh : Int), .slice ea en ec, .slice ma mn mc, .slice oa on oc] 26 (0, 0)) := by rw [hwa]; exact heap_alloc_new _ _
  have sa : wa.heap.size = w.heap.size + 1 := by rw [hwa]; exact Array.size_push _
  obtain ⟨wx, hwx⟩ : ∃ wx, wx = wa.alloc (.cells #[.int .i64 (ns2 : Int), .int .i64 (nd2 : Int), .int .i64 (nh2 : Int), .slice ea2 en2 ec2, .slice ma2 mn2 mc2, .slice oa2 on2 oc2] 26) := ⟨_, rfl⟩
  have bx : Below wa.heap.size wa wx := by rw [hwx]; exact (Below.refl _ _).alloc (Nat.le_refl _) _
  have gx : wx.heap[w.heap.size + 1]? = some (.cells #[.int .i64 (ns2 : Int), .int .i64 (nd2 : Int), .int .i64 (nh2 : Int), .slice ea2 en2 ec2, .slice ma2 mn2 mc2, .slice oa2 on2 oc2] 26 (0, 0)) := by rw [hwx, ← sa]; exact heap_alloc_new _ _
  have ga2 : wx.heap[w.heap.size]? = some (.cells #[.int .i64 (ns : Int), .int .i64 (nd : Int), .int .i64 (nh : Int), .slice ea en ec, .slice ma mn mc, .slice oa on oc] 26 (0, 0)) := (bx.block w.heap.size (by omega)).trans ga
  have HT := Lib.hid hT
  have HX := Lib.hid hmx
  have HE := Lib.hid hE
  have HM := Lib.hid hM
  have HO := Lib.hid hO
  have HE2 := Lib.hid hE2
  have HM2 := Lib.hid hM2
  have HO2 := Lib.hid hO2
  have HMAN := Lib.hid hman
  have HMAN2 := Lib.hid hman2
  have B0 := Lib.hid (ba.trans (bx.mono ba.size))
  have G0 := Lib.hid ga2
  have K0 := Lib.hid gx
  have HWX := Lib.hid (show wx = (w.alloc (.cells #[.int .i64 (ns : Int), .int .i64 (nd : Int), .int .i64 (nh : Int), .slice ea en ec, .slice ma mn mc, .slice oa on oc] 26)).alloc (.cells #[.int .i64 (ns2 : Int), .int .i64 (nd2 : Int), .int .i64 (nh2 : Int), .slice ea2 en2 ec2, .slice ma2 mn2 mc2, .slice oa2 on2 oc2] 26) from by rw [hwx, hwa])
  have HLV := Lib.hid (fun W : World => lives_true W)
  clear hwa ba ga sa hwx bx gx ga2 hT hmx hE hM hO hE2 hM2 hO2 hman hman2
  go_enter Tryz.func5, Tryz.ntmps5
  go_wp2_with fail
  rw [← HWX.out]
  refine (HLV.out _).mono ?_
  rintro e w1 ⟨rfl, hb⟩
  have B1 := Lib.hid (B0.out.trans (hb.mono B0.out.size))
  have G1 := Lib.hid ((hb.block w.heap.size (Array.getElem?_eq_some_iff.1 G0.out).1).trans G0.out)
  have K1 := Lib.hid ((hb.block (w.heap.size + 1) (Array.getElem?_eq_some_iff.1 K0.out).1).trans K0.out)
  have HF1 := Lib.hid (few_says (w := w1) (s := ns) (d := nd) (hz := nh) (ma := ma) (mn := mn) (mc := mc) (oa := oa) (on := on) (oc := oc) (HE.out.kept B1.out))
  have a0 : w1.cell? ⟨w.heap.size, 0, none⟩ = some (.int .i64 (ns : Int)) := cell_blk9 G1.out rfl
  have a1 : w1.cell? ⟨w.heap.size, 1, none⟩ = some (.int .i64 (nd : Int)) := cell_blk9 G1.out rfl
  have a2 : w1.cell? ⟨w.heap.size, 2, none⟩ = some (.int .i64 (nh : Int)) := cell_blk9 G1.out rfl
  have a3 : w1.cell? ⟨w.heap.size, 3, none⟩ = some (.slice ea en ec) := cell_blk9 G1.out rfl
  have a4 : w1.cell? ⟨w.heap.size, 4, none⟩ = some (.slice ma mn mc) := cell_blk9 G1.out rfl
  have a5 : w1.cell? ⟨w.heap.size, 5, none⟩ = some (.slice oa on oc) := cell_blk9 G1.out rfl
  clear hb
  go_wp2_with fail
  refine HF1.out.mono ?_
  rintro e w2 ⟨⟨b2, rfl, hfew⟩, hb⟩
  have B2 := Lib.hid (B1.out.trans (hb.mono B1.out.size))
  have G2 := Lib.hid ((hb.block w.heap.size (Array.getElem?_eq_some_iff.1 G1.out).1).trans G1.out)
  have K2 := Lib.hid ((hb.block (w.heap.size + 1) (Array.getElem?_eq_some_iff.1 K1.out).1).trans K1.out)
  have HFW := Lib.hid hfew
  clear hb hfew a0 a1 a2 a3 a4 a5
  cases b2 with
  | false =>
    go_wp2_with fail
    refine (HLV.out _).mono ?_
    rintro e w3 ⟨rfl, hb3⟩
    have B3 := Lib.hid (B2.out.trans (hb3.mono B2.out.size))
    clear hb3
    go_wp2_with fail
    go_ret
    exact ⟨rfl, B3.out⟩
  | true =>
  have HF2 := Lib.hid (few_says (w := w2) (s := ns2) (d := nd2) (hz := nh2) (ma := ma2) (mn := mn2) (mc := mc2) (oa := oa2) (on := on2) (oc := oc2) (HE2.out.kept B2.out))
  have p0 : w2.cell? ⟨w.heap.size + 1, 0, none⟩ = some (.int .i64 (ns2 : Int)) := cell_blk9 K2.out rfl
  have p1 : w2.cell? ⟨w.heap.size + 1, 1, none⟩ = some (.int .i64 (nd2 : Int)) := cell_blk9 K2.out rfl
  have p2 : w2.cell? ⟨w.heap.size + 1, 2, none⟩ = some (.int .i64 (nh2 : Int)) := cell_blk9 K2.out rfl
  have p3 : w2.cell? ⟨w.heap.size + 1, 3, none⟩ = some (.slice ea2 en2 ec2) := cell_blk9 K2.out rfl
  have p4 : w2.cell? ⟨w.heap.size + 1, 4, none⟩ = some (.slice ma2 mn2 mc2) := cell_blk9 K2.out rfl
  have p5 : w2.cell? ⟨w.heap.size + 1, 5, none⟩ = some (.slice oa2 on2 oc2) := cell_blk9 K2.out rfl
  go_wp2_with fail
  refine HF2.out.mono ?_
  rintro e w3 ⟨⟨b3, rfl, hfew⟩, hb⟩
  have B3 := Lib.hid (B2.out.trans (hb.mono B2.out.size))
  have G3 := Lib.hid ((hb.block w.heap.size (Array.getElem?_eq_some_iff.1 G2.out).1).trans G2.out)
  have K3 := Lib.hid ((hb.block (w.heap.size + 1) (Array.getElem?_eq_some_iff.1 K2.out).1).trans K2.out)
  have HFW2 := Lib.hid hfew
  clear hb hfew p0 p1 p2 p3 p4 p5
  cases b3 with
  | false =>
    go_wp2_with fail
    refine (HLV.out _).mono ?_
    rintro e w4 ⟨rfl, hb4⟩
    have B4 := Lib.hid (B3.out.trans (hb4.mono B3.out.size))
    clear hb4
    go_wp2_with fail
    go_ret
    exact ⟨rfl, B4.out⟩
  | true =>
  obtain ⟨f1, f2, f3, f4⟩ := HFW.out (by first | rfl | trivial)
  obtain ⟨f5, f6, f7, f8⟩ := HFW2.out (by first | rfl | trivial)
  have HSZ := Lib.hid (FewIs.all HE.out f4)
  have HSZ2 := Lib.hid (FewIs.all HE2.out f8)
  have HK := Lib.hid (show ∀ x ∈ le, x.key.size ≤ 100 ∧ x.part.size ≤ 1300 from fun x hx => ⟨(HSZ.out x hx).1, by have := (HSZ.out x hx).2; omega⟩)
  have HK2 := Lib.hid (show ∀ x ∈ le2, x.key.size ≤ 100 ∧ x.part.size ≤ 1300 from fun x hx => ⟨(HSZ2.out x hx).1, by have := (HSZ2.out x hx).2; omega⟩)
  clear f4 f8
  have HEN := Lib.hid (mencode_nat (w := w3) (HT.out.below B3.out) pfS (HE.out.kept B3.out) (HM.out.kept B3.out) (HO.out.kept B3.out) (par_any (HX.out.below B3.out) (fun x hx => (HK.out x hx).2)) HMAN.out HK.out f2 f3)
  have c0 : w3.cell? ⟨w.heap.size, 0, none⟩ = some (.int .i64 (ns : Int)) := cell_blk9 G3.out rfl
  have c1 : w3.cell? ⟨w.heap.size, 1, none⟩ = some (.int .i64 (nd : Int)) := cell_blk9 G3.out rfl
  have c2 : w3.cell? ⟨w.heap.size, 2, none⟩ = some (.int .i64 (nh : Int)) := cell_blk9 G3.out rfl
  have c3 : w3.cell? ⟨w.heap.size, 3, none⟩ = some (.slice ea en ec) := cell_blk9 G3.out rfl
  have c4 : w3.cell? ⟨w.heap.size, 4, none⟩ = some (.slice ma mn mc) := cell_blk9 G3.out rfl
  have c5 : w3.cell? ⟨w.heap.size, 5, none⟩ = some (.slice oa on oc) := cell_blk9 G3.out rfl
  go_wp2_with fail
  refine HEN.out.mono ?_
  rintro e w4 ⟨⟨qa, qc, rfl, hby⟩, hb⟩
  have B4 := Lib.hid (B3.out.trans (hb.mono B3.out.size))
  have G4 := Lib.hid ((hb.block w.heap.size (Array.getElem?_eq_some_iff.1 G3.out).1).trans G3.out)
  have K4 := Lib.hid ((hb.block (w.heap.size + 1) (Array.getElem?_eq_some_iff.1 K3.out).1).trans K3.out)
  have HY4 := Lib.hid hby
  clear hby
  have HEN2 := Lib.hid (mencode_nat (w := w4) (HT.out.below B4.out) pfS (HE2.out.kept B4.out) (HM2.out.kept B4.out) (HO2.out.kept B4.out) (par_any (HX.out.below B4.out) (fun x hx => (HK2.out x hx).2)) HMAN2.out HK2.out f6 f7)
  have g0 : w4.cell? ⟨w.heap.size + 1, 0, none⟩ = some (.int .i64 (ns2 : Int)) := cell_blk9 K4.out rfl
  have g1 : w4.cell? ⟨w.heap.size + 1, 1, none⟩ = some (.int .i64 (nd2 : Int)) := cell_blk9 K4.out rfl
  have g2 : w4.cell? ⟨w.heap.size + 1, 2, none⟩ = some (.int .i64 (nh2 : Int)) := cell_blk9 K4.out rfl
  have g3 : w4.cell? ⟨w.heap.size + 1, 3, none⟩ = some (.slice ea2 en2 ec2) := cell_blk9 K4.out rfl
  have g4 : w4.cell? ⟨w.heap.size + 1, 4, none⟩ = some (.slice ma2 mn2 mc2) := cell_blk9 K4.out rfl
  have g5 : w4.cell? ⟨w.heap.size + 1, 5, none⟩ = some (.slice oa2 on2 oc2) := cell_blk9 K4.out rfl
  clear hb c0 c1 c2 c3 c4 c5
  go_wp2_with fail
  refine HEN2.out.mono ?_
  rintro e w5 ⟨⟨ra, rc, rfl, hbz⟩, hb⟩
  have B5 := Lib.hid (B4.out.trans (hb.mono B4.out.size))
  have G5 := Lib.hid ((hb.block w.heap.size (Array.getElem?_eq_some_iff.1 G4.out).1).trans G4.out)
  have K5 := Lib.hid ((hb.block (w.heap.size + 1) (Array.getElem?_eq_some_iff.1 K4.out).1).trans K4.out)
  have HY5 := Lib.hid (HY4.out.kept hb)
  have HZ5 := Lib.hid hbz
  clear hbz
  clear hb g0 g1 g2 g3 g4 g5
  obtain ⟨hI, hNE, hNM, hNO⟩ := man_nat HMAN.out HE.out.len HM.out.len HO.out.len HK.out (fun x hx => (HE.out.all x hx).2.2)
  have hcl := manC_len hI hNE hNM hNO (by rw [HE.out.len]; omega) (by rw [HM.out.len]; exact f2) (by rw [HO.out.len]; exact f3)
  have HRD := Lib.hid (man_read (mw := 1099511627776) (mr := 2048) (mz := 262144) (k1 := 64) (k2 := 8) HMAN.out HE.out.len HM.out.len HO.out.len (fun x hx => (HE.out.all x hx).2.2) (by decide) (by decide) (by decide) (by decide) (by decide))
  have HDE := mdecode_any (w := w5) (HT.out.below B5.out) (HX.out.below B5.out) HY5.out (by omega)
  rw [op_sealed] at HDE
  simp only at HDE
  rw [HRD.out] at HDE
  have HOK := Lib.hid (show OkM (manC ns nd nh le lm lo) ⟨[77, 65, 78, 73, 1], ns, nd, nh, en, le, mn, lm, on, lo, ((manC ns nd nh le lm lo).length, 0)⟩ from ⟨by unfold hdB; rw [bs_toList]; rfl, by unfold cend; simp, HMAN.out⟩)
  have HDEC := Lib.hid HDE
  clear hI hNE hNM hNO hcl HDE
  go_wp2_with fail
  refine HDEC.out.mono ?_
  rintro e w6 ⟨hdec, hb⟩
  have B6 := Lib.hid (B5.out.trans (hb.mono B5.out.size))
  have G6 := Lib.hid ((hb.block w.heap.size (Array.getElem?_eq_some_iff.1 G5.out).1).trans G5.out)
  have K6 := Lib.hid ((hb.block (w.heap.size + 1) (Array.getElem?_eq_some_iff.1 K5.out).1).trans K5.out)
  have HY6 := Lib.hid (HY5.out.kept hb)
  have HZ6 := Lib.hid (HZ5.out.kept hb)
  clear hb
  rcases hdec with ⟨h, _⟩ | ⟨_, h, _⟩ | ⟨_, _, xa, xc, ya, yc, za, zc, rfl, hv1, hv2, hv3⟩
  · exact absurd rfl h
  · exact absurd HOK.out h
  simp only at hv1 hv2 hv3
  obtain ⟨w7, hw7⟩ : ∃ w7, w7 = w6.alloc (.cells #[.int .i64 (ns : Int), .int .i64 (nd : Int), .int .i64 (nh : Int), .slice xa en xc, .slice ya mn yc, .slice za on zc] 26) := ⟨_, rfl⟩
  have b7 : Below w6.heap.size w6 w7 := by rw [hw7]; exact (Below.refl _ _).alloc (Nat.le_refl _) _
  have HXX := Lib.hid (show w7.heap[w6.heap.size]? = some (.cells #[.int .i64 (ns : Int), .int .i64 (nd : Int), .int .i64 (nh : Int), .slice xa en xc, .slice ya mn yc, .slice za on zc] 26 (0, 0)) from by rw [hw7]; exact heap_alloc_new _ _)
  have B7 := Lib.hid (B6.out.trans (b7.mono B6.out.size))
  have G7 := Lib.hid ((b7.block w.heap.size (Array.getElem?_eq_some_iff.1 G6.out).1).trans G6.out)
  have K7 := Lib.hid ((b7.block (w.heap.size + 1) (Array.getElem?_eq_some_iff.1 K6.out).1).trans K6.out)
  have V1 := Lib.hid (hv1.kept b7)
  have V2 := Lib.hid (hv2.kept b7)
  have V3 := Lib.hid (hv3.kept b7)
  have HY7 := Lib.hid (HY6.out.kept b7)
  have HZ7 := Lib.hid (HZ6.out.kept b7)
  have HLX := Lib.hid (Array.getElem?_eq_some_iff.1 HXX.out).1
  have HL0 := Lib.hid (Array.getElem?_eq_some_iff.1 G7.out).1
  have HL1 := Lib.hid (Array.getElem?_eq_some_iff.1 K7.out).1
  have HW7 := Lib.hid hw7
  have HS1 := Lib.hid (show ∀ W, Below w7.heap.size w7 W → Calls Tryz.prog 12 #[.agg #[.int .i64 (ns : Int), .int .i64 (nd : Int), .int .i64 (nh : Int), .slice xa en xc, .slice ya mn yc, .slice za on zc], .agg #[.int .i64 (ns : Int), .int .i64 (nd : Int), .int .i64 (nh : Int), .slice ea en ec, .slice ma mn mc, .slice oa on oc]] W fun e w' => e = .returned (.bool true) ∧ Below W.heap.size W w' from fun W hb => by
    refine (rsame13_any (s := ns) (s2 := ns) (d := nd) (d2 := nd) (hz := nh) (hz2 := nh) (V1.out.kept hb) (V2.out.kept hb) (V3.out.kept hb) (HE.out.kept (B7.out.trans (hb.mono B7.out.size))) (HM.out.kept (B7.out.trans (hb.mono B7.out.size))) (HO.out.kept (B7.out.trans (hb.mono B7.out.size)))).mono ?_
    rintro e w' ⟨⟨b, rfl, h⟩, h2⟩
    obtain rfl : b = true := h.2 ⟨rfl, rfl, rfl, rfl, rfl, rfl⟩
    exact ⟨rfl, h2⟩)
  obtain ⟨sb, hsb⟩ : ∃ sb : Bool, (sb = true ↔ SameP ns ns2 nd nd2 nh nh2 le le2 lm lm2 lo lo2) := by
    by_cases q : SameP ns ns2 nd nd2 nh nh2 le le2 lm lm2 lo lo2
    · exact ⟨true, ⟨fun _ => q, fun _ => rfl⟩⟩
    · exact ⟨false, ⟨fun e => (by cases e), fun g => absurd g q⟩⟩
  have hbe : (sealed (manC ns nd nh le lm lo) == sealed (manC ns2 nd2 nh2 le2 lm2 lo2)) = sb := by
    rw [Bool.eq_iff_iff, hsb]
    exact man_inj HMAN.out HMAN2.out HE.out.len HM.out.len HO.out.len (fun x hx => (HE.out.all x hx).2.2) HE2.out.len HM2.out.len HO2.out.len (fun x hx => (HE2.out.all x hx).2.2)
  have HS2 := Lib.hid (show ∀ W, Below w7.heap.size w7 W → Calls Tryz.prog 13 #[.slice qa ((manC ns nd nh le lm lo).length + 4) qc, .slice ra ((manC ns2 nd2 nh2 le2 lm2 lo2).length + 4) rc] W fun e w' => e = .returned (.bool sb) ∧ Below W.heap.size W w' from fun W hb => by
    refine (same_any (HY7.out.kept hb) (HZ7.out.kept hb)).mono ?_
    rintro e w' ⟨rfl, rfl⟩
    exact ⟨by rw [hbe], Below.refl _ _⟩)
  have HS3 := Lib.hid (show ∀ W, Below w7.heap.size w7 W → Calls Tryz.prog 12 #[.agg #[.int .i64 (ns : Int), .int .i64 (nd : Int), .int .i64 (nh : Int), .slice ea en ec, .slice ma mn mc, .slice oa on oc], .agg #[.int .i64 (ns2 : Int), .int .i64 (nd2 : Int), .int .i64 (nh2 : Int), .slice ea2 en2 ec2, .slice ma2 mn2 mc2, .slice oa2 on2 oc2]] W fun e w' => e = .returned (.bool sb) ∧ Below W.heap.size W w' from fun W hb => by
    have hb9 := B7.out.trans (hb.mono B7.out.size)
    refine (rsame13_any (s := ns) (s2 := ns2) (d := nd) (d2 := nd2) (hz := nh) (hz2 := nh2) (HE.out.kept hb9) (HM.out.kept hb9) (HO.out.kept hb9) (HE2.out.kept hb9) (HM2.out.kept hb9) (HO2.out.kept hb9)).mono ?_
    rintro e w' ⟨⟨b, rfl, h⟩, h2⟩
    obtain rfl : b = sb := by rw [Bool.eq_iff_iff, h, hsb]
    exact ⟨rfl, h2⟩)
  clear hsb hbe
  clear hv1 hv2 hv3 hw7 b7
  go_wp2_with fail
  rw [← HW7.out]
  refine wp_region_fill (by kernel_rfl) (by kernel_rfl) (by kernel_rfl) (Below w7.heap.size w7) (FV (fun j_9 => match j_9 with | 0 => some (.int .i64 0) | 1 => some (.bool true) | 2 => some (.bool true) | 3 => some (.agg #[.int .i64 (ns : Int), .int .i64 (nd : Int), .int .i64 (nh : Int), .slice xa en xc, .slice ya mn yc, .slice za on zc]) | 4 => some (.agg #[.int .i64 (ns : Int), .int .i64 (nd : Int), .int .i64 (nh : Int), .slice ea en ec, .slice ma mn mc, .slice oa on oc]) | 5 => some (.bool true) | 6 => some (.bool true) | 7 => some (.bool true) | 8 => some (.int .i64 0) | 9 => some (.bool false) | 10 => some (.bool false) | 11 => some (.slice qa ((manC ns nd nh le lm lo).length + 4) qc) | 12 => some (.slice ra ((manC ns2 nd2 nh2 le2 lm2 lo2).length + 4) rc) | 13 => some (.bool sb) | 14 => some (.agg #[.int .i64 (ns : Int), .int .i64 (nd : Int), .int .i64 (nh : Int), .slice ea en ec, .slice ma mn mc, .slice oa on oc]) | 15 => some (.agg #[.int .i64 (ns2 : Int), .int .i64 (nd2 : Int), .int .i64 (nh2 : Int), .slice ea2 en2 ec2, .slice ma2 mn2 mc2, .slice oa2 on2 oc2]) | 16 => some (.bool sb) | 17 => some (.bool true) | 18 => some (.bool true) | 19 => some (.bool true) | 20 => some (.bool true) | _ => none) (fun _ _ => True)) (Below.refl _ _).drew ?_ ?_
  · intro i9 o ho V w9 K hJ hdep hK
    have HJ := Lib.hid hJ
    simp only [fill, slotOf, List.size_toArray, List.length_cons, List.length_nil, Nat.reduceAdd, List.getElem?_toArray, List.getElem?_cons_zero, List.getElem?_cons_succ, Option.bind_some, Act.put, List.setIfInBounds_toArray, List.set_cons_zero, List.set_cons_succ] at hK ⊢
    have hin : i9 < 21 := (Array.getElem?_eq_some_iff.1 ho).1
    have hcs : i9 = 0 ∨ i9 = 1 ∨ i9 = 2 ∨ i9 = 3 ∨ i9 = 4 ∨ i9 = 5 ∨ i9 = 6 ∨ i9 = 7 ∨ i9 = 8 ∨ i9 = 9 ∨ i9 = 10 ∨ i9 = 11 ∨ i9 = 12 ∨ i9 = 13 ∨ i9 = 14 ∨ i9 = 15 ∨ i9 = 16 ∨ i9 = 17 ∨ i9 = 18 ∨ i9 = 19 ∨ i9 = 20 := by omega
    clear hin
    rcases hcs with rfl | rfl | rfl | rfl | rfl | rfl | rfl | rfl | rfl | rfl | rfl | rfl | rfl | rfl | rfl | rfl | rfl | rfl | rfl | rfl | rfl
    · obtain rfl := Option.some.inj ho.symm
      clear hdep ho hJ
      try simp only [fill, slotOf, List.size_toArray, List.length_cons, List.length_nil, Nat.reduceAdd, List.getElem?_toArray, List.getElem?_cons_zero, List.getElem?_cons_succ, Option.bind_some, Act.put, List.setIfInBounds_toArray, List.set_cons_zero, List.set_cons_succ] at hK ⊢
      go_simp
      exact hK (.int .i64 0) _ HJ.out rfl (fun j y h => h) _ rfl
    · obtain rfl := Option.some.inj ho.symm
      have d0 : V 0 = .int .i64 0 := hdep ⟨0, .data⟩ (by simp) rfl
      clear hdep ho hJ
      try simp only [fill, slotOf, List.size_toArray, List.length_cons, List.length_nil, Nat.reduceAdd, List.getElem?_toArray, List.getElem?_cons_zero, List.getElem?_cons_succ, Option.bind_some, Act.put, List.setIfInBounds_toArray, List.set_cons_zero, List.set_cons_succ] at hK ⊢
      rw [d0] at hK ⊢
      go_simp
      exact hK (.bool true) _ HJ.out rfl (fun j y h => h) _ rfl
    · obtain rfl := Option.some.inj ho.symm
      have d1 : V 1 = .bool true := hdep ⟨1, .data⟩ (by simp) rfl
      clear hdep ho hJ
      try simp only [fill, slotOf, List.size_toArray, List.length_cons, List.length_nil, Nat.reduceAdd, List.getElem?_toArray, List.getElem?_cons_zero, List.getElem?_cons_succ, Option.bind_some, Act.put, List.setIfInBounds_toArray, List.set_cons_zero, List.set_cons_succ] at hK ⊢
      rw [d1] at hK ⊢
      go_simp
      exact hK (.bool true) _ HJ.out rfl (fun j y h => h) _ rfl
    · obtain rfl := Option.some.inj ho.symm
      have d2 : V 2 = .bool true := hdep ⟨2, .guard⟩ (by simp) rfl
      have x0 : w9.cell? ⟨w6.heap.size, 0, none⟩ = some (.int .i64 (ns : Int)) := (hJ.cell (p := ⟨w6.heap.size, 0, none⟩) HLX.out).trans (cell_blk9 HXX.out rfl)
      have x1 : w9.cell? ⟨w6.heap.size, 1, none⟩ = some (.int .i64 (nd : Int)) := (hJ.cell (p := ⟨w6.heap.size, 1, none⟩) HLX.out).trans (cell_blk9 HXX.out rfl)
      have x2 : w9.cell? ⟨w6.heap.size, 2, none⟩ = some (.int .i64 (nh : Int)) := (hJ.cell (p := ⟨w6.heap.size, 2, none⟩) HLX.out).trans (cell_blk9 HXX.out rfl)
      have x3 : w9.cell? ⟨w6.heap.size, 3, none⟩ = some (.slice xa en xc) := (hJ.cell (p := ⟨w6.heap.size, 3, none⟩) HLX.out).trans (cell_blk9 HXX.out rfl)
      have x4 : w9.cell? ⟨w6.heap.size, 4, none⟩ = some (.slice ya mn yc) := (hJ.cell (p := ⟨w6.heap.size, 4, none⟩) HLX.out).trans (cell_blk9 HXX.out rfl)
      have x5 : w9.cell? ⟨w6.heap.size, 5, none⟩ = some (.slice za on zc) := (hJ.cell (p := ⟨w6.heap.size, 5, none⟩) HLX.out).trans (cell_blk9 HXX.out rfl)
      clear hdep ho hJ
      try simp only [fill, slotOf, List.size_toArray, List.length_cons, List.length_nil, Nat.reduceAdd, List.getElem?_toArray, List.getElem?_cons_zero, List.getElem?_cons_succ, Option.bind_some, Act.put, List.setIfInBounds_toArray, List.set_cons_zero, List.set_cons_succ] at hK ⊢
      rw [d2] at hK ⊢
      go_simp
      exact hK (.agg #[.int .i64 (ns : Int), .int .i64 (nd : Int), .int .i64 (nh : Int), .slice xa en xc, .slice ya mn yc, .slice za on zc]) _ HJ.out rfl (fun j y h => h) _ rfl
    · obtain rfl := Option.some.inj ho.symm
      have d2 : V 2 = .bool true := hdep ⟨2, .guard⟩ (by simp) rfl
      have m0 : w9.cell? ⟨w.heap.size, 0, none⟩ = some (.int .i64 (ns : Int)) := (hJ.cell (p := ⟨w.heap.size, 0, none⟩) HL0.out).trans (cell_blk9 G7.out rfl)
      have m1 : w9.cell? ⟨w.heap.size, 1, none⟩ = some (.int .i64 (nd : Int)) := (hJ.cell (p := ⟨w.heap.size, 1, none⟩) HL0.out).trans (cell_blk9 G7.out rfl)
      have m2 : w9.cell? ⟨w.heap.size, 2, none⟩ = some (.int .i64 (nh : Int)) := (hJ.cell (p := ⟨w.heap.size, 2, none⟩) HL0.out).trans (cell_blk9 G7.out rfl)
      have m3 : w9.cell? ⟨w.heap.size, 3, none⟩ = some (.slice ea en ec) := (hJ.cell (p := ⟨w.heap.size, 3, none⟩) HL0.out).trans (cell_blk9 G7.out rfl)
      have m4 : w9.cell? ⟨w.heap.size, 4, none⟩ = some (.slice ma mn mc) := (hJ.cell (p := ⟨w.heap.size, 4, none⟩) HL0.out).trans (cell_blk9 G7.out rfl)
      have m5 : w9.cell? ⟨w.heap.size, 5, none⟩ = some (.slice oa on oc) := (hJ.cell (p := ⟨w.heap.size, 5, none⟩) HL0.out).trans (cell_blk9 G7.out rfl)
      clear hdep ho hJ
      try simp only [fill, slotOf, List.size_toArray, List.length_cons, List.length_nil, Nat.reduceAdd, List.getElem?_toArray, List.getElem?_cons_zero, List.getElem?_cons_succ, Option.bind_some, Act.put, List.setIfInBounds_toArray, List.set_cons_zero, List.set_cons_succ] at hK ⊢
      rw [d2] at hK ⊢
      go_simp
      exact hK (.agg #[.int .i64 (ns : Int), .int .i64 (nd : Int), .int .i64 (nh : Int), .slice ea en ec, .slice ma mn mc, .slice oa on oc]) _ HJ.out rfl (fun j y h => h) _ rfl
    · obtain rfl := Option.some.inj ho.symm
      have d3 : V 3 = .agg #[.int .i64 (ns : Int), .int .i64 (nd : Int), .int .i64 (nh : Int), .slice xa en xc, .slice ya mn yc, .slice za on zc] := hdep ⟨3, .data⟩ (by simp) rfl
      have d4 : V 4 = .agg #[.int .i64 (ns : Int), .int .i64 (nd : Int), .int .i64 (nh : Int), .slice ea en ec, .slice ma mn mc, .slice oa on oc] := hdep ⟨4, .data⟩ (by simp) rfl
      have d2 : V 2 = .bool true := hdep ⟨2, .guard⟩ (by simp) rfl
      clear hdep ho hJ
      try simp only [fill, slotOf, List.size_toArray, List.length_cons, List.length_nil, Nat.reduceAdd, List.getElem?_toArray, List.getElem?_cons_zero, List.getElem?_cons_succ, Option.bind_some, Act.put, List.setIfInBounds_toArray, List.set_cons_zero, List.set_cons_succ] at hK ⊢
      rw [d3, d4, d2] at hK ⊢
      go_simp
      refine (HS1.out w9 HJ.out).mono ?_
      rintro e w8 ⟨rfl, hb8⟩
      exact hK (.bool true) _ (HJ.out.trans (hb8.mono HJ.out.size)) rfl (FV.mono ((fun _ _ _ => trivial) hb8)) _ rfl
    · obtain rfl := Option.some.inj ho.symm
      have d2 : V 2 = .bool true := hdep ⟨2, .data⟩ (by simp) rfl
      have d5 : V 5 = .bool true := hdep ⟨5, .data⟩ (by simp) rfl
      clear hdep ho hJ
      try simp only [fill, slotOf, List.size_toArray, List.length_cons, List.length_nil, Nat.reduceAdd, List.getElem?_toArray, List.getElem?_cons_zero, List.getElem?_cons_succ, Option.bind_some, Act.put, List.setIfInBounds_toArray, List.set_cons_zero, List.set_cons_succ] at hK ⊢
      rw [d2, d5] at hK ⊢
      go_simp
      exact hK (.bool true) _ HJ.out rfl (fun j y h => h) _ rfl
    · obtain rfl := Option.some.inj ho.symm
      have d6 : V 6 = .bool true := hdep ⟨6, .data⟩ (by simp) rfl
      clear hdep ho hJ
      try simp only [fill, slotOf, List.size_toArray, List.length_cons, List.length_nil, Nat.reduceAdd, List.getElem?_toArray, List.getElem?_cons_zero, List.getElem?_cons_succ, Option.bind_some, Act.put, List.setIfInBounds_toArray, List.set_cons_zero, List.set_cons_succ] at hK ⊢
      rw [d6] at hK ⊢
      go_simp
      exact hK (.bool true) _ HJ.out rfl (fun j y h => h) _ rfl
    · obtain rfl := Option.some.inj ho.symm
      have d7 : V 7 = .bool true := hdep ⟨7, .guard⟩ (by simp) rfl
      clear hdep ho hJ
      try simp only [fill, slotOf, List.size_toArray, List.length_cons, List.length_nil, Nat.reduceAdd, List.getElem?_toArray, List.getElem?_cons_zero, List.getElem?_cons_succ, Option.bind_some, Act.put, List.setIfInBounds_toArray, List.set_cons_zero, List.set_cons_succ] at hK ⊢
      rw [d7] at hK ⊢
      go_simp
      exact hK (.int .i64 0) _ HJ.out rfl (fun j y h => h) _ rfl
    · obtain rfl := Option.some.inj ho.symm
      have d8 : V 8 = .int .i64 0 := hdep ⟨8, .data⟩ (by simp) rfl
      have d7 : V 7 = .bool true := hdep ⟨7, .guard⟩ (by simp) rfl
      clear hdep ho hJ
      try simp only [fill, slotOf, List.size_toArray, List.length_cons, List.length_nil, Nat.reduceAdd, List.getElem?_toArray, List.getElem?_cons_zero, List.getElem?_cons_succ, Option.bind_some, Act.put, List.setIfInBounds_toArray, List.set_cons_zero, List.set_cons_succ] at hK ⊢
      rw [d8, d7] at hK ⊢
      go_simp
      exact hK (.bool false) _ HJ.out rfl (fun j y h => h) _ rfl
    · obtain rfl := Option.some.inj ho.symm
      have d9 : V 9 = .bool false := hdep ⟨9, .data⟩ (by simp) rfl
      have d7 : V 7 = .bool true := hdep ⟨7, .guard⟩ (by simp) rfl
      clear hdep ho hJ
      try simp only [fill, slotOf, List.size_toArray, List.length_cons, List.length_nil, Nat.reduceAdd, List.getElem?_toArray, List.getElem?_cons_zero, List.getElem?_cons_succ, Option.bind_some, Act.put, List.setIfInBounds_toArray, List.set_cons_zero, List.set_cons_succ] at hK ⊢
      rw [d9, d7] at hK ⊢
      go_simp
      exact hK (.bool false) _ HJ.out rfl (fun j y h => h) _ rfl
    · obtain rfl := Option.some.inj ho.symm
      have d10 : V 10 = .bool false := hdep ⟨10, .guard⟩ (by simp) rfl
      clear hdep ho hJ
      try simp only [fill, slotOf, List.size_toArray, List.length_cons, List.length_nil, Nat.reduceAdd, List.getElem?_toArray, List.getElem?_cons_zero, List.getElem?_cons_succ, Option.bind_some, Act.put, List.setIfInBounds_toArray, List.set_cons_zero, List.set_cons_succ] at hK ⊢
      rw [d10] at hK ⊢
      go_simp
      exact hK (.slice qa ((manC ns nd nh le lm lo).length + 4) qc) _ HJ.out rfl (fun j y h => h) _ rfl
    · obtain rfl := Option.some.inj ho.symm
      have d10 : V 10 = .bool false := hdep ⟨10, .guard⟩ (by simp) rfl
      clear hdep ho hJ
      try simp only [fill, slotOf, List.size_toArray, List.length_cons, List.length_nil, Nat.reduceAdd, List.getElem?_toArray, List.getElem?_cons_zero, List.getElem?_cons_succ, Option.bind_some, Act.put, List.setIfInBounds_toArray, List.set_cons_zero, List.set_cons_succ] at hK ⊢
      rw [d10] at hK ⊢
      go_simp
      exact hK (.slice ra ((manC ns2 nd2 nh2 le2 lm2 lo2).length + 4) rc) _ HJ.out rfl (fun j y h => h) _ rfl
    · obtain rfl := Option.some.inj ho.symm
      have d11 : V 11 = .slice qa ((manC ns nd nh le lm lo).length + 4) qc := hdep ⟨11, .data⟩ (by simp) rfl
      have d12 : V 12 = .slice ra ((manC ns2 nd2 nh2 le2 lm2 lo2).length + 4) rc := hdep ⟨12, .data⟩ (by simp) rfl
      have d10 : V 10 = .bool false := hdep ⟨10, .guard⟩ (by simp) rfl
      clear hdep ho hJ
      try simp only [fill, slotOf, List.size_toArray, List.length_cons, List.length_nil, Nat.reduceAdd, List.getElem?_toArray, List.getElem?_cons_zero, List.getElem?_cons_succ, Option.bind_some, Act.put, List.setIfInBounds_toArray, List.set_cons_zero, List.set_cons_succ] at hK ⊢
      rw [d11, d12, d10] at hK ⊢
      go_simp
      refine (HS2.out w9 HJ.out).mono ?_
      rintro e w8 ⟨rfl, hb8⟩
      exact hK (.bool sb) _ (HJ.out.trans (hb8.mono HJ.out.size)) rfl (FV.mono ((fun _ _ _ => trivial) hb8)) _ rfl
    · obtain rfl := Option.some.inj ho.symm
      have d10 : V 10 = .bool false := hdep ⟨10, .guard⟩ (by simp) rfl
      have m0 : w9.cell? ⟨w.heap.size, 0, none⟩ = some (.int .i64 (ns : Int)) := (hJ.cell (p := ⟨w.heap.size, 0, none⟩) HL0.out).trans (cell_blk9 G7.out rfl)
      have m1 : w9.cell? ⟨w.heap.size, 1, none⟩ = some (.int .i64 (nd : Int)) := (hJ.cell (p := ⟨w.heap.size, 1, none⟩) HL0.out).trans (cell_blk9 G7.out rfl)
      have m2 : w9.cell? ⟨w.heap.size, 2, none⟩ = some (.int .i64 (nh : Int)) := (hJ.cell (p := ⟨w.heap.size, 2, none⟩) HL0.out).trans (cell_blk9 G7.out rfl)
      have m3 : w9.cell? ⟨w.heap.size, 3, none⟩ = some (.slice ea en ec) := (hJ.cell (p := ⟨w.heap.size, 3, none⟩) HL0.out).trans (cell_blk9 G7.out rfl)
      have m4 : w9.cell? ⟨w.heap.size, 4, none⟩ = some (.slice ma mn mc) := (hJ.cell (p := ⟨w.heap.size, 4, none⟩) HL0.out).trans (cell_blk9 G7.out rfl)
      have m5 : w9.cell? ⟨w.heap.size, 5, none⟩ = some (.slice oa on oc) := (hJ.cell (p := ⟨w.heap.size, 5, none⟩) HL0.out).trans (cell_blk9 G7.out rfl)
      clear hdep ho hJ
      try simp only [fill, slotOf, List.size_toArray, List.length_cons, List.length_nil, Nat.reduceAdd, List.getElem?_toArray, List.getElem?_cons_zero, List.getElem?_cons_succ, Option.bind_some, Act.put, List.setIfInBounds_toArray, List.set_cons_zero, List.set_cons_succ] at hK ⊢
      rw [d10] at hK ⊢
      go_simp
      exact hK (.agg #[.int .i64 (ns : Int), .int .i64 (nd : Int), .int .i64 (nh : Int), .slice ea en ec, .slice ma mn mc, .slice oa on oc]) _ HJ.out rfl (fun j y h => h) _ rfl
    · obtain rfl := Option.some.inj ho.symm
      have d10 : V 10 = .bool false := hdep ⟨10, .guard⟩ (by simp) rfl
      have n0 : w9.cell? ⟨w.heap.size + 1, 0, none⟩ = some (.int .i64 (ns2 : Int)) := (hJ.cell (p := ⟨w.heap.size + 1, 0, none⟩) HL1.out).trans (cell_blk9 K7.out rfl)
      have n1 : w9.cell? ⟨w.heap.size + 1, 1, none⟩ = some (.int .i64 (nd2 : Int)) := (hJ.cell (p := ⟨w.heap.size + 1, 1, none⟩) HL1.out).trans (cell_blk9 K7.out rfl)
      have n2 : w9.cell? ⟨w.heap.size + 1, 2, none⟩ = some (.int .i64 (nh2 : Int)) := (hJ.cell (p := ⟨w.heap.size + 1, 2, none⟩) HL1.out).trans (cell_blk9 K7.out rfl)
      have n3 : w9.cell? ⟨w.heap.size + 1, 3, none⟩ = some (.slice ea2 en2 ec2) := (hJ.cell (p := ⟨w.heap.size + 1, 3, none⟩) HL1.out).trans (cell_blk9 K7.out rfl)
      have n4 : w9.cell? ⟨w.heap.size + 1, 4, none⟩ = some (.slice ma2 mn2 mc2) := (hJ.cell (p := ⟨w.heap.size + 1, 4, none⟩) HL1.out).trans (cell_blk9 K7.out rfl)
      have n5 : w9.cell? ⟨w.heap.size + 1, 5, none⟩ = some (.slice oa2 on2 oc2) := (hJ.cell (p := ⟨w.heap.size + 1, 5, none⟩) HL1.out).trans (cell_blk9 K7.out rfl)
      clear hdep ho hJ
      try simp only [fill, slotOf, List.size_toArray, List.length_cons, List.length_nil, Nat.reduceAdd, List.getElem?_toArray, List.getElem?_cons_zero, List.getElem?_cons_succ, Option.bind_some, Act.put, List.setIfInBounds_toArray, List.set_cons_zero, List.set_cons_succ] at hK ⊢
      rw [d10] at hK ⊢
      go_simp
      exact hK (.agg #[.int .i64 (ns2 : Int), .int .i64 (nd2 : Int), .int .i64 (nh2 : Int), .slice ea2 en2 ec2, .slice ma2 mn2 mc2, .slice oa2 on2 oc2]) _ HJ.out rfl (fun j y h => h) _ rfl
    · obtain rfl := Option.some.inj ho.symm
      have d14 : V 14 = .agg #[.int .i64 (ns : Int), .int .i64 (nd : Int), .int .i64 (nh : Int), .slice ea en ec, .slice ma mn mc, .slice oa on oc] := hdep ⟨14, .data⟩ (by simp) rfl
      have d15 : V 15 = .agg #[.int .i64 (ns2 : Int), .int .i64 (nd2 : Int), .int .i64 (nh2 : Int), .slice ea2 en2 ec2, .slice ma2 mn2 mc2, .slice oa2 on2 oc2] := hdep ⟨15, .data⟩ (by simp) rfl
      have d10 : V 10 = .bool false := hdep ⟨10, .guard⟩ (by simp) rfl
      clear hdep ho hJ
      try simp only [fill, slotOf, List.size_toArray, List.length_cons, List.length_nil, Nat.reduceAdd, List.getElem?_toArray, List.getElem?_cons_zero, List.getElem?_cons_succ, Option.bind_some, Act.put, List.setIfInBounds_toArray, List.set_cons_zero, List.set_cons_succ] at hK ⊢
      rw [d14, d15, d10] at hK ⊢
      go_simp
      refine (HS3.out w9 HJ.out).mono ?_
      rintro e w8 ⟨rfl, hb8⟩
      exact hK (.bool sb) _ (HJ.out.trans (hb8.mono HJ.out.size)) rfl (FV.mono ((fun _ _ _ => trivial) hb8)) _ rfl
    · obtain rfl := Option.some.inj ho.symm
      have d13 : V 13 = .bool sb := hdep ⟨13, .data⟩ (by simp) rfl
      have d16 : V 16 = .bool sb := hdep ⟨16, .data⟩ (by simp) rfl
      have d10 : V 10 = .bool false := hdep ⟨10, .guard⟩ (by simp) rfl
      clear hdep ho hJ
      try simp only [fill, slotOf, List.size_toArray, List.length_cons, List.length_nil, Nat.reduceAdd, List.getElem?_toArray, List.getElem?_cons_zero, List.getElem?_cons_succ, Option.bind_some, Act.put, List.setIfInBounds_toArray, List.set_cons_zero, List.set_cons_succ] at hK ⊢
      rw [d13, d16, d10] at hK ⊢
      go_simp
      refine hK (.bool true) _ HJ.out rfl (fun j y h => h) _ ?_
      first | rfl | simp
    · obtain rfl := Option.some.inj ho.symm
      have d10 : V 10 = .bool false := hdep ⟨10, .data⟩ (by simp) rfl
      have d17 : V 17 = .bool true := hdep ⟨17, .data⟩ (by simp) rfl
      have d7 : V 7 = .bool true := hdep ⟨7, .guard⟩ (by simp) rfl
      clear hdep ho hJ
      try simp only [fill, slotOf, List.size_toArray, List.length_cons, List.length_nil, Nat.reduceAdd, List.getElem?_toArray, List.getElem?_cons_zero, List.getElem?_cons_succ, Option.bind_some, Act.put, List.setIfInBounds_toArray, List.set_cons_zero, List.set_cons_succ] at hK ⊢
      rw [d10, d17, d7] at hK ⊢
      go_simp
      exact hK (.bool true) _ HJ.out rfl (fun j y h => h) _ rfl
    · obtain rfl := Option.some.inj ho.symm
      have d7 : V 7 = .bool true := hdep ⟨7, .data⟩ (by simp) rfl
      have d18 : V 18 = .bool true := hdep ⟨18, .data⟩ (by simp) rfl
      clear hdep ho hJ
      try simp only [fill, slotOf, List.size_toArray, List.length_cons, List.length_nil, Nat.reduceAdd, List.getElem?_toArray, List.getElem?_cons_zero, List.getElem?_cons_succ, Option.bind_some, Act.put, List.setIfInBounds_toArray, List.set_cons_zero, List.set_cons_succ] at hK ⊢
      rw [d7, d18] at hK ⊢
      go_simp
      exact hK (.bool true) _ HJ.out rfl (fun j y h => h) _ rfl
    · obtain rfl := Option.some.inj ho.symm
      have d19 : V 19 = .bool true := hdep ⟨19, .data⟩ (by simp) rfl
      clear hdep ho hJ
      try simp only [fill, slotOf, List.size_toArray, List.length_cons, List.length_nil, Nat.reduceAdd, List.getElem?_toArray, List.getElem?_cons_zero, List.getElem?_cons_succ, Option.bind_some, Act.put, List.setIfInBounds_toArray, List.set_cons_zero, List.set_cons_succ] at hK ⊢
      rw [d19] at hK ⊢
      go_simp
      exact hK (.bool true) _ HJ.out rfl (fun j y h => h) _ rfl
  · intro V w9 hJ hall
    have dL : V 20 = .bool true := hall 20 (by decide)
    have HJ9 := Lib.hid hJ
    clear hall hJ
    simp only [fill, slotOf, List.size_toArray, List.length_cons, List.length_nil, Nat.reduceAdd, List.getElem?_toArray, List.getElem?_cons_zero, List.getElem?_cons_succ, Option.bind_some, Act.put, List.setIfInBounds_toArray, List.set_cons_zero, List.set_cons_succ]
    rw [dL]
    clear dL
    have HBZ := Lib.hid (B7.out.trans (HJ9.out.mono B7.out.size))
    go_wp2_with fail
    go_ret
    exact ⟨rfl, HBZ.out⟩

set_option maxRecDepth 100000 in
set_option maxHeartbeats 8000000 in
theorem back_yn {w : World} (hT : Table w) {mx : Int} (hmx : MaxAt mx w) {ns nd nh : Nat} {s2 d2 hz2 : Int} {ea ma oa ea2 ma2 oa2 : Option Addr} {en ec mn mc on oc en2 ec2 mn2 mc2 on2 oc2 : Nat} {le le2 : List EntV} {lm lm2 : List (Int × Int)} {lo lo2 : List (Int × Int × Int)} (hE : VecAt EntS w ea en ec le) (hM : VecAt MarkS w ma mn mc lm) (hO : VecAt OwnS w oa on oc lo) (hE2 : VecAt EntS w ea2 en2 ec2 le2) (hM2 : VecAt MarkS w ma2 mn2 mc2 lm2) (hO2 : VecAt OwnS w oa2 on2 oc2 lo2) (hman : IsMan pfS ns nd nh en le mn lm on lo) (hman2 : ¬ IsMan pfS s2 d2 hz2 en2 le2 mn2 lm2 on2 lo2) :
    Calls Tryz.prog 5 #[.agg #[.int .i64 (ns : Int), .int .i64 (nd : Int), .int .i64 (nh : Int), .slice ea en ec, .slice ma mn mc, .slice oa on oc], .agg #[.int .i64 s2, .int .i64 d2, .int .i64 hz2, .slice ea2 en2 ec2, .slice ma2 mn2 mc2, .slice oa2 on2 oc2]] w fun e w' => e = .returned (.bool true) ∧ Below w.heap.size w w' := by
  obtain ⟨wa, hwa⟩ : ∃ wa, wa = w.alloc (.cells #[.int .i64 (ns : Int), .int .i64 (nd : Int), .int .i64 (nh : Int), .slice ea en ec, .slice ma mn mc, .slice oa on oc] 26) := ⟨_, rfl⟩
  have ba : Below w.heap.size w wa := by rw [hwa]; exact (Below.refl _ _).alloc (Nat.le_refl _) _
  have ga : wa.heap[w.heap.size]? = some (.cells #[.int .i64 (ns : Int), .int .i64 (nd : Int), .int .i64 (nh : Int), .slice ea en ec, .slice ma mn mc, .slice oa on oc] 26 (0, 0)) := by rw [hwa]; exact heap_alloc_new _ _
  have sa : wa.heap.size = w.heap.size + 1 := by rw [hwa]; exact Array.size_push _
  obtain ⟨wx, hwx⟩ : ∃ wx, wx = wa.alloc (.cells #[.int .i64 s2, .int .i64 d2, .int .i64 hz2, .slice ea2 en2 ec2, .slice ma2 mn2 mc2, .slice oa2 on2 oc2] 26) := ⟨_, rfl⟩
  have bx : Below wa.heap.size wa wx := by rw [hwx]; exact (Below.refl _ _).alloc (Nat.le_refl _) _
  have gx : wx.heap[w.heap.size + 1]? = some (.cells #[.int .i64 s2, .int .i64 d2, .int .i64 hz2, .slice ea2 en2 ec2, .slice ma2 mn2 mc2, .slice oa2 on2 oc2] 26 (0, 0)) := by rw [hwx, ← sa]; exact heap_alloc_new _ _
  have ga2 : wx.heap[w.heap.size]? = some (.cells #[.int .i64 (ns : Int), .int .i64 (nd : Int), .int .i64 (nh : Int), .slice ea en ec, .slice ma mn mc, .slice oa on oc] 26 (0, 0)) := (bx.block w.heap.size (by omega)).trans ga
  have HT := Lib.hid hT
  have HX := Lib.hid hmx
  have HE := Lib.hid hE
  have HM := Lib.hid hM
  have HO := Lib.hid hO
  have HE2 := Lib.hid hE2
  have HM2 := Lib.hid hM2
  have HO2 := Lib.hid hO2
  have HMAN := Lib.hid hman
  have HMAN2 := Lib.hid hman2
  have B0 := Lib.hid (ba.trans (bx.mono ba.size))
  have G0 := Lib.hid ga2
  have K0 := Lib.hid gx
  have HWX := Lib.hid (show wx = (w.alloc (.cells #[.int .i64 (ns : Int), .int .i64 (nd : Int), .int .i64 (nh : Int), .slice ea en ec, .slice ma mn mc, .slice oa on oc] 26)).alloc (.cells #[.int .i64 s2, .int .i64 d2, .int .i64 hz2, .slice ea2 en2 ec2, .slice ma2 mn2 mc2, .slice oa2 on2 oc2] 26) from by rw [hwx, hwa])
  have HLV := Lib.hid (fun W : World => lives_true W)
  clear hwa ba ga sa hwx bx gx ga2 hT hmx hE hM hO hE2 hM2 hO2 hman hman2
  go_enter Tryz.func5, Tryz.ntmps5
  go_wp2_with fail
  rw [← HWX.out]
  refine (HLV.out _).mono ?_
  rintro e w1 ⟨rfl, hb⟩
  have B1 := Lib.hid (B0.out.trans (hb.mono B0.out.size))
  have G1 := Lib.hid ((hb.block w.heap.size (Array.getElem?_eq_some_iff.1 G0.out).1).trans G0.out)
  have K1 := Lib.hid ((hb.block (w.heap.size + 1) (Array.getElem?_eq_some_iff.1 K0.out).1).trans K0.out)
  have HF1 := Lib.hid (few_says (w := w1) (s := ns) (d := nd) (hz := nh) (ma := ma) (mn := mn) (mc := mc) (oa := oa) (on := on) (oc := oc) (HE.out.kept B1.out))
  have a0 : w1.cell? ⟨w.heap.size, 0, none⟩ = some (.int .i64 (ns : Int)) := cell_blk9 G1.out rfl
  have a1 : w1.cell? ⟨w.heap.size, 1, none⟩ = some (.int .i64 (nd : Int)) := cell_blk9 G1.out rfl
  have a2 : w1.cell? ⟨w.heap.size, 2, none⟩ = some (.int .i64 (nh : Int)) := cell_blk9 G1.out rfl
  have a3 : w1.cell? ⟨w.heap.size, 3, none⟩ = some (.slice ea en ec) := cell_blk9 G1.out rfl
  have a4 : w1.cell? ⟨w.heap.size, 4, none⟩ = some (.slice ma mn mc) := cell_blk9 G1.out rfl
  have a5 : w1.cell? ⟨w.heap.size, 5, none⟩ = some (.slice oa on oc) := cell_blk9 G1.out rfl
  clear hb
  go_wp2_with fail
  refine HF1.out.mono ?_
  rintro e w2 ⟨⟨b2, rfl, hfew⟩, hb⟩
  have B2 := Lib.hid (B1.out.trans (hb.mono B1.out.size))
  have G2 := Lib.hid ((hb.block w.heap.size (Array.getElem?_eq_some_iff.1 G1.out).1).trans G1.out)
  have K2 := Lib.hid ((hb.block (w.heap.size + 1) (Array.getElem?_eq_some_iff.1 K1.out).1).trans K1.out)
  have HFW := Lib.hid hfew
  clear hb hfew a0 a1 a2 a3 a4 a5
  cases b2 with
  | false =>
    go_wp2_with fail
    refine (HLV.out _).mono ?_
    rintro e w3 ⟨rfl, hb3⟩
    have B3 := Lib.hid (B2.out.trans (hb3.mono B2.out.size))
    clear hb3
    go_wp2_with fail
    go_ret
    exact ⟨rfl, B3.out⟩
  | true =>
  have HF2 := Lib.hid (few_says (w := w2) (s := s2) (d := d2) (hz := hz2) (ma := ma2) (mn := mn2) (mc := mc2) (oa := oa2) (on := on2) (oc := oc2) (HE2.out.kept B2.out))
  have p0 : w2.cell? ⟨w.heap.size + 1, 0, none⟩ = some (.int .i64 s2) := cell_blk9 K2.out rfl
  have p1 : w2.cell? ⟨w.heap.size + 1, 1, none⟩ = some (.int .i64 d2) := cell_blk9 K2.out rfl
  have p2 : w2.cell? ⟨w.heap.size + 1, 2, none⟩ = some (.int .i64 hz2) := cell_blk9 K2.out rfl
  have p3 : w2.cell? ⟨w.heap.size + 1, 3, none⟩ = some (.slice ea2 en2 ec2) := cell_blk9 K2.out rfl
  have p4 : w2.cell? ⟨w.heap.size + 1, 4, none⟩ = some (.slice ma2 mn2 mc2) := cell_blk9 K2.out rfl
  have p5 : w2.cell? ⟨w.heap.size + 1, 5, none⟩ = some (.slice oa2 on2 oc2) := cell_blk9 K2.out rfl
  go_wp2_with fail
  refine HF2.out.mono ?_
  rintro e w3 ⟨⟨b3, rfl, hfew⟩, hb⟩
  have B3 := Lib.hid (B2.out.trans (hb.mono B2.out.size))
  have G3 := Lib.hid ((hb.block w.heap.size (Array.getElem?_eq_some_iff.1 G2.out).1).trans G2.out)
  have K3 := Lib.hid ((hb.block (w.heap.size + 1) (Array.getElem?_eq_some_iff.1 K2.out).1).trans K2.out)
  have HFW2 := Lib.hid hfew
  clear hb hfew p0 p1 p2 p3 p4 p5
  cases b3 with
  | false =>
    go_wp2_with fail
    refine (HLV.out _).mono ?_
    rintro e w4 ⟨rfl, hb4⟩
    have B4 := Lib.hid (B3.out.trans (hb4.mono B3.out.size))
    clear hb4
    go_wp2_with fail
    go_ret
    exact ⟨rfl, B4.out⟩
  | true =>
  obtain ⟨f1, f2, f3, f4⟩ := HFW.out (by first | rfl | trivial)
  obtain ⟨f5, f6, f7, f8⟩ := HFW2.out (by first | rfl | trivial)
  have HSZ := Lib.hid (FewIs.all HE.out f4)
  have HSZ2 := Lib.hid (FewIs.all HE2.out f8)
  have HK := Lib.hid (show ∀ x ∈ le, x.key.size ≤ 100 ∧ x.part.size ≤ 1300 from fun x hx => ⟨(HSZ.out x hx).1, by have := (HSZ.out x hx).2; omega⟩)
  have HK2 := Lib.hid (show ∀ x ∈ le2, x.key.size ≤ 100 ∧ x.part.size ≤ 1300 from fun x hx => ⟨(HSZ2.out x hx).1, by have := (HSZ2.out x hx).2; omega⟩)
  clear f4 f8
  have HEN := Lib.hid (mencode_nat (w := w3) (HT.out.below B3.out) pfS (HE.out.kept B3.out) (HM.out.kept B3.out) (HO.out.kept B3.out) (par_any (HX.out.below B3.out) (fun x hx => (HK.out x hx).2)) HMAN.out HK.out f2 f3)
  have c0 : w3.cell? ⟨w.heap.size, 0, none⟩ = some (.int .i64 (ns : Int)) := cell_blk9 G3.out rfl
  have c1 : w3.cell? ⟨w.heap.size, 1, none⟩ = some (.int .i64 (nd : Int)) := cell_blk9 G3.out rfl
  have c2 : w3.cell? ⟨w.heap.size, 2, none⟩ = some (.int .i64 (nh : Int)) := cell_blk9 G3.out rfl
  have c3 : w3.cell? ⟨w.heap.size, 3, none⟩ = some (.slice ea en ec) := cell_blk9 G3.out rfl
  have c4 : w3.cell? ⟨w.heap.size, 4, none⟩ = some (.slice ma mn mc) := cell_blk9 G3.out rfl
  have c5 : w3.cell? ⟨w.heap.size, 5, none⟩ = some (.slice oa on oc) := cell_blk9 G3.out rfl
  go_wp2_with fail
  refine HEN.out.mono ?_
  rintro e w4 ⟨⟨qa, qc, rfl, hby⟩, hb⟩
  have B4 := Lib.hid (B3.out.trans (hb.mono B3.out.size))
  have G4 := Lib.hid ((hb.block w.heap.size (Array.getElem?_eq_some_iff.1 G3.out).1).trans G3.out)
  have K4 := Lib.hid ((hb.block (w.heap.size + 1) (Array.getElem?_eq_some_iff.1 K3.out).1).trans K3.out)
  have HY4 := Lib.hid hby
  clear hby
  have HEN2 := Lib.hid (mencode_no (w := w4) pfS (HE2.out.kept B4.out) (HM2.out.kept B4.out) (HO2.out.kept B4.out) (par_any (HX.out.below B4.out) (fun x hx => (HK2.out x hx).2)) HMAN2.out)
  have g0 : w4.cell? ⟨w.heap.size + 1, 0, none⟩ = some (.int .i64 s2) := cell_blk9 K4.out rfl
  have g1 : w4.cell? ⟨w.heap.size + 1, 1, none⟩ = some (.int .i64 d2) := cell_blk9 K4.out rfl
  have g2 : w4.cell? ⟨w.heap.size + 1, 2, none⟩ = some (.int .i64 hz2) := cell_blk9 K4.out rfl
  have g3 : w4.cell? ⟨w.heap.size + 1, 3, none⟩ = some (.slice ea2 en2 ec2) := cell_blk9 K4.out rfl
  have g4 : w4.cell? ⟨w.heap.size + 1, 4, none⟩ = some (.slice ma2 mn2 mc2) := cell_blk9 K4.out rfl
  have g5 : w4.cell? ⟨w.heap.size + 1, 5, none⟩ = some (.slice oa2 on2 oc2) := cell_blk9 K4.out rfl
  clear hb c0 c1 c2 c3 c4 c5
  go_wp2_with fail
  refine HEN2.out.mono ?_
  rintro e w5 ⟨rfl, hb⟩
  have B5 := Lib.hid (B4.out.trans (hb.mono B4.out.size))
  have G5 := Lib.hid ((hb.block w.heap.size (Array.getElem?_eq_some_iff.1 G4.out).1).trans G4.out)
  have K5 := Lib.hid ((hb.block (w.heap.size + 1) (Array.getElem?_eq_some_iff.1 K4.out).1).trans K4.out)
  have HY5 := Lib.hid (HY4.out.kept hb)
  clear hb g0 g1 g2 g3 g4 g5
  obtain ⟨hI, hNE, hNM, hNO⟩ := man_nat HMAN.out HE.out.len HM.out.len HO.out.len HK.out (fun x hx => (HE.out.all x hx).2.2)
  have hcl := manC_len hI hNE hNM hNO (by rw [HE.out.len]; omega) (by rw [HM.out.len]; exact f2) (by rw [HO.out.len]; exact f3)
  have HRD := Lib.hid (man_read (mw := 1099511627776) (mr := 2048) (mz := 262144) (k1 := 64) (k2 := 8) HMAN.out HE.out.len HM.out.len HO.out.len (fun x hx => (HE.out.all x hx).2.2) (by decide) (by decide) (by decide) (by decide) (by decide))
  have HDE := mdecode_any (w := w5) (HT.out.below B5.out) (HX.out.below B5.out) HY5.out (by omega)
  rw [op_sealed] at HDE
  simp only at HDE
  rw [HRD.out] at HDE
  have HOK := Lib.hid (show OkM (manC ns nd nh le lm lo) ⟨[77, 65, 78, 73, 1], ns, nd, nh, en, le, mn, lm, on, lo, ((manC ns nd nh le lm lo).length, 0)⟩ from ⟨by unfold hdB; rw [bs_toList]; rfl, by unfold cend; simp, HMAN.out⟩)
  have HDEC := Lib.hid HDE
  clear hI hNE hNM hNO hcl HDE
  go_wp2_with fail
  refine HDEC.out.mono ?_
  rintro e w6 ⟨hdec, hb⟩
  have B6 := Lib.hid (B5.out.trans (hb.mono B5.out.size))
  have G6 := Lib.hid ((hb.block w.heap.size (Array.getElem?_eq_some_iff.1 G5.out).1).trans G5.out)
  have K6 := Lib.hid ((hb.block (w.heap.size + 1) (Array.getElem?_eq_some_iff.1 K5.out).1).trans K5.out)
  have HY6 := Lib.hid (HY5.out.kept hb)
  clear hb
  rcases hdec with ⟨h, _⟩ | ⟨_, h, _⟩ | ⟨_, _, xa, xc, ya, yc, za, zc, rfl, hv1, hv2, hv3⟩
  · exact absurd rfl h
  · exact absurd HOK.out h
  simp only at hv1 hv2 hv3
  obtain ⟨w7, hw7⟩ : ∃ w7, w7 = w6.alloc (.cells #[.int .i64 (ns : Int), .int .i64 (nd : Int), .int .i64 (nh : Int), .slice xa en xc, .slice ya mn yc, .slice za on zc] 26) := ⟨_, rfl⟩
  have b7 : Below w6.heap.size w6 w7 := by rw [hw7]; exact (Below.refl _ _).alloc (Nat.le_refl _) _
  have HXX := Lib.hid (show w7.heap[w6.heap.size]? = some (.cells #[.int .i64 (ns : Int), .int .i64 (nd : Int), .int .i64 (nh : Int), .slice xa en xc, .slice ya mn yc, .slice za on zc] 26 (0, 0)) from by rw [hw7]; exact heap_alloc_new _ _)
  have B7 := Lib.hid (B6.out.trans (b7.mono B6.out.size))
  have G7 := Lib.hid ((b7.block w.heap.size (Array.getElem?_eq_some_iff.1 G6.out).1).trans G6.out)
  have K7 := Lib.hid ((b7.block (w.heap.size + 1) (Array.getElem?_eq_some_iff.1 K6.out).1).trans K6.out)
  have V1 := Lib.hid (hv1.kept b7)
  have V2 := Lib.hid (hv2.kept b7)
  have V3 := Lib.hid (hv3.kept b7)
  have HY7 := Lib.hid (HY6.out.kept b7)
  have HLX := Lib.hid (Array.getElem?_eq_some_iff.1 HXX.out).1
  have HL0 := Lib.hid (Array.getElem?_eq_some_iff.1 G7.out).1
  have HL1 := Lib.hid (Array.getElem?_eq_some_iff.1 K7.out).1
  have HW7 := Lib.hid hw7
  have HS1 := Lib.hid (show ∀ W, Below w7.heap.size w7 W → Calls Tryz.prog 12 #[.agg #[.int .i64 (ns : Int), .int .i64 (nd : Int), .int .i64 (nh : Int), .slice xa en xc, .slice ya mn yc, .slice za on zc], .agg #[.int .i64 (ns : Int), .int .i64 (nd : Int), .int .i64 (nh : Int), .slice ea en ec, .slice ma mn mc, .slice oa on oc]] W fun e w' => e = .returned (.bool true) ∧ Below W.heap.size W w' from fun W hb => by
    refine (rsame13_any (s := ns) (s2 := ns) (d := nd) (d2 := nd) (hz := nh) (hz2 := nh) (V1.out.kept hb) (V2.out.kept hb) (V3.out.kept hb) (HE.out.kept (B7.out.trans (hb.mono B7.out.size))) (HM.out.kept (B7.out.trans (hb.mono B7.out.size))) (HO.out.kept (B7.out.trans (hb.mono B7.out.size)))).mono ?_
    rintro e w' ⟨⟨b, rfl, h⟩, h2⟩
    obtain rfl : b = true := h.2 ⟨rfl, rfl, rfl, rfl, rfl, rfl⟩
    exact ⟨rfl, h2⟩)
  clear hv1 hv2 hv3 hw7 b7
  go_wp2_with fail
  rw [← HW7.out]
  refine wp_region_fill (by kernel_rfl) (by kernel_rfl) (by kernel_rfl) (Below w7.heap.size w7) (FV (fun j_9 => match j_9 with | 0 => some (.int .i64 0) | 1 => some (.bool true) | 2 => some (.bool true) | 3 => some (.agg #[.int .i64 (ns : Int), .int .i64 (nd : Int), .int .i64 (nh : Int), .slice xa en xc, .slice ya mn yc, .slice za on zc]) | 4 => some (.agg #[.int .i64 (ns : Int), .int .i64 (nd : Int), .int .i64 (nh : Int), .slice ea en ec, .slice ma mn mc, .slice oa on oc]) | 5 => some (.bool true) | 6 => some (.bool true) | 7 => some (.bool true) | 8 => some (.int .i64 4) | 9 => some (.bool true) | 10 => some (.bool true) | 11 => some (undef) | 12 => some (undef) | 13 => some (undef) | 14 => some (undef) | 15 => some (undef) | 16 => some (undef) | 17 => some (undef) | 18 => some (.bool true) | 19 => some (.bool true) | 20 => some (.bool true) | _ => none) (fun _ _ => True)) (Below.refl _ _).drew ?_ ?_
  · intro i9 o ho V w9 K hJ hdep hK
    have HJ := Lib.hid hJ
    simp only [fill, slotOf, List.size_toArray, List.length_cons, List.length_nil, Nat.reduceAdd, List.getElem?_toArray, List.getElem?_cons_zero, List.getElem?_cons_succ, Option.bind_some, Act.put, List.setIfInBounds_toArray, List.set_cons_zero, List.set_cons_succ] at hK ⊢
    have hin : i9 < 21 := (Array.getElem?_eq_some_iff.1 ho).1
    have hcs : i9 = 0 ∨ i9 = 1 ∨ i9 = 2 ∨ i9 = 3 ∨ i9 = 4 ∨ i9 = 5 ∨ i9 = 6 ∨ i9 = 7 ∨ i9 = 8 ∨ i9 = 9 ∨ i9 = 10 ∨ i9 = 11 ∨ i9 = 12 ∨ i9 = 13 ∨ i9 = 14 ∨ i9 = 15 ∨ i9 = 16 ∨ i9 = 17 ∨ i9 = 18 ∨ i9 = 19 ∨ i9 = 20 := by omega
    clear hin
    rcases hcs with rfl | rfl | rfl | rfl | rfl | rfl | rfl | rfl | rfl | rfl | rfl | rfl | rfl | rfl | rfl | rfl | rfl | rfl | rfl | rfl | rfl
    · obtain rfl := Option.some.inj ho.symm
      clear hdep ho hJ
      try simp only [fill, slotOf, List.size_toArray, List.length_cons, List.length_nil, Nat.reduceAdd, List.getElem?_toArray, List.getElem?_cons_zero, List.getElem?_cons_succ, Option.bind_some, Act.put, List.setIfInBounds_toArray, List.set_cons_zero, List.set_cons_succ] at hK ⊢
      go_simp
      exact hK (.int .i64 0) _ HJ.out rfl (fun j y h => h) _ rfl
    · obtain rfl := Option.some.inj ho.symm
      have d0 : V 0 = .int .i64 0 := hdep ⟨0, .data⟩ (by simp) rfl
      clear hdep ho hJ
      try simp only [fill, slotOf, List.size_toArray, List.length_cons, List.length_nil, Nat.reduceAdd, List.getElem?_toArray, List.getElem?_cons_zero, List.getElem?_cons_succ, Option.bind_some, Act.put, List.setIfInBounds_toArray, List.set_cons_zero, List.set_cons_succ] at hK ⊢
      rw [d0] at hK ⊢
      go_simp
      exact hK (.bool true) _ HJ.out rfl (fun j y h => h) _ rfl
    · obtain rfl := Option.some.inj ho.symm
      have d1 : V 1 = .bool true := hdep ⟨1, .data⟩ (by simp) rfl
      clear hdep ho hJ
      try simp only [fill, slotOf, List.size_toArray, List.length_cons, List.length_nil, Nat.reduceAdd, List.getElem?_toArray, List.getElem?_cons_zero, List.getElem?_cons_succ, Option.bind_some, Act.put, List.setIfInBounds_toArray, List.set_cons_zero, List.set_cons_succ] at hK ⊢
      rw [d1] at hK ⊢
      go_simp
      exact hK (.bool true) _ HJ.out rfl (fun j y h => h) _ rfl
    · obtain rfl := Option.some.inj ho.symm
      have d2 : V 2 = .bool true := hdep ⟨2, .guard⟩ (by simp) rfl
      have x0 : w9.cell? ⟨w6.heap.size, 0, none⟩ = some (.int .i64 (ns : Int)) := (hJ.cell (p := ⟨w6.heap.size, 0, none⟩) HLX.out).trans (cell_blk9 HXX.out rfl)
      have x1 : w9.cell? ⟨w6.heap.size, 1, none⟩ = some (.int .i64 (nd : Int)) := (hJ.cell (p := ⟨w6.heap.size, 1, none⟩) HLX.out).trans (cell_blk9 HXX.out rfl)
      have x2 : w9.cell? ⟨w6.heap.size, 2, none⟩ = some (.int .i64 (nh : Int)) := (hJ.cell (p := ⟨w6.heap.size, 2, none⟩) HLX.out).trans (cell_blk9 HXX.out rfl)
      have x3 : w9.cell? ⟨w6.heap.size, 3, none⟩ = some (.slice xa en xc) := (hJ.cell (p := ⟨w6.heap.size, 3, none⟩) HLX.out).trans (cell_blk9 HXX.out rfl)
      have x4 : w9.cell? ⟨w6.heap.size, 4, none⟩ = some (.slice ya mn yc) := (hJ.cell (p := ⟨w6.heap.size, 4, none⟩) HLX.out).trans (cell_blk9 HXX.out rfl)
      have x5 : w9.cell? ⟨w6.heap.size, 5, none⟩ = some (.slice za on zc) := (hJ.cell (p := ⟨w6.heap.size, 5, none⟩) HLX.out).trans (cell_blk9 HXX.out rfl)
      clear hdep ho hJ
      try simp only [fill, slotOf, List.size_toArray, List.length_cons, List.length_nil, Nat.reduceAdd, List.getElem?_toArray, List.getElem?_cons_zero, List.getElem?_cons_succ, Option.bind_some, Act.put, List.setIfInBounds_toArray, List.set_cons_zero, List.set_cons_succ] at hK ⊢
      rw [d2] at hK ⊢
      go_simp
      exact hK (.agg #[.int .i64 (ns : Int), .int .i64 (nd : Int), .int .i64 (nh : Int), .slice xa en xc, .slice ya mn yc, .slice za on zc]) _ HJ.out rfl (fun j y h => h) _ rfl
    · obtain rfl := Option.some.inj ho.symm
      have d2 : V 2 = .bool true := hdep ⟨2, .guard⟩ (by simp) rfl
      have m0 : w9.cell? ⟨w.heap.size, 0, none⟩ = some (.int .i64 (ns : Int)) := (hJ.cell (p := ⟨w.heap.size, 0, none⟩) HL0.out).trans (cell_blk9 G7.out rfl)
      have m1 : w9.cell? ⟨w.heap.size, 1, none⟩ = some (.int .i64 (nd : Int)) := (hJ.cell (p := ⟨w.heap.size, 1, none⟩) HL0.out).trans (cell_blk9 G7.out rfl)
      have m2 : w9.cell? ⟨w.heap.size, 2, none⟩ = some (.int .i64 (nh : Int)) := (hJ.cell (p := ⟨w.heap.size, 2, none⟩) HL0.out).trans (cell_blk9 G7.out rfl)
      have m3 : w9.cell? ⟨w.heap.size, 3, none⟩ = some (.slice ea en ec) := (hJ.cell (p := ⟨w.heap.size, 3, none⟩) HL0.out).trans (cell_blk9 G7.out rfl)
      have m4 : w9.cell? ⟨w.heap.size, 4, none⟩ = some (.slice ma mn mc) := (hJ.cell (p := ⟨w.heap.size, 4, none⟩) HL0.out).trans (cell_blk9 G7.out rfl)
      have m5 : w9.cell? ⟨w.heap.size, 5, none⟩ = some (.slice oa on oc) := (hJ.cell (p := ⟨w.heap.size, 5, none⟩) HL0.out).trans (cell_blk9 G7.out rfl)
      clear hdep ho hJ
      try simp only [fill, slotOf, List.size_toArray, List.length_cons, List.length_nil, Nat.reduceAdd, List.getElem?_toArray, List.getElem?_cons_zero, List.getElem?_cons_succ, Option.bind_some, Act.put, List.setIfInBounds_toArray, List.set_cons_zero, List.set_cons_succ] at hK ⊢
      rw [d2] at hK ⊢
      go_simp
      exact hK (.agg #[.int .i64 (ns : Int), .int .i64 (nd : Int), .int .i64 (nh : Int), .slice ea en ec, .slice ma mn mc, .slice oa on oc]) _ HJ.out rfl (fun j y h => h) _ rfl
    · obtain rfl := Option.some.inj ho.symm
      have d3 : V 3 = .agg #[.int .i64 (ns : Int), .int .i64 (nd : Int), .int .i64 (nh : Int), .slice xa en xc, .slice ya mn yc, .slice za on zc] := hdep ⟨3, .data⟩ (by simp) rfl
      have d4 : V 4 = .agg #[.int .i64 (ns : Int), .int .i64 (nd : Int), .int .i64 (nh : Int), .slice ea en ec, .slice ma mn mc, .slice oa on oc] := hdep ⟨4, .data⟩ (by simp) rfl
      have d2 : V 2 = .bool true := hdep ⟨2, .guard⟩ (by simp) rfl
      clear hdep ho hJ
      try simp only [fill, slotOf, List.size_toArray, List.length_cons, List.length_nil, Nat.reduceAdd, List.getElem?_toArray, List.getElem?_cons_zero, List.getElem?_cons_succ, Option.bind_some, Act.put, List.setIfInBounds_toArray, List.set_cons_zero, List.set_cons_succ] at hK ⊢
      rw [d3, d4, d2] at hK ⊢
      go_simp
      refine (HS1.out w9 HJ.out).mono ?_
      rintro e w8 ⟨rfl, hb8⟩
      exact hK (.bool true) _ (HJ.out.trans (hb8.mono HJ.out.size)) rfl (FV.mono ((fun _ _ _ => trivial) hb8)) _ rfl
    · obtain rfl := Option.some.inj ho.symm
      have d2 : V 2 = .bool true := hdep ⟨2, .data⟩ (by simp) rfl
      have d5 : V 5 = .bool true := hdep ⟨5, .data⟩ (by simp) rfl
      clear hdep ho hJ
      try simp only [fill, slotOf, List.size_toArray, List.length_cons, List.length_nil, Nat.reduceAdd, List.getElem?_toArray, List.getElem?_cons_zero, List.getElem?_cons_succ, Option.bind_some, Act.put, List.setIfInBounds_toArray, List.set_cons_zero, List.set_cons_succ] at hK ⊢
      rw [d2, d5] at hK ⊢
      go_simp
      exact hK (.bool true) _ HJ.out rfl (fun j y h => h) _ rfl
    · obtain rfl := Option.some.inj ho.symm
      have d6 : V 6 = .bool true := hdep ⟨6, .data⟩ (by simp) rfl
      clear hdep ho hJ
      try simp only [fill, slotOf, List.size_toArray, List.length_cons, List.length_nil, Nat.reduceAdd, List.getElem?_toArray, List.getElem?_cons_zero, List.getElem?_cons_succ, Option.bind_some, Act.put, List.setIfInBounds_toArray, List.set_cons_zero, List.set_cons_succ] at hK ⊢
      rw [d6] at hK ⊢
      go_simp
      exact hK (.bool true) _ HJ.out rfl (fun j y h => h) _ rfl
    · obtain rfl := Option.some.inj ho.symm
      have d7 : V 7 = .bool true := hdep ⟨7, .guard⟩ (by simp) rfl
      clear hdep ho hJ
      try simp only [fill, slotOf, List.size_toArray, List.length_cons, List.length_nil, Nat.reduceAdd, List.getElem?_toArray, List.getElem?_cons_zero, List.getElem?_cons_succ, Option.bind_some, Act.put, List.setIfInBounds_toArray, List.set_cons_zero, List.set_cons_succ] at hK ⊢
      rw [d7] at hK ⊢
      go_simp
      exact hK (.int .i64 4) _ HJ.out rfl (fun j y h => h) _ rfl
    · obtain rfl := Option.some.inj ho.symm
      have d8 : V 8 = .int .i64 4 := hdep ⟨8, .data⟩ (by simp) rfl
      have d7 : V 7 = .bool true := hdep ⟨7, .guard⟩ (by simp) rfl
      clear hdep ho hJ
      try simp only [fill, slotOf, List.size_toArray, List.length_cons, List.length_nil, Nat.reduceAdd, List.getElem?_toArray, List.getElem?_cons_zero, List.getElem?_cons_succ, Option.bind_some, Act.put, List.setIfInBounds_toArray, List.set_cons_zero, List.set_cons_succ] at hK ⊢
      rw [d8, d7] at hK ⊢
      go_simp
      exact hK (.bool true) _ HJ.out rfl (fun j y h => h) _ rfl
    · obtain rfl := Option.some.inj ho.symm
      have d9 : V 9 = .bool true := hdep ⟨9, .data⟩ (by simp) rfl
      have d7 : V 7 = .bool true := hdep ⟨7, .guard⟩ (by simp) rfl
      clear hdep ho hJ
      try simp only [fill, slotOf, List.size_toArray, List.length_cons, List.length_nil, Nat.reduceAdd, List.getElem?_toArray, List.getElem?_cons_zero, List.getElem?_cons_succ, Option.bind_some, Act.put, List.setIfInBounds_toArray, List.set_cons_zero, List.set_cons_succ] at hK ⊢
      rw [d9, d7] at hK ⊢
      go_simp
      exact hK (.bool true) _ HJ.out rfl (fun j y h => h) _ rfl
    · obtain rfl := Option.some.inj ho.symm
      have d10 : V 10 = .bool true := hdep ⟨10, .guard⟩ (by simp) rfl
      clear hdep ho hJ
      try simp only [fill, slotOf, List.size_toArray, List.length_cons, List.length_nil, Nat.reduceAdd, List.getElem?_toArray, List.getElem?_cons_zero, List.getElem?_cons_succ, Option.bind_some, Act.put, List.setIfInBounds_toArray, List.set_cons_zero, List.set_cons_succ] at hK ⊢
      rw [d10] at hK ⊢
      go_simp
      exact hK (undef) _ HJ.out rfl (fun j y h => h) _ rfl
    · obtain rfl := Option.some.inj ho.symm
      have d10 : V 10 = .bool true := hdep ⟨10, .guard⟩ (by simp) rfl
      clear hdep ho hJ
      try simp only [fill, slotOf, List.size_toArray, List.length_cons, List.length_nil, Nat.reduceAdd, List.getElem?_toArray, List.getElem?_cons_zero, List.getElem?_cons_succ, Option.bind_some, Act.put, List.setIfInBounds_toArray, List.set_cons_zero, List.set_cons_succ] at hK ⊢
      rw [d10] at hK ⊢
      go_simp
      exact hK (undef) _ HJ.out rfl (fun j y h => h) _ rfl
    · obtain rfl := Option.some.inj ho.symm
      have d10 : V 10 = .bool true := hdep ⟨10, .guard⟩ (by simp) rfl
      clear hdep ho hJ
      try simp only [fill, slotOf, List.size_toArray, List.length_cons, List.length_nil, Nat.reduceAdd, List.getElem?_toArray, List.getElem?_cons_zero, List.getElem?_cons_succ, Option.bind_some, Act.put, List.setIfInBounds_toArray, List.set_cons_zero, List.set_cons_succ] at hK ⊢
      rw [d10] at hK ⊢
      go_simp
      exact hK (undef) _ HJ.out rfl (fun j y h => h) _ rfl
    · obtain rfl := Option.some.inj ho.symm
      have d10 : V 10 = .bool true := hdep ⟨10, .guard⟩ (by simp) rfl
      clear hdep ho hJ
      try simp only [fill, slotOf, List.size_toArray, List.length_cons, List.length_nil, Nat.reduceAdd, List.getElem?_toArray, List.getElem?_cons_zero, List.getElem?_cons_succ, Option.bind_some, Act.put, List.setIfInBounds_toArray, List.set_cons_zero, List.set_cons_succ] at hK ⊢
      rw [d10] at hK ⊢
      go_simp
      exact hK (undef) _ HJ.out rfl (fun j y h => h) _ rfl
    · obtain rfl := Option.some.inj ho.symm
      have d10 : V 10 = .bool true := hdep ⟨10, .guard⟩ (by simp) rfl
      clear hdep ho hJ
      try simp only [fill, slotOf, List.size_toArray, List.length_cons, List.length_nil, Nat.reduceAdd, List.getElem?_toArray, List.getElem?_cons_zero, List.getElem?_cons_succ, Option.bind_some, Act.put, List.setIfInBounds_toArray, List.set_cons_zero, List.set_cons_succ] at hK ⊢
      rw [d10] at hK ⊢
      go_simp
      exact hK (undef) _ HJ.out rfl (fun j y h => h) _ rfl
    · obtain rfl := Option.some.inj ho.symm
      have d10 : V 10 = .bool true := hdep ⟨10, .guard⟩ (by simp) rfl
      clear hdep ho hJ
      try simp only [fill, slotOf, List.size_toArray, List.length_cons, List.length_nil, Nat.reduceAdd, List.getElem?_toArray, List.getElem?_cons_zero, List.getElem?_cons_succ, Option.bind_some, Act.put, List.setIfInBounds_toArray, List.set_cons_zero, List.set_cons_succ] at hK ⊢
      rw [d10] at hK ⊢
      go_simp
      exact hK (undef) _ HJ.out rfl (fun j y h => h) _ rfl
    · obtain rfl := Option.some.inj ho.symm
      have d10 : V 10 = .bool true := hdep ⟨10, .guard⟩ (by simp) rfl
      clear hdep ho hJ
      try simp only [fill, slotOf, List.size_toArray, List.length_cons, List.length_nil, Nat.reduceAdd, List.getElem?_toArray, List.getElem?_cons_zero, List.getElem?_cons_succ, Option.bind_some, Act.put, List.setIfInBounds_toArray, List.set_cons_zero, List.set_cons_succ] at hK ⊢
      rw [d10] at hK ⊢
      go_simp
      exact hK (undef) _ HJ.out rfl (fun j y h => h) _ rfl
    · obtain rfl := Option.some.inj ho.symm
      have d10 : V 10 = .bool true := hdep ⟨10, .data⟩ (by simp) rfl
      have d7 : V 7 = .bool true := hdep ⟨7, .guard⟩ (by simp) rfl
      clear hdep ho hJ
      try simp only [fill, slotOf, List.size_toArray, List.length_cons, List.length_nil, Nat.reduceAdd, List.getElem?_toArray, List.getElem?_cons_zero, List.getElem?_cons_succ, Option.bind_some, Act.put, List.setIfInBounds_toArray, List.set_cons_zero, List.set_cons_succ] at hK ⊢
      rw [d10, d7] at hK ⊢
      go_simp
      exact hK (.bool true) _ HJ.out rfl (fun j y h => h) _ rfl
    · obtain rfl := Option.some.inj ho.symm
      have d7 : V 7 = .bool true := hdep ⟨7, .data⟩ (by simp) rfl
      have d18 : V 18 = .bool true := hdep ⟨18, .data⟩ (by simp) rfl
      clear hdep ho hJ
      try simp only [fill, slotOf, List.size_toArray, List.length_cons, List.length_nil, Nat.reduceAdd, List.getElem?_toArray, List.getElem?_cons_zero, List.getElem?_cons_succ, Option.bind_some, Act.put, List.setIfInBounds_toArray, List.set_cons_zero, List.set_cons_succ] at hK ⊢
      rw [d7, d18] at hK ⊢
      go_simp
      exact hK (.bool true) _ HJ.out rfl (fun j y h => h) _ rfl
    · obtain rfl := Option.some.inj ho.symm
      have d19 : V 19 = .bool true := hdep ⟨19, .data⟩ (by simp) rfl
      clear hdep ho hJ
      try simp only [fill, slotOf, List.size_toArray, List.length_cons, List.length_nil, Nat.reduceAdd, List.getElem?_toArray, List.getElem?_cons_zero, List.getElem?_cons_succ, Option.bind_some, Act.put, List.setIfInBounds_toArray, List.set_cons_zero, List.set_cons_succ] at hK ⊢
      rw [d19] at hK ⊢
      go_simp
      exact hK (.bool true) _ HJ.out rfl (fun j y h => h) _ rfl
  · intro V w9 hJ hall
    have dL : V 20 = .bool true := hall 20 (by decide)
    have HJ9 := Lib.hid hJ
    clear hall hJ
    simp only [fill, slotOf, List.size_toArray, List.length_cons, List.length_nil, Nat.reduceAdd, List.getElem?_toArray, List.getElem?_cons_zero, List.getElem?_cons_succ, Option.bind_some, Act.put, List.setIfInBounds_toArray, List.set_cons_zero, List.set_cons_succ]
    rw [dL]
    clear dL
    have HBZ := Lib.hid (B7.out.trans (HJ9.out.mono B7.out.size))
    go_wp2_with fail
    go_ret
    exact ⟨rfl, HBZ.out⟩

set_option maxRecDepth 100000 in
set_option maxHeartbeats 8000000 in
theorem back_ny {w : World} (hT : Table w) {mx : Int} (hmx : MaxAt mx w) {s d hz : Int} {ns2 nd2 nh2 : Nat} {ea ma oa ea2 ma2 oa2 : Option Addr} {en ec mn mc on oc en2 ec2 mn2 mc2 on2 oc2 : Nat} {le le2 : List EntV} {lm lm2 : List (Int × Int)} {lo lo2 : List (Int × Int × Int)} (hE : VecAt EntS w ea en ec le) (hM : VecAt MarkS w ma mn mc lm) (hO : VecAt OwnS w oa on oc lo) (hE2 : VecAt EntS w ea2 en2 ec2 le2) (hM2 : VecAt MarkS w ma2 mn2 mc2 lm2) (hO2 : VecAt OwnS w oa2 on2 oc2 lo2) (hman : ¬ IsMan pfS s d hz en le mn lm on lo) (hman2 : IsMan pfS ns2 nd2 nh2 en2 le2 mn2 lm2 on2 lo2) :
    Calls Tryz.prog 5 #[.agg #[.int .i64 s, .int .i64 d, .int .i64 hz, .slice ea en ec, .slice ma mn mc, .slice oa on oc], .agg #[.int .i64 (ns2 : Int), .int .i64 (nd2 : Int), .int .i64 (nh2 : Int), .slice ea2 en2 ec2, .slice ma2 mn2 mc2, .slice oa2 on2 oc2]] w fun e w' => e = .returned (.bool true) ∧ Below w.heap.size w w' := by
  obtain ⟨wa, hwa⟩ : ∃ wa, wa = w.alloc (.cells #[.int .i64 s, .int .i64 d, .int .i64 hz, .slice ea en ec, .slice ma mn mc, .slice oa on oc] 26) := ⟨_, rfl⟩
  have ba : Below w.heap.size w wa := by rw [hwa]; exact (Below.refl _ _).alloc (Nat.le_refl _) _
  have ga : wa.heap[w.heap.size]? = some (.cells #[.int .i64 s, .int .i64 d, .int .i64 hz, .slice ea en ec, .slice ma mn mc, .slice oa on oc] 26 (0, 0)) := by rw [hwa]; exact heap_alloc_new _ _
  have sa : wa.heap.size = w.heap.size + 1 := by rw [hwa]; exact Array.size_push _
  obtain ⟨wx, hwx⟩ : ∃ wx, wx = wa.alloc (.cells #[.int .i64 (ns2 : Int), .int .i64 (nd2 : Int), .int .i64 (nh2 : Int), .slice ea2 en2 ec2, .slice ma2 mn2 mc2, .slice oa2 on2 oc2] 26) := ⟨_, rfl⟩
  have bx : Below wa.heap.size wa wx := by rw [hwx]; exact (Below.refl _ _).alloc (Nat.le_refl _) _
  have gx : wx.heap[w.heap.size + 1]? = some (.cells #[.int .i64 (ns2 : Int), .int .i64 (nd2 : Int), .int .i64 (nh2 : Int), .slice ea2 en2 ec2, .slice ma2 mn2 mc2, .slice oa2 on2 oc2] 26 (0, 0)) := by rw [hwx, ← sa]; exact heap_alloc_new _ _
  have ga2 : wx.heap[w.heap.size]? = some (.cells #[.int .i64 s, .int .i64 d, .int .i64 hz, .slice ea en ec, .slice ma mn mc, .slice oa on oc] 26 (0, 0)) := (bx.block w.heap.size (by omega)).trans ga
  have HT := Lib.hid hT
  have HX := Lib.hid hmx
  have HE := Lib.hid hE
  have HM := Lib.hid hM
  have HO := Lib.hid hO
  have HE2 := Lib.hid hE2
  have HM2 := Lib.hid hM2
  have HO2 := Lib.hid hO2
  have HMAN := Lib.hid hman
  have HMAN2 := Lib.hid hman2
  have B0 := Lib.hid (ba.trans (bx.mono ba.size))
  have G0 := Lib.hid ga2
  have K0 := Lib.hid gx
  have HWX := Lib.hid (show wx = (w.alloc (.cells #[.int .i64 s, .int .i64 d, .int .i64 hz, .slice ea en ec, .slice ma mn mc, .slice oa on oc] 26)).alloc (.cells #[.int .i64 (ns2 : Int), .int .i64 (nd2 : Int), .int .i64 (nh2 : Int), .slice ea2 en2 ec2, .slice ma2 mn2 mc2, .slice oa2 on2 oc2] 26) from by rw [hwx, hwa])
  have HLV := Lib.hid (fun W : World => lives_true W)
  clear hwa ba ga sa hwx bx gx ga2 hT hmx hE hM hO hE2 hM2 hO2 hman hman2
  go_enter Tryz.func5, Tryz.ntmps5
  go_wp2_with fail
  rw [← HWX.out]
  refine (HLV.out _).mono ?_
  rintro e w1 ⟨rfl, hb⟩
  have B1 := Lib.hid (B0.out.trans (hb.mono B0.out.size))
  have G1 := Lib.hid ((hb.block w.heap.size (Array.getElem?_eq_some_iff.1 G0.out).1).trans G0.out)
  have K1 := Lib.hid ((hb.block (w.heap.size + 1) (Array.getElem?_eq_some_iff.1 K0.out).1).trans K0.out)
  have HF1 := Lib.hid (few_says (w := w1) (s := s) (d := d) (hz := hz) (ma := ma) (mn := mn) (mc := mc) (oa := oa) (on := on) (oc := oc) (HE.out.kept B1.out))
  have a0 : w1.cell? ⟨w.heap.size, 0, none⟩ = some (.int .i64 s) := cell_blk9 G1.out rfl
  have a1 : w1.cell? ⟨w.heap.size, 1, none⟩ = some (.int .i64 d) := cell_blk9 G1.out rfl
  have a2 : w1.cell? ⟨w.heap.size, 2, none⟩ = some (.int .i64 hz) := cell_blk9 G1.out rfl
  have a3 : w1.cell? ⟨w.heap.size, 3, none⟩ = some (.slice ea en ec) := cell_blk9 G1.out rfl
  have a4 : w1.cell? ⟨w.heap.size, 4, none⟩ = some (.slice ma mn mc) := cell_blk9 G1.out rfl
  have a5 : w1.cell? ⟨w.heap.size, 5, none⟩ = some (.slice oa on oc) := cell_blk9 G1.out rfl
  clear hb
  go_wp2_with fail
  refine HF1.out.mono ?_
  rintro e w2 ⟨⟨b2, rfl, hfew⟩, hb⟩
  have B2 := Lib.hid (B1.out.trans (hb.mono B1.out.size))
  have G2 := Lib.hid ((hb.block w.heap.size (Array.getElem?_eq_some_iff.1 G1.out).1).trans G1.out)
  have K2 := Lib.hid ((hb.block (w.heap.size + 1) (Array.getElem?_eq_some_iff.1 K1.out).1).trans K1.out)
  have HFW := Lib.hid hfew
  clear hb hfew a0 a1 a2 a3 a4 a5
  cases b2 with
  | false =>
    go_wp2_with fail
    refine (HLV.out _).mono ?_
    rintro e w3 ⟨rfl, hb3⟩
    have B3 := Lib.hid (B2.out.trans (hb3.mono B2.out.size))
    clear hb3
    go_wp2_with fail
    go_ret
    exact ⟨rfl, B3.out⟩
  | true =>
  have HF2 := Lib.hid (few_says (w := w2) (s := ns2) (d := nd2) (hz := nh2) (ma := ma2) (mn := mn2) (mc := mc2) (oa := oa2) (on := on2) (oc := oc2) (HE2.out.kept B2.out))
  have p0 : w2.cell? ⟨w.heap.size + 1, 0, none⟩ = some (.int .i64 (ns2 : Int)) := cell_blk9 K2.out rfl
  have p1 : w2.cell? ⟨w.heap.size + 1, 1, none⟩ = some (.int .i64 (nd2 : Int)) := cell_blk9 K2.out rfl
  have p2 : w2.cell? ⟨w.heap.size + 1, 2, none⟩ = some (.int .i64 (nh2 : Int)) := cell_blk9 K2.out rfl
  have p3 : w2.cell? ⟨w.heap.size + 1, 3, none⟩ = some (.slice ea2 en2 ec2) := cell_blk9 K2.out rfl
  have p4 : w2.cell? ⟨w.heap.size + 1, 4, none⟩ = some (.slice ma2 mn2 mc2) := cell_blk9 K2.out rfl
  have p5 : w2.cell? ⟨w.heap.size + 1, 5, none⟩ = some (.slice oa2 on2 oc2) := cell_blk9 K2.out rfl
  go_wp2_with fail
  refine HF2.out.mono ?_
  rintro e w3 ⟨⟨b3, rfl, hfew⟩, hb⟩
  have B3 := Lib.hid (B2.out.trans (hb.mono B2.out.size))
  have G3 := Lib.hid ((hb.block w.heap.size (Array.getElem?_eq_some_iff.1 G2.out).1).trans G2.out)
  have K3 := Lib.hid ((hb.block (w.heap.size + 1) (Array.getElem?_eq_some_iff.1 K2.out).1).trans K2.out)
  have HFW2 := Lib.hid hfew
  clear hb hfew p0 p1 p2 p3 p4 p5
  cases b3 with
  | false =>
    go_wp2_with fail
    refine (HLV.out _).mono ?_
    rintro e w4 ⟨rfl, hb4⟩
    have B4 := Lib.hid (B3.out.trans (hb4.mono B3.out.size))
    clear hb4
    go_wp2_with fail
    go_ret
    exact ⟨rfl, B4.out⟩
  | true =>
  obtain ⟨f1, f2, f3, f4⟩ := HFW.out (by first | rfl | trivial)
  obtain ⟨f5, f6, f7, f8⟩ := HFW2.out (by first | rfl | trivial)
  have HSZ := Lib.hid (FewIs.all HE.out f4)
  have HSZ2 := Lib.hid (FewIs.all HE2.out f8)
  have HK := Lib.hid (show ∀ x ∈ le, x.key.size ≤ 100 ∧ x.part.size ≤ 1300 from fun x hx => ⟨(HSZ.out x hx).1, by have := (HSZ.out x hx).2; omega⟩)
  have HK2 := Lib.hid (show ∀ x ∈ le2, x.key.size ≤ 100 ∧ x.part.size ≤ 1300 from fun x hx => ⟨(HSZ2.out x hx).1, by have := (HSZ2.out x hx).2; omega⟩)
  clear f4 f8
  have HEN := Lib.hid (mencode_no (w := w3) pfS (HE.out.kept B3.out) (HM.out.kept B3.out) (HO.out.kept B3.out) (par_any (HX.out.below B3.out) (fun x hx => (HK.out x hx).2)) HMAN.out)
  have c0 : w3.cell? ⟨w.heap.size, 0, none⟩ = some (.int .i64 s) := cell_blk9 G3.out rfl
  have c1 : w3.cell? ⟨w.heap.size, 1, none⟩ = some (.int .i64 d) := cell_blk9 G3.out rfl
  have c2 : w3.cell? ⟨w.heap.size, 2, none⟩ = some (.int .i64 hz) := cell_blk9 G3.out rfl
  have c3 : w3.cell? ⟨w.heap.size, 3, none⟩ = some (.slice ea en ec) := cell_blk9 G3.out rfl
  have c4 : w3.cell? ⟨w.heap.size, 4, none⟩ = some (.slice ma mn mc) := cell_blk9 G3.out rfl
  have c5 : w3.cell? ⟨w.heap.size, 5, none⟩ = some (.slice oa on oc) := cell_blk9 G3.out rfl
  go_wp2_with fail
  refine HEN.out.mono ?_
  rintro e w4 ⟨rfl, hb⟩
  have B4 := Lib.hid (B3.out.trans (hb.mono B3.out.size))
  have G4 := Lib.hid ((hb.block w.heap.size (Array.getElem?_eq_some_iff.1 G3.out).1).trans G3.out)
  have K4 := Lib.hid ((hb.block (w.heap.size + 1) (Array.getElem?_eq_some_iff.1 K3.out).1).trans K3.out)
  have HEN2 := Lib.hid (mencode_nat (w := w4) (HT.out.below B4.out) pfS (HE2.out.kept B4.out) (HM2.out.kept B4.out) (HO2.out.kept B4.out) (par_any (HX.out.below B4.out) (fun x hx => (HK2.out x hx).2)) HMAN2.out HK2.out f6 f7)
  have g0 : w4.cell? ⟨w.heap.size + 1, 0, none⟩ = some (.int .i64 (ns2 : Int)) := cell_blk9 K4.out rfl
  have g1 : w4.cell? ⟨w.heap.size + 1, 1, none⟩ = some (.int .i64 (nd2 : Int)) := cell_blk9 K4.out rfl
  have g2 : w4.cell? ⟨w.heap.size + 1, 2, none⟩ = some (.int .i64 (nh2 : Int)) := cell_blk9 K4.out rfl
  have g3 : w4.cell? ⟨w.heap.size + 1, 3, none⟩ = some (.slice ea2 en2 ec2) := cell_blk9 K4.out rfl
  have g4 : w4.cell? ⟨w.heap.size + 1, 4, none⟩ = some (.slice ma2 mn2 mc2) := cell_blk9 K4.out rfl
  have g5 : w4.cell? ⟨w.heap.size + 1, 5, none⟩ = some (.slice oa2 on2 oc2) := cell_blk9 K4.out rfl
  clear hb c0 c1 c2 c3 c4 c5
  go_wp2_with fail
  refine HEN2.out.mono ?_
  rintro e w5 ⟨⟨ra, rc, rfl, hbz⟩, hb⟩
  have B5 := Lib.hid (B4.out.trans (hb.mono B4.out.size))
  have G5 := Lib.hid ((hb.block w.heap.size (Array.getElem?_eq_some_iff.1 G4.out).1).trans G4.out)
  have K5 := Lib.hid ((hb.block (w.heap.size + 1) (Array.getElem?_eq_some_iff.1 K4.out).1).trans K4.out)
  have HZ5 := Lib.hid hbz
  clear hbz
  clear hb g0 g1 g2 g3 g4 g5
  have HRR := Lib.hid (mright_any (w := w5) pfS (s := s) (d := d) (hz := hz) (HE.out.kept B5.out) (HM.out.kept B5.out) (HO.out.kept B5.out) (par_any (HX.out.below B5.out) (fun x hx => (HK.out x hx).2)))
  have e0 : w5.cell? ⟨w.heap.size, 0, none⟩ = some (.int .i64 s) := cell_blk9 G5.out rfl
  have e1 : w5.cell? ⟨w.heap.size, 1, none⟩ = some (.int .i64 d) := cell_blk9 G5.out rfl
  have e2 : w5.cell? ⟨w.heap.size, 2, none⟩ = some (.int .i64 hz) := cell_blk9 G5.out rfl
  have e3 : w5.cell? ⟨w.heap.size, 3, none⟩ = some (.slice ea en ec) := cell_blk9 G5.out rfl
  have e4 : w5.cell? ⟨w.heap.size, 4, none⟩ = some (.slice ma mn mc) := cell_blk9 G5.out rfl
  have e5 : w5.cell? ⟨w.heap.size, 5, none⟩ = some (.slice oa on oc) := cell_blk9 G5.out rfl
  go_wp2_with fail
  refine HRR.out.mono ?_
  rintro e w6 ⟨⟨b6, rfl, hb6⟩, hbl6⟩
  obtain rfl : b6 = false := by
    cases b6 with
    | false => rfl
    | true => exact absurd (hb6.1 rfl) HMAN.out
  have B6 := Lib.hid (B5.out.trans (hbl6.mono B5.out.size))
  clear hb6 hbl6
  go_wp2_with fail
  go_ret
  exact ⟨rfl, B6.out⟩

set_option maxRecDepth 100000 in
set_option maxHeartbeats 8000000 in
theorem back_nn {w : World} (hT : Table w) {mx : Int} (hmx : MaxAt mx w) {s d hz : Int} {s2 d2 hz2 : Int} {ea ma oa ea2 ma2 oa2 : Option Addr} {en ec mn mc on oc en2 ec2 mn2 mc2 on2 oc2 : Nat} {le le2 : List EntV} {lm lm2 : List (Int × Int)} {lo lo2 : List (Int × Int × Int)} (hE : VecAt EntS w ea en ec le) (hM : VecAt MarkS w ma mn mc lm) (hO : VecAt OwnS w oa on oc lo) (hE2 : VecAt EntS w ea2 en2 ec2 le2) (hM2 : VecAt MarkS w ma2 mn2 mc2 lm2) (hO2 : VecAt OwnS w oa2 on2 oc2 lo2) (hman : ¬ IsMan pfS s d hz en le mn lm on lo) (hman2 : ¬ IsMan pfS s2 d2 hz2 en2 le2 mn2 lm2 on2 lo2) :
    Calls Tryz.prog 5 #[.agg #[.int .i64 s, .int .i64 d, .int .i64 hz, .slice ea en ec, .slice ma mn mc, .slice oa on oc], .agg #[.int .i64 s2, .int .i64 d2, .int .i64 hz2, .slice ea2 en2 ec2, .slice ma2 mn2 mc2, .slice oa2 on2 oc2]] w fun e w' => e = .returned (.bool true) ∧ Below w.heap.size w w' := by
  obtain ⟨wa, hwa⟩ : ∃ wa, wa = w.alloc (.cells #[.int .i64 s, .int .i64 d, .int .i64 hz, .slice ea en ec, .slice ma mn mc, .slice oa on oc] 26) := ⟨_, rfl⟩
  have ba : Below w.heap.size w wa := by rw [hwa]; exact (Below.refl _ _).alloc (Nat.le_refl _) _
  have ga : wa.heap[w.heap.size]? = some (.cells #[.int .i64 s, .int .i64 d, .int .i64 hz, .slice ea en ec, .slice ma mn mc, .slice oa on oc] 26 (0, 0)) := by rw [hwa]; exact heap_alloc_new _ _
  have sa : wa.heap.size = w.heap.size + 1 := by rw [hwa]; exact Array.size_push _
  obtain ⟨wx, hwx⟩ : ∃ wx, wx = wa.alloc (.cells #[.int .i64 s2, .int .i64 d2, .int .i64 hz2, .slice ea2 en2 ec2, .slice ma2 mn2 mc2, .slice oa2 on2 oc2] 26) := ⟨_, rfl⟩
  have bx : Below wa.heap.size wa wx := by rw [hwx]; exact (Below.refl _ _).alloc (Nat.le_refl _) _
  have gx : wx.heap[w.heap.size + 1]? = some (.cells #[.int .i64 s2, .int .i64 d2, .int .i64 hz2, .slice ea2 en2 ec2, .slice ma2 mn2 mc2, .slice oa2 on2 oc2] 26 (0, 0)) := by rw [hwx, ← sa]; exact heap_alloc_new _ _
  have ga2 : wx.heap[w.heap.size]? = some (.cells #[.int .i64 s, .int .i64 d, .int .i64 hz, .slice ea en ec, .slice ma mn mc, .slice oa on oc] 26 (0, 0)) := (bx.block w.heap.size (by omega)).trans ga
  have HT := Lib.hid hT
  have HX := Lib.hid hmx
  have HE := Lib.hid hE
  have HM := Lib.hid hM
  have HO := Lib.hid hO
  have HE2 := Lib.hid hE2
  have HM2 := Lib.hid hM2
  have HO2 := Lib.hid hO2
  have HMAN := Lib.hid hman
  have HMAN2 := Lib.hid hman2
  have B0 := Lib.hid (ba.trans (bx.mono ba.size))
  have G0 := Lib.hid ga2
  have K0 := Lib.hid gx
  have HWX := Lib.hid (show wx = (w.alloc (.cells #[.int .i64 s, .int .i64 d, .int .i64 hz, .slice ea en ec, .slice ma mn mc, .slice oa on oc] 26)).alloc (.cells #[.int .i64 s2, .int .i64 d2, .int .i64 hz2, .slice ea2 en2 ec2, .slice ma2 mn2 mc2, .slice oa2 on2 oc2] 26) from by rw [hwx, hwa])
  have HLV := Lib.hid (fun W : World => lives_true W)
  clear hwa ba ga sa hwx bx gx ga2 hT hmx hE hM hO hE2 hM2 hO2 hman hman2
  go_enter Tryz.func5, Tryz.ntmps5
  go_wp2_with fail
  rw [← HWX.out]
  refine (HLV.out _).mono ?_
  rintro e w1 ⟨rfl, hb⟩
  have B1 := Lib.hid (B0.out.trans (hb.mono B0.out.size))
  have G1 := Lib.hid ((hb.block w.heap.size (Array.getElem?_eq_some_iff.1 G0.out).1).trans G0.out)
  have K1 := Lib.hid ((hb.block (w.heap.size + 1) (Array.getElem?_eq_some_iff.1 K0.out).1).trans K0.out)
  have HF1 := Lib.hid (few_says (w := w1) (s := s) (d := d) (hz := hz) (ma := ma) (mn := mn) (mc := mc) (oa := oa) (on := on) (oc := oc) (HE.out.kept B1.out))
  have a0 : w1.cell? ⟨w.heap.size, 0, none⟩ = some (.int .i64 s) := cell_blk9 G1.out rfl
  have a1 : w1.cell? ⟨w.heap.size, 1, none⟩ = some (.int .i64 d) := cell_blk9 G1.out rfl
  have a2 : w1.cell? ⟨w.heap.size, 2, none⟩ = some (.int .i64 hz) := cell_blk9 G1.out rfl
  have a3 : w1.cell? ⟨w.heap.size, 3, none⟩ = some (.slice ea en ec) := cell_blk9 G1.out rfl
  have a4 : w1.cell? ⟨w.heap.size, 4, none⟩ = some (.slice ma mn mc) := cell_blk9 G1.out rfl
  have a5 : w1.cell? ⟨w.heap.size, 5, none⟩ = some (.slice oa on oc) := cell_blk9 G1.out rfl
  clear hb
  go_wp2_with fail
  refine HF1.out.mono ?_
  rintro e w2 ⟨⟨b2, rfl, hfew⟩, hb⟩
  have B2 := Lib.hid (B1.out.trans (hb.mono B1.out.size))
  have G2 := Lib.hid ((hb.block w.heap.size (Array.getElem?_eq_some_iff.1 G1.out).1).trans G1.out)
  have K2 := Lib.hid ((hb.block (w.heap.size + 1) (Array.getElem?_eq_some_iff.1 K1.out).1).trans K1.out)
  have HFW := Lib.hid hfew
  clear hb hfew a0 a1 a2 a3 a4 a5
  cases b2 with
  | false =>
    go_wp2_with fail
    refine (HLV.out _).mono ?_
    rintro e w3 ⟨rfl, hb3⟩
    have B3 := Lib.hid (B2.out.trans (hb3.mono B2.out.size))
    clear hb3
    go_wp2_with fail
    go_ret
    exact ⟨rfl, B3.out⟩
  | true =>
  have HF2 := Lib.hid (few_says (w := w2) (s := s2) (d := d2) (hz := hz2) (ma := ma2) (mn := mn2) (mc := mc2) (oa := oa2) (on := on2) (oc := oc2) (HE2.out.kept B2.out))
  have p0 : w2.cell? ⟨w.heap.size + 1, 0, none⟩ = some (.int .i64 s2) := cell_blk9 K2.out rfl
  have p1 : w2.cell? ⟨w.heap.size + 1, 1, none⟩ = some (.int .i64 d2) := cell_blk9 K2.out rfl
  have p2 : w2.cell? ⟨w.heap.size + 1, 2, none⟩ = some (.int .i64 hz2) := cell_blk9 K2.out rfl
  have p3 : w2.cell? ⟨w.heap.size + 1, 3, none⟩ = some (.slice ea2 en2 ec2) := cell_blk9 K2.out rfl
  have p4 : w2.cell? ⟨w.heap.size + 1, 4, none⟩ = some (.slice ma2 mn2 mc2) := cell_blk9 K2.out rfl
  have p5 : w2.cell? ⟨w.heap.size + 1, 5, none⟩ = some (.slice oa2 on2 oc2) := cell_blk9 K2.out rfl
  go_wp2_with fail
  refine HF2.out.mono ?_
  rintro e w3 ⟨⟨b3, rfl, hfew⟩, hb⟩
  have B3 := Lib.hid (B2.out.trans (hb.mono B2.out.size))
  have G3 := Lib.hid ((hb.block w.heap.size (Array.getElem?_eq_some_iff.1 G2.out).1).trans G2.out)
  have K3 := Lib.hid ((hb.block (w.heap.size + 1) (Array.getElem?_eq_some_iff.1 K2.out).1).trans K2.out)
  have HFW2 := Lib.hid hfew
  clear hb hfew p0 p1 p2 p3 p4 p5
  cases b3 with
  | false =>
    go_wp2_with fail
    refine (HLV.out _).mono ?_
    rintro e w4 ⟨rfl, hb4⟩
    have B4 := Lib.hid (B3.out.trans (hb4.mono B3.out.size))
    clear hb4
    go_wp2_with fail
    go_ret
    exact ⟨rfl, B4.out⟩
  | true =>
  obtain ⟨f1, f2, f3, f4⟩ := HFW.out (by first | rfl | trivial)
  obtain ⟨f5, f6, f7, f8⟩ := HFW2.out (by first | rfl | trivial)
  have HSZ := Lib.hid (FewIs.all HE.out f4)
  have HSZ2 := Lib.hid (FewIs.all HE2.out f8)
  have HK := Lib.hid (show ∀ x ∈ le, x.key.size ≤ 100 ∧ x.part.size ≤ 1300 from fun x hx => ⟨(HSZ.out x hx).1, by have := (HSZ.out x hx).2; omega⟩)
  have HK2 := Lib.hid (show ∀ x ∈ le2, x.key.size ≤ 100 ∧ x.part.size ≤ 1300 from fun x hx => ⟨(HSZ2.out x hx).1, by have := (HSZ2.out x hx).2; omega⟩)
  clear f4 f8
  have HEN := Lib.hid (mencode_no (w := w3) pfS (HE.out.kept B3.out) (HM.out.kept B3.out) (HO.out.kept B3.out) (par_any (HX.out.below B3.out) (fun x hx => (HK.out x hx).2)) HMAN.out)
  have c0 : w3.cell? ⟨w.heap.size, 0, none⟩ = some (.int .i64 s) := cell_blk9 G3.out rfl
  have c1 : w3.cell? ⟨w.heap.size, 1, none⟩ = some (.int .i64 d) := cell_blk9 G3.out rfl
  have c2 : w3.cell? ⟨w.heap.size, 2, none⟩ = some (.int .i64 hz) := cell_blk9 G3.out rfl
  have c3 : w3.cell? ⟨w.heap.size, 3, none⟩ = some (.slice ea en ec) := cell_blk9 G3.out rfl
  have c4 : w3.cell? ⟨w.heap.size, 4, none⟩ = some (.slice ma mn mc) := cell_blk9 G3.out rfl
  have c5 : w3.cell? ⟨w.heap.size, 5, none⟩ = some (.slice oa on oc) := cell_blk9 G3.out rfl
  go_wp2_with fail
  refine HEN.out.mono ?_
  rintro e w4 ⟨rfl, hb⟩
  have B4 := Lib.hid (B3.out.trans (hb.mono B3.out.size))
  have G4 := Lib.hid ((hb.block w.heap.size (Array.getElem?_eq_some_iff.1 G3.out).1).trans G3.out)
  have K4 := Lib.hid ((hb.block (w.heap.size + 1) (Array.getElem?_eq_some_iff.1 K3.out).1).trans K3.out)
  have HEN2 := Lib.hid (mencode_no (w := w4) pfS (HE2.out.kept B4.out) (HM2.out.kept B4.out) (HO2.out.kept B4.out) (par_any (HX.out.below B4.out) (fun x hx => (HK2.out x hx).2)) HMAN2.out)
  have g0 : w4.cell? ⟨w.heap.size + 1, 0, none⟩ = some (.int .i64 s2) := cell_blk9 K4.out rfl
  have g1 : w4.cell? ⟨w.heap.size + 1, 1, none⟩ = some (.int .i64 d2) := cell_blk9 K4.out rfl
  have g2 : w4.cell? ⟨w.heap.size + 1, 2, none⟩ = some (.int .i64 hz2) := cell_blk9 K4.out rfl
  have g3 : w4.cell? ⟨w.heap.size + 1, 3, none⟩ = some (.slice ea2 en2 ec2) := cell_blk9 K4.out rfl
  have g4 : w4.cell? ⟨w.heap.size + 1, 4, none⟩ = some (.slice ma2 mn2 mc2) := cell_blk9 K4.out rfl
  have g5 : w4.cell? ⟨w.heap.size + 1, 5, none⟩ = some (.slice oa2 on2 oc2) := cell_blk9 K4.out rfl
  clear hb c0 c1 c2 c3 c4 c5
  go_wp2_with fail
  refine HEN2.out.mono ?_
  rintro e w5 ⟨rfl, hb⟩
  have B5 := Lib.hid (B4.out.trans (hb.mono B4.out.size))
  have G5 := Lib.hid ((hb.block w.heap.size (Array.getElem?_eq_some_iff.1 G4.out).1).trans G4.out)
  have K5 := Lib.hid ((hb.block (w.heap.size + 1) (Array.getElem?_eq_some_iff.1 K4.out).1).trans K4.out)
  clear hb g0 g1 g2 g3 g4 g5
  have HRR := Lib.hid (mright_any (w := w5) pfS (s := s) (d := d) (hz := hz) (HE.out.kept B5.out) (HM.out.kept B5.out) (HO.out.kept B5.out) (par_any (HX.out.below B5.out) (fun x hx => (HK.out x hx).2)))
  have e0 : w5.cell? ⟨w.heap.size, 0, none⟩ = some (.int .i64 s) := cell_blk9 G5.out rfl
  have e1 : w5.cell? ⟨w.heap.size, 1, none⟩ = some (.int .i64 d) := cell_blk9 G5.out rfl
  have e2 : w5.cell? ⟨w.heap.size, 2, none⟩ = some (.int .i64 hz) := cell_blk9 G5.out rfl
  have e3 : w5.cell? ⟨w.heap.size, 3, none⟩ = some (.slice ea en ec) := cell_blk9 G5.out rfl
  have e4 : w5.cell? ⟨w.heap.size, 4, none⟩ = some (.slice ma mn mc) := cell_blk9 G5.out rfl
  have e5 : w5.cell? ⟨w.heap.size, 5, none⟩ = some (.slice oa on oc) := cell_blk9 G5.out rfl
  go_wp2_with fail
  refine HRR.out.mono ?_
  rintro e w6 ⟨⟨b6, rfl, hb6⟩, hbl6⟩
  obtain rfl : b6 = false := by
    cases b6 with
    | false => rfl
    | true => exact absurd (hb6.1 rfl) HMAN.out
  have B6 := Lib.hid (B5.out.trans (hbl6.mono B5.out.size))
  clear hb6 hbl6
  go_wp2_with fail
  go_ret
  exact ⟨rfl, B6.out⟩

/-- as the frame takes it -/
theorem back_go (s d hz : Int) (ea : Option Addr) (en ec : Nat) (le : List EntV) (ma : Option Addr) (mn mc : Nat) (lm : List (Int × Int)) (oa : Option Addr) (on oc : Nat) (lo : List (Int × Int × Int)) (s2 d2 hz2 : Int) (ea2 : Option Addr) (en2 ec2 : Nat) (le2 : List EntV) (ma2 : Option Addr) (mn2 mc2 : Nat) (lm2 : List (Int × Int)) (oa2 : Option Addr) (on2 oc2 : Nat) (lo2 : List (Int × Int × Int)) (w : World) (hT : Table w) (hE : VecAt EntS w ea en ec le) (hM : VecAt MarkS w ma mn mc lm) (hO : VecAt OwnS w oa on oc lo) (hE2 : VecAt EntS w ea2 en2 ec2 le2) (hM2 : VecAt MarkS w ma2 mn2 mc2 lm2) (hO2 : VecAt OwnS w oa2 on2 oc2 lo2) (hmx : ∃ m, w.cell? ⟨1, 0, none⟩ = some (.int .i64 m)) :
    Calls Tryz.prog 5 #[.agg #[.int .i64 s, .int .i64 d, .int .i64 hz, .slice ea en ec, .slice ma mn mc, .slice oa on oc], .agg #[.int .i64 s2, .int .i64 d2, .int .i64 hz2, .slice ea2 en2 ec2, .slice ma2 mn2 mc2, .slice oa2 on2 oc2]] w fun e w' => e = .returned (.bool true) ∧ Below w.heap.size w w' := by
  obtain ⟨mx, hx⟩ := hmx
  by_cases hm : IsMan pfS s d hz en le mn lm on lo
  · by_cases hm2 : IsMan pfS s2 d2 hz2 en2 le2 mn2 lm2 on2 lo2
    · skip
      have h := hm.1
      simp only [withinB, Bool.and_eq_true, decide_eq_true_eq] at h
      obtain ⟨ns, rfl⟩ : ∃ n : Nat, s = (n : Int) := ⟨s.toNat, by omega⟩
      obtain ⟨nd, rfl⟩ : ∃ n : Nat, d = (n : Int) := ⟨d.toNat, by omega⟩
      obtain ⟨nh, rfl⟩ : ∃ n : Nat, hz = (n : Int) := ⟨hz.toNat, by omega⟩
      have h2 := hm2.1
      simp only [withinB, Bool.and_eq_true, decide_eq_true_eq] at h2
      obtain ⟨ns2, rfl⟩ : ∃ n : Nat, s2 = (n : Int) := ⟨s2.toNat, by omega⟩
      obtain ⟨nd2, rfl⟩ : ∃ n : Nat, d2 = (n : Int) := ⟨d2.toNat, by omega⟩
      obtain ⟨nh2, rfl⟩ : ∃ n : Nat, hz2 = (n : Int) := ⟨hz2.toNat, by omega⟩
      exact back_yy hT hx hE hM hO hE2 hM2 hO2 hm hm2
    · skip
      have h := hm.1
      simp only [withinB, Bool.and_eq_true, decide_eq_true_eq] at h
      obtain ⟨ns, rfl⟩ : ∃ n : Nat, s = (n : Int) := ⟨s.toNat, by omega⟩
      obtain ⟨nd, rfl⟩ : ∃ n : Nat, d = (n : Int) := ⟨d.toNat, by omega⟩
      obtain ⟨nh, rfl⟩ : ∃ n : Nat, hz = (n : Int) := ⟨hz.toNat, by omega⟩
      exact back_yn hT hx hE hM hO hE2 hM2 hO2 hm hm2
  · by_cases hm2 : IsMan pfS s2 d2 hz2 en2 le2 mn2 lm2 on2 lo2
    · skip
      have h2 := hm2.1
      simp only [withinB, Bool.and_eq_true, decide_eq_true_eq] at h2
      obtain ⟨ns2, rfl⟩ : ∃ n : Nat, s2 = (n : Int) := ⟨s2.toNat, by omega⟩
      obtain ⟨nd2, rfl⟩ : ∃ n : Nat, d2 = (n : Int) := ⟨d2.toNat, by omega⟩
      obtain ⟨nh2, rfl⟩ : ∃ n : Nat, hz2 = (n : Int) := ⟨hz2.toNat, by omega⟩
      exact back_ny hT hx hE hM hO hE2 hM2 hO2 hm hm2
    · exact back_nn hT hx hE hM hO hE2 hM2 hO2 hm hm2
end Go.Proofs.YtbdgcfimbblncaaGreatDoor
end PkMB10_0
section PkMB10_1
/- Manifests and owners, opened as a law's arguments. Written by genmfopen.py. -/
namespace Go.Proofs.YtbdgcfimbblncaaGreatDoor
open Go.ChangeShapes Go.WideShapes Go.Deep Go.RowKit LabPlain
set_option linter.unusedVariables false

theorem u32_wfb {n : Int} (h : (Lit.int .u32 n).wf = true) : 0 ≤ n ∧ n ≤ 4294967295 := by
  simpa [Lit.wf, IntKind.min, IntKind.max, IntKind.signed, IntKind.bits] using h

set_option maxRecDepth 100000 in
theorem mkr_fields0 {H : Type} {enc : TypeId × Value → H} {W : World} {fuel : Nat} {cs : List Value} {y : DataW H × List MemPlace} (h : DataW.trod enc Tryz.prog W 0 (fun _ => true) true fuel 43 cs = some y) (hw : ∀ n, n ∈ DataW.weights Tryz.prog 43 y.1 → n ≤ reachBytes) :
    ∃ (s0 : Int) (s1 : Int), cs = [.int .i64 s0, .int .i64 s1] ∧ (Lit.int .i64 s0).wf = true ∧ (Lit.int .i64 s1).wf = true ∧ True := by
  obtain ⟨xs, n, _, hy, hcl, hxl, hfld⟩ := DataW.trod_struct Tryz.underlying43 h
  rw [show Tryz.prog.cellsOf 43 = 2 from by kernel_rfl] at hcl
  have hxl2 : xs.length = 2 := hxl
  match cs, xs, hcl, hxl2 with
  | [v0, v1], [p0, p1], _, _ =>
    have t0 : DataW.trod enc Tryz.prog W 0 (fun _ => true) true n 3 (List.take (Tryz.prog.cellsOf 3) (List.drop 0 [v0, v1])) = [p0, p1][0]? := hfld 0 _ rfl
    rw [show Tryz.prog.cellsOf 3 = 1 from by kernel_rfl] at t0
    obtain ⟨s0, hs0, hx0, hw0⟩ := DataW.trod_int Tryz.underlying3 (show DataW.trod enc Tryz.prog W 0 (fun _ => true) true n 3 [v0] = some p0 from by simpa using t0)
    have e0 : v0 = .int .i64 s0 := by simpa using hs0
    have t1 : DataW.trod enc Tryz.prog W 0 (fun _ => true) true n 3 (List.take (Tryz.prog.cellsOf 3) (List.drop 1 [v0, v1])) = [p0, p1][1]? := hfld 1 _ rfl
    rw [show Tryz.prog.cellsOf 3 = 1 from by kernel_rfl] at t1
    obtain ⟨s1, hs1, hx1, hw1⟩ := DataW.trod_int Tryz.underlying3 (show DataW.trod enc Tryz.prog W 0 (fun _ => true) true n 3 [v1] = some p1 from by simpa using t1)
    have e1 : v1 = .int .i64 s1 := by simpa using hs1
    subst e0 e1
    have hy1 : y.1 = .agg [p0.1, p1.1] := by rw [hy]; rfl
    have hr := reachBytes_lt
    exact ⟨s0, s1, rfl, hw0, hw1, trivial⟩

theorem mkr_fields {H : Type} {enc : TypeId × Value → H} {W : World} {fuel : Nat} {cs : List Value} {y : DataW H × List MemPlace} (h : DataW.trod enc Tryz.prog W 0 (fun _ => true) true fuel 43 cs = some y) (hw : ∀ n, n ∈ DataW.weights Tryz.prog 43 y.1 → n ≤ reachBytes) :
    ∃ r : (Int × Int), cs = MarkS.f r ∧ MarkS.ok W r := by
  obtain ⟨s0, s1, rfl, _⟩ := mkr_fields0 h hw
  exact ⟨(s0, s1), rfl, trivial⟩

set_option maxRecDepth 100000 in
theorem own_fields0 {H : Type} {enc : TypeId × Value → H} {W : World} {fuel : Nat} {cs : List Value} {y : DataW H × List MemPlace} (h : DataW.trod enc Tryz.prog W 0 (fun _ => true) true fuel 45 cs = some y) (hw : ∀ n, n ∈ DataW.weights Tryz.prog 45 y.1 → n ≤ reachBytes) :
    ∃ (s0 : Int) (s1 : Int) (s2 : Int), cs = [.int .i64 s0, .int .i64 s1, .int .i64 s2] ∧ (Lit.int .i64 s0).wf = true ∧ (Lit.int .i64 s1).wf = true ∧ (Lit.int .i64 s2).wf = true ∧ True := by
  obtain ⟨xs, n, _, hy, hcl, hxl, hfld⟩ := DataW.trod_struct Tryz.underlying45 h
  rw [show Tryz.prog.cellsOf 45 = 3 from by kernel_rfl] at hcl
  have hxl2 : xs.length = 3 := hxl
  match cs, xs, hcl, hxl2 with
  | [v0, v1, v2], [p0, p1, p2], _, _ =>
    have t0 : DataW.trod enc Tryz.prog W 0 (fun _ => true) true n 3 (List.take (Tryz.prog.cellsOf 3) (List.drop 0 [v0, v1, v2])) = [p0, p1, p2][0]? := hfld 0 _ rfl
    rw [show Tryz.prog.cellsOf 3 = 1 from by kernel_rfl] at t0
    obtain ⟨s0, hs0, hx0, hw0⟩ := DataW.trod_int Tryz.underlying3 (show DataW.trod enc Tryz.prog W 0 (fun _ => true) true n 3 [v0] = some p0 from by simpa using t0)
    have e0 : v0 = .int .i64 s0 := by simpa using hs0
    have t1 : DataW.trod enc Tryz.prog W 0 (fun _ => true) true n 3 (List.take (Tryz.prog.cellsOf 3) (List.drop 1 [v0, v1, v2])) = [p0, p1, p2][1]? := hfld 1 _ rfl
    rw [show Tryz.prog.cellsOf 3 = 1 from by kernel_rfl] at t1
    obtain ⟨s1, hs1, hx1, hw1⟩ := DataW.trod_int Tryz.underlying3 (show DataW.trod enc Tryz.prog W 0 (fun _ => true) true n 3 [v1] = some p1 from by simpa using t1)
    have e1 : v1 = .int .i64 s1 := by simpa using hs1
    have t2 : DataW.trod enc Tryz.prog W 0 (fun _ => true) true n 3 (List.take (Tryz.prog.cellsOf 3) (List.drop 2 [v0, v1, v2])) = [p0, p1, p2][2]? := hfld 2 _ rfl
    rw [show Tryz.prog.cellsOf 3 = 1 from by kernel_rfl] at t2
    obtain ⟨s2, hs2, hx2, hw2⟩ := DataW.trod_int Tryz.underlying3 (show DataW.trod enc Tryz.prog W 0 (fun _ => true) true n 3 [v2] = some p2 from by simpa using t2)
    have e2 : v2 = .int .i64 s2 := by simpa using hs2
    subst e0 e1 e2
    have hy1 : y.1 = .agg [p0.1, p1.1, p2.1] := by rw [hy]; rfl
    have hr := reachBytes_lt
    exact ⟨s0, s1, s2, rfl, hw0, hw1, hw2, trivial⟩

theorem own_fields {H : Type} {enc : TypeId × Value → H} {W : World} {fuel : Nat} {cs : List Value} {y : DataW H × List MemPlace} (h : DataW.trod enc Tryz.prog W 0 (fun _ => true) true fuel 45 cs = some y) (hw : ∀ n, n ∈ DataW.weights Tryz.prog 45 y.1 → n ≤ reachBytes) :
    ∃ r : (Int × Int × Int), cs = OwnS.f r ∧ OwnS.ok W r := by
  obtain ⟨s0, s1, s2, rfl, _⟩ := own_fields0 h hw
  exact ⟨(s0, s1, s2), rfl, trivial⟩

set_option maxRecDepth 100000 in
theorem enr_fields0 {H : Type} {enc : TypeId × Value → H} {W : World} {fuel : Nat} {cs : List Value} {y : DataW H × List MemPlace} (h : DataW.trod enc Tryz.prog W 0 (fun _ => true) true fuel 53 cs = some y) (hw : ∀ n, n ∈ DataW.weights Tryz.prog 53 y.1 → n ≤ reachBytes) :
    ∃ (s0 : ByteArray) (s1 : Int) (s2 : ByteArray) (s3 : Int) (s4 : Int) (s5 : Int) (s6 : Int) (s7 : Int) (s8 : Int), cs = [.string s0, .int .i64 s1, .string s2, .int .i64 s3, .int .i64 s4, .int .i64 s5, .int .i64 s6, .int .u32 s7, .int .i64 s8] ∧ s0.size ≤ 140737488355328 ∧ (Lit.int .i64 s1).wf = true ∧ s2.size ≤ 140737488355328 ∧ (Lit.int .i64 s3).wf = true ∧ (Lit.int .i64 s4).wf = true ∧ (Lit.int .i64 s5).wf = true ∧ (Lit.int .i64 s6).wf = true ∧ (Lit.int .u32 s7).wf = true ∧ (Lit.int .i64 s8).wf = true ∧ True := by
  obtain ⟨xs, n, _, hy, hcl, hxl, hfld⟩ := DataW.trod_struct Tryz.underlying53 h
  rw [show Tryz.prog.cellsOf 53 = 9 from by kernel_rfl] at hcl
  have hxl2 : xs.length = 9 := hxl
  match cs, xs, hcl, hxl2 with
  | [v0, v1, v2, v3, v4, v5, v6, v7, v8], [p0, p1, p2, p3, p4, p5, p6, p7, p8], _, _ =>
    have t0 : DataW.trod enc Tryz.prog W 0 (fun _ => true) true n 9 (List.take (Tryz.prog.cellsOf 9) (List.drop 0 [v0, v1, v2, v3, v4, v5, v6, v7, v8])) = [p0, p1, p2, p3, p4, p5, p6, p7, p8][0]? := hfld 0 _ rfl
    rw [show Tryz.prog.cellsOf 9 = 1 from by kernel_rfl] at t0
    obtain ⟨s0, hs0, hx0, _⟩ := DataW.trod_string Tryz.underlying9 (show DataW.trod enc Tryz.prog W 0 (fun _ => true) true n 9 [v0] = some p0 from by simpa using t0)
    have e0 : v0 = .string s0 := by simpa using hs0
    have t1 : DataW.trod enc Tryz.prog W 0 (fun _ => true) true n 3 (List.take (Tryz.prog.cellsOf 3) (List.drop 1 [v0, v1, v2, v3, v4, v5, v6, v7, v8])) = [p0, p1, p2, p3, p4, p5, p6, p7, p8][1]? := hfld 1 _ rfl
    rw [show Tryz.prog.cellsOf 3 = 1 from by kernel_rfl] at t1
    obtain ⟨s1, hs1, hx1, hw1⟩ := DataW.trod_int Tryz.underlying3 (show DataW.trod enc Tryz.prog W 0 (fun _ => true) true n 3 [v1] = some p1 from by simpa using t1)
    have e1 : v1 = .int .i64 s1 := by simpa using hs1
    have t2 : DataW.trod enc Tryz.prog W 0 (fun _ => true) true n 9 (List.take (Tryz.prog.cellsOf 9) (List.drop 2 [v0, v1, v2, v3, v4, v5, v6, v7, v8])) = [p0, p1, p2, p3, p4, p5, p6, p7, p8][2]? := hfld 2 _ rfl
    rw [show Tryz.prog.cellsOf 9 = 1 from by kernel_rfl] at t2
    obtain ⟨s2, hs2, hx2, _⟩ := DataW.trod_string Tryz.underlying9 (show DataW.trod enc Tryz.prog W 0 (fun _ => true) true n 9 [v2] = some p2 from by simpa using t2)
    have e2 : v2 = .string s2 := by simpa using hs2
    have t3 : DataW.trod enc Tryz.prog W 0 (fun _ => true) true n 3 (List.take (Tryz.prog.cellsOf 3) (List.drop 3 [v0, v1, v2, v3, v4, v5, v6, v7, v8])) = [p0, p1, p2, p3, p4, p5, p6, p7, p8][3]? := hfld 3 _ rfl
    rw [show Tryz.prog.cellsOf 3 = 1 from by kernel_rfl] at t3
    obtain ⟨s3, hs3, hx3, hw3⟩ := DataW.trod_int Tryz.underlying3 (show DataW.trod enc Tryz.prog W 0 (fun _ => true) true n 3 [v3] = some p3 from by simpa using t3)
    have e3 : v3 = .int .i64 s3 := by simpa using hs3
    have t4 : DataW.trod enc Tryz.prog W 0 (fun _ => true) true n 3 (List.take (Tryz.prog.cellsOf 3) (List.drop 4 [v0, v1, v2, v3, v4, v5, v6, v7, v8])) = [p0, p1, p2, p3, p4, p5, p6, p7, p8][4]? := hfld 4 _ rfl
    rw [show Tryz.prog.cellsOf 3 = 1 from by kernel_rfl] at t4
    obtain ⟨s4, hs4, hx4, hw4⟩ := DataW.trod_int Tryz.underlying3 (show DataW.trod enc Tryz.prog W 0 (fun _ => true) true n 3 [v4] = some p4 from by simpa using t4)
    have e4 : v4 = .int .i64 s4 := by simpa using hs4
    have t5 : DataW.trod enc Tryz.prog W 0 (fun _ => true) true n 3 (List.take (Tryz.prog.cellsOf 3) (List.drop 5 [v0, v1, v2, v3, v4, v5, v6, v7, v8])) = [p0, p1, p2, p3, p4, p5, p6, p7, p8][5]? := hfld 5 _ rfl
    rw [show Tryz.prog.cellsOf 3 = 1 from by kernel_rfl] at t5
    obtain ⟨s5, hs5, hx5, hw5⟩ := DataW.trod_int Tryz.underlying3 (show DataW.trod enc Tryz.prog W 0 (fun _ => true) true n 3 [v5] = some p5 from by simpa using t5)
    have e5 : v5 = .int .i64 s5 := by simpa using hs5
    have t6 : DataW.trod enc Tryz.prog W 0 (fun _ => true) true n 3 (List.take (Tryz.prog.cellsOf 3) (List.drop 6 [v0, v1, v2, v3, v4, v5, v6, v7, v8])) = [p0, p1, p2, p3, p4, p5, p6, p7, p8][6]? := hfld 6 _ rfl
    rw [show Tryz.prog.cellsOf 3 = 1 from by kernel_rfl] at t6
    obtain ⟨s6, hs6, hx6, hw6⟩ := DataW.trod_int Tryz.underlying3 (show DataW.trod enc Tryz.prog W 0 (fun _ => true) true n 3 [v6] = some p6 from by simpa using t6)
    have e6 : v6 = .int .i64 s6 := by simpa using hs6
    have t7 : DataW.trod enc Tryz.prog W 0 (fun _ => true) true n 51 (List.take (Tryz.prog.cellsOf 51) (List.drop 7 [v0, v1, v2, v3, v4, v5, v6, v7, v8])) = [p0, p1, p2, p3, p4, p5, p6, p7, p8][7]? := hfld 7 _ rfl
    rw [show Tryz.prog.cellsOf 51 = 1 from by kernel_rfl] at t7
    obtain ⟨s7, hs7, hx7, hw7⟩ := DataW.trod_int Tryz.underlying51 (show DataW.trod enc Tryz.prog W 0 (fun _ => true) true n 51 [v7] = some p7 from by simpa using t7)
    have e7 : v7 = .int .u32 s7 := by simpa using hs7
    have t8 : DataW.trod enc Tryz.prog W 0 (fun _ => true) true n 3 (List.take (Tryz.prog.cellsOf 3) (List.drop 8 [v0, v1, v2, v3, v4, v5, v6, v7, v8])) = [p0, p1, p2, p3, p4, p5, p6, p7, p8][8]? := hfld 8 _ rfl
    rw [show Tryz.prog.cellsOf 3 = 1 from by kernel_rfl] at t8
    obtain ⟨s8, hs8, hx8, hw8⟩ := DataW.trod_int Tryz.underlying3 (show DataW.trod enc Tryz.prog W 0 (fun _ => true) true n 3 [v8] = some p8 from by simpa using t8)
    have e8 : v8 = .int .i64 s8 := by simpa using hs8
    subst e0 e1 e2 e3 e4 e5 e6 e7 e8
    have hy1 : y.1 = .agg [p0.1, p1.1, p2.1, p3.1, p4.1, p5.1, p6.1, p7.1, p8.1] := by rw [hy]; rfl
    have hr := reachBytes_lt
    have w0 := hw s0.data.toList.length (by rw [hy1, hx0]; simp [DataW.weights, DataW.weightsEach, Tryz.underlying53])
    have w2 := hw s2.data.toList.length (by rw [hy1, hx2]; simp [DataW.weights, DataW.weightsEach, Tryz.underlying53])
    exact ⟨s0, s1, s2, s3, s4, s5, s6, s7, s8, rfl, (by simp at w0; omega), hw1, (by simp at w2; omega), hw3, hw4, hw5, hw6, hw7, hw8, trivial⟩

theorem enr_fields {H : Type} {enc : TypeId × Value → H} {W : World} {fuel : Nat} {cs : List Value} {y : DataW H × List MemPlace} (h : DataW.trod enc Tryz.prog W 0 (fun _ => true) true fuel 53 cs = some y) (hw : ∀ n, n ∈ DataW.weights Tryz.prog 53 y.1 → n ≤ reachBytes) :
    ∃ r : EntV, cs = EntS.f r ∧ EntS.ok W r := by
  obtain ⟨s0, s1, s2, s3, s4, s5, s6, s7, s8, rfl, h0, _, h2, _, _, _, _, h7, _⟩ := enr_fields0 h hw
  exact ⟨⟨s0, s1, s2, s3, s4, s5, s6, s7, s8⟩, rfl, ⟨h0, h2, u32_wfb h7⟩⟩

set_option maxRecDepth 100000 in
theorem man_fields0 {H : Type} {enc : TypeId × Value → H} {W : World} {fuel : Nat} {cs : List Value} {y : DataW H × List MemPlace} (h : DataW.trod enc Tryz.prog W 0 (fun _ => true) true fuel 26 cs = some y) (hw : ∀ n, n ∈ DataW.weights Tryz.prog 26 y.1 → n ≤ reachBytes) :
    ∃ (s0 : Int) (s1 : Int) (s2 : Int) (a3 : Option Addr) (n3 c3 : Nat) (l3 : List _) (a4 : Option Addr) (n4 c4 : Nat) (l4 : List _) (a5 : Option Addr) (n5 c5 : Nat) (l5 : List _), cs = [.int .i64 s0, .int .i64 s1, .int .i64 s2, .slice a3 n3 c3, .slice a4 n4 c4, .slice a5 n5 c5] ∧ (Lit.int .i64 s0).wf = true ∧ (Lit.int .i64 s1).wf = true ∧ (Lit.int .i64 s2).wf = true ∧ VecAt (EntS) W a3 n3 c3 l3 ∧ VecAt (MarkS) W a4 n4 c4 l4 ∧ VecAt (OwnS) W a5 n5 c5 l5 ∧ True := by
  obtain ⟨xs, n, _, hy, hcl, hxl, hfld⟩ := DataW.trod_struct Tryz.underlying26 h
  rw [show Tryz.prog.cellsOf 26 = 6 from by kernel_rfl] at hcl
  have hxl2 : xs.length = 6 := hxl
  match cs, xs, hcl, hxl2 with
  | [v0, v1, v2, v3, v4, v5], [p0, p1, p2, p3, p4, p5], _, _ =>
    have t0 : DataW.trod enc Tryz.prog W 0 (fun _ => true) true n 3 (List.take (Tryz.prog.cellsOf 3) (List.drop 0 [v0, v1, v2, v3, v4, v5])) = [p0, p1, p2, p3, p4, p5][0]? := hfld 0 _ rfl
    rw [show Tryz.prog.cellsOf 3 = 1 from by kernel_rfl] at t0
    obtain ⟨s0, hs0, hx0, hw0⟩ := DataW.trod_int Tryz.underlying3 (show DataW.trod enc Tryz.prog W 0 (fun _ => true) true n 3 [v0] = some p0 from by simpa using t0)
    have e0 : v0 = .int .i64 s0 := by simpa using hs0
    have t1 : DataW.trod enc Tryz.prog W 0 (fun _ => true) true n 3 (List.take (Tryz.prog.cellsOf 3) (List.drop 1 [v0, v1, v2, v3, v4, v5])) = [p0, p1, p2, p3, p4, p5][1]? := hfld 1 _ rfl
    rw [show Tryz.prog.cellsOf 3 = 1 from by kernel_rfl] at t1
    obtain ⟨s1, hs1, hx1, hw1⟩ := DataW.trod_int Tryz.underlying3 (show DataW.trod enc Tryz.prog W 0 (fun _ => true) true n 3 [v1] = some p1 from by simpa using t1)
    have e1 : v1 = .int .i64 s1 := by simpa using hs1
    have t2 : DataW.trod enc Tryz.prog W 0 (fun _ => true) true n 3 (List.take (Tryz.prog.cellsOf 3) (List.drop 2 [v0, v1, v2, v3, v4, v5])) = [p0, p1, p2, p3, p4, p5][2]? := hfld 2 _ rfl
    rw [show Tryz.prog.cellsOf 3 = 1 from by kernel_rfl] at t2
    obtain ⟨s2, hs2, hx2, hw2⟩ := DataW.trod_int Tryz.underlying3 (show DataW.trod enc Tryz.prog W 0 (fun _ => true) true n 3 [v2] = some p2 from by simpa using t2)
    have e2 : v2 = .int .i64 s2 := by simpa using hs2
    have t3 : DataW.trod enc Tryz.prog W 0 (fun _ => true) true n 22 (List.take (Tryz.prog.cellsOf 22) (List.drop 3 [v0, v1, v2, v3, v4, v5])) = [p0, p1, p2, p3, p4, p5][3]? := hfld 3 _ rfl
    rw [show Tryz.prog.cellsOf 22 = 1 from by kernel_rfl] at t3
    have t3' : DataW.trod enc Tryz.prog W 0 (fun _ => true) true n 22 [v3] = some p3 := by simpa using t3
    have t4 : DataW.trod enc Tryz.prog W 0 (fun _ => true) true n 23 (List.take (Tryz.prog.cellsOf 23) (List.drop 4 [v0, v1, v2, v3, v4, v5])) = [p0, p1, p2, p3, p4, p5][4]? := hfld 4 _ rfl
    rw [show Tryz.prog.cellsOf 23 = 1 from by kernel_rfl] at t4
    have t4' : DataW.trod enc Tryz.prog W 0 (fun _ => true) true n 23 [v4] = some p4 := by simpa using t4
    have t5 : DataW.trod enc Tryz.prog W 0 (fun _ => true) true n 24 (List.take (Tryz.prog.cellsOf 24) (List.drop 5 [v0, v1, v2, v3, v4, v5])) = [p0, p1, p2, p3, p4, p5][5]? := hfld 5 _ rfl
    rw [show Tryz.prog.cellsOf 24 = 1 from by kernel_rfl] at t5
    have t5' : DataW.trod enc Tryz.prog W 0 (fun _ => true) true n 24 [v5] = some p5 := by simpa using t5
    subst e0 e1 e2
    have hy1 : y.1 = .agg [p0.1, p1.1, p2.1, p3.1, p4.1, p5.1] := by rw [hy]; rfl
    have hr := reachBytes_lt
    have w3 : ∀ m, m ∈ DataW.weights Tryz.prog 22 p3.1 → m ≤ reachBytes := fun m hm => hw m (by rw [hy1]; simp [DataW.weights, DataW.weightsEach, Tryz.underlying26, hm])
    have hv3 : ∃ a len cap, v3 = .slice a len cap := by
      rcases open_slice Tryz.underlying22 t3' with ⟨hcs, _⟩ | ⟨x0, l, c, m, n, D, Pl, hcs, _⟩
      · simp at hcs; exact ⟨_, _, _, hcs⟩
      · simp at hcs; exact ⟨_, _, _, hcs⟩
    obtain ⟨a3, len3, cap3, rfl⟩ := hv3
    obtain ⟨z3, hz3⟩ := open_vec (EntS) Tryz.underlying22 (by kernel_rfl) (fun _ _ _ g1 g2 => enr_fields g1 g2) t3' w3
    have w4 : ∀ m, m ∈ DataW.weights Tryz.prog 23 p4.1 → m ≤ reachBytes := fun m hm => hw m (by rw [hy1]; simp [DataW.weights, DataW.weightsEach, Tryz.underlying26, hm])
    have hv4 : ∃ a len cap, v4 = .slice a len cap := by
      rcases open_slice Tryz.underlying23 t4' with ⟨hcs, _⟩ | ⟨x0, l, c, m, n, D, Pl, hcs, _⟩
      · simp at hcs; exact ⟨_, _, _, hcs⟩
      · simp at hcs; exact ⟨_, _, _, hcs⟩
    obtain ⟨a4, len4, cap4, rfl⟩ := hv4
    obtain ⟨z4, hz4⟩ := open_vec (MarkS) Tryz.underlying23 (by kernel_rfl) (fun _ _ _ g1 g2 => mkr_fields g1 g2) t4' w4
    have w5 : ∀ m, m ∈ DataW.weights Tryz.prog 24 p5.1 → m ≤ reachBytes := fun m hm => hw m (by rw [hy1]; simp [DataW.weights, DataW.weightsEach, Tryz.underlying26, hm])
    have hv5 : ∃ a len cap, v5 = .slice a len cap := by
      rcases open_slice Tryz.underlying24 t5' with ⟨hcs, _⟩ | ⟨x0, l, c, m, n, D, Pl, hcs, _⟩
      · simp at hcs; exact ⟨_, _, _, hcs⟩
      · simp at hcs; exact ⟨_, _, _, hcs⟩
    obtain ⟨a5, len5, cap5, rfl⟩ := hv5
    obtain ⟨z5, hz5⟩ := open_vec (OwnS) Tryz.underlying24 (by kernel_rfl) (fun _ _ _ g1 g2 => own_fields g1 g2) t5' w5
    exact ⟨s0, s1, s2, a3, len3, cap3, z3, a4, len4, cap4, z4, a5, len5, cap5, z5, rfl, hw0, hw1, hw2, hz3, hz4, hz5, trivial⟩

/-- a manifest that came in -/
theorem open_man {H : Type} {enc : TypeId × Value → H} {W : World} {fuel : Nat} {cs : Array Value} {x : DataW H × List MemPlace}
    (hf : DataW.trod enc Tryz.prog W 0 (fun _ => true) true fuel 26 cs.toList = some x) (hw : ∀ n, n ∈ DataW.weights Tryz.prog 26 x.1 → n ≤ reachBytes) :
    ∃ (s0 s1 s2 : Int) (a3 : Option Addr) (n3 c3 : Nat) (l3 : List EntV) (a4 : Option Addr) (n4 c4 : Nat) (l4 : List (Int × Int)) (a5 : Option Addr) (n5 c5 : Nat) (l5 : List (Int × Int × Int)), cs = #[.int .i64 s0, .int .i64 s1, .int .i64 s2, .slice a3 n3 c3, .slice a4 n4 c4, .slice a5 n5 c5] ∧ VecAt EntS W a3 n3 c3 l3 ∧ VecAt MarkS W a4 n4 c4 l4 ∧ VecAt OwnS W a5 n5 c5 l5 := by
  obtain ⟨s0, s1, s2, a3, n3, c3, l3, a4, n4, c4, l4, a5, n5, c5, l5, hcs, _, _, _, h3, h4, h5, _⟩ := man_fields0 hf hw
  exact ⟨s0, s1, s2, a3, n3, c3, l3, a4, n4, c4, l4, a5, n5, c5, l5, by rw [← Array.toList_inj, hcs], h3, h4, h5⟩
/-- an owner that came in -/
theorem open_owner {H : Type} {enc : TypeId × Value → H} {W : World} {fuel : Nat} {cs : Array Value} {x : DataW H × List MemPlace}
    (hf : DataW.trod enc Tryz.prog W 0 (fun _ => true) true fuel 45 cs.toList = some x) (hw : ∀ n, n ∈ DataW.weights Tryz.prog 45 x.1 → n ≤ reachBytes) :
    ∃ (s0 s1 s2 : Int), cs = #[.int .i64 s0, .int .i64 s1, .int .i64 s2] := by
  obtain ⟨s0, s1, s2, hcs, _⟩ := own_fields0 hf hw
  exact ⟨s0, s1, s2, by rw [← Array.toList_inj, hcs]⟩

end Go.Proofs.YtbdgcfimbblncaaGreatDoor
end PkMB10_1
section PkMB10_2
/- The table that the card ties: what the condition gives the walks. -/
namespace Go.Proofs.YtbdgcfimbblncaaGreatDoor
open Go.RowKit CrcPlain
set_option linter.unusedVariables false

theorem gSteps : Tryz.prog.globalNamed "entrepot/crc.steps" = some 0 := by kernel_rfl
theorem tSteps : (Tryz.prog.globals[0]?).map (·.type) = some 171 := by kernel_rfl
def nibI : List Int := [0, 498536548, 997073096, 651767980, 1994146192, 1802195444, 1303535960, 1342533948, 3988292384, 4027552580, 3604390888, 3412177804, 2607071920, 2262029012, 2685067896, 3183342108]
theorem nibI_ok : ∀ r, r < 16 → nibI.getD r 0 = ((nib.getD r 0 : Nat) : Int) := by decide

theorem table_of {W : World} (h : laidMetH Tryz.prog [("entrepot/crc.steps", Rows.laid_entrepot_crc_steps)] W) : Table W := by
  rw [MakeChecks.laidMetH_plain _ _ _ (by kernel_rfl)] at h
  have h1 : laidMet Tryz.prog [("entrepot/crc.steps", Lib.tabData .u32 nibI)] W := h
  have h2 := Lib.tabIs_of_head gSteps tSteps Tryz.underlying171 Tryz.underlying51 (by kernel_rfl) (by kernel_rfl) h1
  intro r hr
  rw [← nibI_ok r hr]
  exact h2.cell gSteps r (by simpa [nibI] using hr)
end Go.Proofs.YtbdgcfimbblncaaGreatDoor
end PkMB10_2
section PkMB10_3
/- A row by its walk, where the card ties listed variables and the walk wants the world's shape besides. -/
namespace Go.Proofs.YtbdgcfimbblncaaGreatDoor
open Go.ChangeShapes Go.WideShapes
set_option linter.unusedVariables false

theorem handed_tied_shaped {H : Type} {enc : TypeId × Value → H} {a : Assume} {C : Checked} {os : Os} {f : FuncId} {fn : Func} {s : ChangeSpec} {conds : List PathCond} {apart fresh handsOn again : Bool} {X : World → Array Value → Prop}
    (hX : ∀ (u v : World) (l : Array Value), u.heap = v.heap → X u l → X v l) (own : ownKnob C.prog.godebug = none) (started : os.Started) (noInit : C.prog.inits.idxOf? f = none) (hfn : C.prog.funcs[f]? = some fn)
    (witness : ∃ (w : World) (tape : Tape) (i : Input), w.os = os ∧ (w.forCall tape i).Shaped C.prog ∧ i.vars = [] ∧ Input.okWide C.prog (w.forCall tape i) .any w.heap.size f i ∧
      ((s.pre enc C.prog fn conds apart (w.forCall tape i).memory i.args ∧ X (w.forCall tape i).memory i.args) ∧ sizedMet enc C.prog fn (OpenSpec.ofChange s) apart (w.forCall tape i).memory i.args) ∧ a.holds C.prog (lone (Frame.enter C.prog f i.args .normal) [] (w.forCall tape i)))
    (walk : ∀ (W : World) (base : Nat) (args : Array Value) (ds gs : List (DataW H)) (before : List MemPlace),
      (∀ (j : Nat) t v, fn.params[j]? = some t → args[j]? = some v → Value.okWide C.prog W .any base t v) →
      DataW.Whole enc C.prog fn.params.toList s.vars apart W args.toList ds gs before →
      (DataW.weightsEach C.prog (fn.params.toList ++ s.plain.varTypes C.prog) (ds ++ gs)).all (· ≤ reachBytes) = true → W.ShapedOpen C.prog → X W args →
      Calls C.prog f args W fun e W' => ∃ v, e = .returned v ∧ s.post enc C.prog fn apart fresh handsOn again W args v W') :
    ReturnsInHanded a C os f .any (fun w args => (s.pre enc C.prog fn conds apart w args ∧ X w args) ∧ sizedMet enc C.prog fn (OpenSpec.ofChange s) apart w args) (s.post enc C.prog fn apart fresh handsOn again) := by
  refine returnsInHanded_of_calls own started noInit witness ?_
  intro w tape i _ hsh _ hok ⟨⟨⟨ds, gs, before, hw, hc⟩, hx⟩, hz⟩ hh
  obtain ⟨_, _, _, fn2, hfn2, _, _, _, _, hval⟩ := hok
  obtain rfl : fn2 = fn := Option.some.inj (hfn2.symm.trans hfn)
  refine (walk (w.forCall tape i) w.heap.size i.args ds gs before hval (DataW.Whole.of_heap (w' := w.forCall tape i) (by rfl) hw) (hz.weights hw) hsh (hX _ _ _ (by rfl) hx)).mono ?_
  rintro e W' ⟨v, rfl, hp⟩
  exact ChangeSpec.post_blind hp
end Go.Proofs.YtbdgcfimbblncaaGreatDoor
end PkMB10_3
