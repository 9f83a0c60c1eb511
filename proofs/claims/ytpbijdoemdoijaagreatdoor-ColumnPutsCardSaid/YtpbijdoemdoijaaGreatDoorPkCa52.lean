/- Texts put together by packtpl2.py: RefWd. -/
import Derived.Test.YtpbijdoemdoijaaGreatDoorPkCa14
import Derived.Test.YtpbijdoemdoijaaGreatDoorPkCa17
import Derived.Test.YtpbijdoemdoijaaGreatDoorPkCa18
import Derived.Test.YtpbijdoemdoijaaGreatDoorPkCa45
import Derived.Test.YtpbijdoemdoijaaGreatDoorPkCa51
import Derived.Laws.Cover1
section PkCa52_0
/- The document's words of a column: place, Dictionary, WordsOf, walked. Written by genrefwd.py. -/
namespace Go.Proofs.YtpbijdoemdoijaaGreatDoor
open Go.RowKit BitsPlain NumsPlain LabPlain
set_option linter.unusedVariables false

theorem txt_ne {x y : ByteArray} (h : x ≠ y) : (x.toList == y.toList) = false := by
  rw [beq_eq_false_iff_ne]
  exact fun e => h (ByteArray.ext (Array.toList_inj.1 (by rw [← ByteArray.toList_eq, ← ByteArray.toList_eq]; exact e)))
theorem str_cell {w : World} {b off k : Nat} {x : ByteArray} (h : ∀ j u, (StrS.f x)[j]? = some u → w.cell? ⟨b, off + k * StrS.K + j, none⟩ = some u) : w.cell? ⟨b, off + k, none⟩ = some (.string x) := by
  have h1 := h 0 (.string x) rfl
  have e : off + k * StrS.K + 0 = off + k := by show off + k * 1 + 0 = _; omega
  rw [e] at h1; exact h1

set_option maxRecDepth 100000 in
set_option maxHeartbeats 4000000 in
theorem rplace_any {w : World} {a : Option Addr} {n c : Nat} {l : List ByteArray} {z : ByteArray} (h : VecAt StrS w a n c l) (hz : z ∈ l) :
    Calls Tryz.prog 47 #[.slice a n c, .string z] w fun e w' => e = .returned (.int .i64 (plc l z : Int)) ∧ Below w.heap.size w w' := by
  have hcap := h.cap
  have hcm := h.capm
  have HL := Lib.hid h.len
  have HH := Lib.hid h
  have HZ := Lib.hid hz
  clear h hz
  go_enter Tryz.func47, Tryz.ntmps47
  go_wp2_with fail
  go_loopw [5, 8] (fun s5 s8 wr => ∃ k : Nat, k ≤ n ∧ s8 = .int .i64 (k : Int) ∧ Hid (∀ j, j < k → l.getD j ByteArray.empty ≠ z) ∧ Hid (Below w.heap.size w wr)) (fun _ s8 _ => n - (intOf s8).toNat)
  case atStart => exact ⟨0, by omega, rfl, Lib.hid (fun j hj => by omega), Lib.hid (Below.refl _ _)⟩
  case round =>
    obtain ⟨k, hk, rfl, HN, HB⟩ := hrel
    rename World => wr
    by_cases hkn : k < n
    · have hki : (k : Int) < (n : Int) := by omega
      obtain ⟨b, off, rfl, hlt, _, hc9⟩ := (HH.out.kept HB.out).get hkn
      obtain ⟨x, hx⟩ : ∃ x, x = l.getD k ByteArray.empty := ⟨_, rfl⟩
      have hx2 : l.getD k StrS.z = x := hx.symm
      rw [hx2] at hc9
      have c0 := str_cell hc9
      have HX := Lib.hid hx
      clear hc9 hx hx2 hlt
      by_cases hxz : x = z
      · have heq : (x.toList == z.toList) = true := by rw [hxz]; simp
        have HP := Lib.hid (show plc l z = k from plc_at (by rw [HL.out]; exact hkn) HN.out (by rw [← HX.out]; exact hxz))
        clear hxz
        go_wp2_with fail
        go_ret
        rw [HP.out]
        exact ⟨rfl, HB.out⟩
      · have heq := txt_ne hxz
        have HN2 := Lib.hid (show ∀ j, j < k + 1 → l.getD j ByteArray.empty ≠ z from fun j hj => by
          rcases Nat.lt_or_ge j k with g | g
          · exact HN.out j g
          · rw [show j = k from by omega, ← HX.out]; exact hxz)
        clear hxz
        go_wp2_with fail
        go_roundw
        case rel => exact ⟨k + 1, by omega, by go_num, HN2, HB⟩
        case measure => simp [intOf]; omega
    · exfalso
      obtain ⟨i, hi, e⟩ := List.getElem_of_mem HZ.out
      have h1 := HL.out
      exact HN.out i (by omega) (by rw [← e]; simp [hi])

theorem slice_to (a : Option Addr) (n c i : Nat) (hi : i ≤ c) (w : World) :
    (Instr.slice 23 (.slice a n c) none (some (.int .i64 (i : Int))) none).run Tryz.prog w = .ok (.slice a i c) w := by
  have ht' : Tryz.prog.underlying 23 = some (.slice (Tryz.prog.elem 23)) := by simp [Program.elem, Tryz.underlying23]
  have he : Tryz.prog.elem 23 = 9 := by simp [Program.elem, Tryz.underlying23]
  rw [run_slice_h w 23 _ _ _ ht' .i64 _ (by omega) (by omega), he, wd_size]
  have hz : a.map (·.add 0) = a := by
    cases a with
    | none => rfl
    | some x =>
      have : x.add 0 = x := by cases x; unfold Addr.add; split <;> simp_all
      simp [this]
  simp only [Result.andThen, sliced, Int.toNat_natCast, Nat.mul_one, Nat.sub_zero]
  simp [hz]
theorem vec_take {w : World} {a : Option Addr} {n c i : Nat} {l : List ByteArray} (h : VecAt StrS w a n c l) (hi : i ≤ n) : VecAt StrS w a i c (l.take i) := by
  have h1 := h.cap
  have h2 := h.capm
  have h3 := h.len
  refine ⟨by rw [List.length_take, h3]; omega, by omega, h2, h.nl, fun x hx => h.all x (List.mem_of_mem_take hx), fun hp => ?_⟩
  obtain ⟨b, off, rfl, hlt, hc⟩ := h.cells (by omega)
  refine ⟨b, off, rfl, hlt, fun k hk j u hu => ?_⟩
  have hg : (l.take i).getD k StrS.z = l.getD k StrS.z := by rw [List.getD_eq_getElem?_getD, List.getD_eq_getElem?_getD, List.getElem?_take_of_lt hk]
  rw [hg] at hu
  exact hc k (by omega) j u hu

set_option maxRecDepth 100000 in
set_option maxHeartbeats 8000000 in
theorem rdict_any {w : World} {a : Option Addr} {n c : Nat} {l : List ByteArray} (h : VecAt StrS w a n c l) (hn : n ≤ 2048) :
    Calls Tryz.prog 46 #[.slice a n c] w fun e w' => ∃ a' n' c', e = .returned (.slice a' n' c') ∧ VecAt StrS w' a' n' c' (kno l) ∧ Below w.heap.size w w' := by
  obtain ⟨j0, ji, jz0, jz1, jz2⟩ := info_parts ct_str
  have hcap := h.cap
  have hcm := h.capm
  have HL := Lib.hid h.len
  have HSZ := Lib.hid (show ∀ s ∈ l, s.size ≤ 140737488355328 from h.all)
  have HH := Lib.hid h
  obtain ⟨w1, hw1⟩ : ∃ w1, w1 = w.alloc (.cells #[] 9) := ⟨_, rfl⟩
  have HW1 := Lib.hid hw1
  have HB1 := Lib.hid (show Below w.heap.size w w1 from by rw [hw1]; exact (Below.refl _ _).alloc (Nat.le_refl _) _)
  have HV1 := Lib.hid (VecAt.empty (S := StrS) w1 (some ⟨w.heap.size, 0, none⟩) 0 (by omega) (fun e => by cases e))
  clear h hw1
  go_enter Tryz.func46, Tryz.ntmps46
  go_wp2_with fail
  rw [← HW1.out]
  go_loopw [3, 5, 6, 7, 11] (fun s3 _ _ _ s11 wr => ∃ (k m c9 : Nat) (g9 : Nat), k ≤ n ∧ m ≤ k ∧ s11 = .int .i64 (k : Int) ∧ s3 = .slice (some ⟨g9, 0, none⟩) m c9 ∧ Hid (VecAt StrS wr (some ⟨g9, 0, none⟩) m c9 (dicTo l k)) ∧ Hid (Below w.heap.size w wr)) (fun _ _ _ _ s11 _ => n - (intOf s11).toNat)
  case atStart => exact ⟨0, 0, 0, _, by omega, by omega, rfl, rfl, HV1, HB1⟩
  case round =>
    clear HV1 HB1
    obtain ⟨k, m, c9, g9, hk, hmk, rfl, rfl, HV, HB⟩ := hrel
    rename World => wr
    have hm9 := HV.out.cap
    have hc9m := HV.out.capm
    by_cases hkn : k < n
    · have hki : (k : Int) < (n : Int) := by omega
      obtain ⟨b, off, rfl, hlt, _, hy9⟩ := (HH.out.kept HB.out).get hkn
      obtain ⟨z, hz⟩ : ∃ z, z = l.getD k ByteArray.empty := ⟨_, rfl⟩
      have hz2 : l.getD k StrS.z = z := hz.symm
      rw [hz2] at hy9
      have c0 := str_cell hy9
      have HZ := Lib.hid hz
      have HZS := Lib.hid (show z.size ≤ 140737488355328 from HSZ.out z (by rw [hz]; exact vec_mem (S := StrS) (by rw [HL.out]; exact hkn)))
      obtain ⟨d, hd⟩ : ∃ d, d = dicTo l k := ⟨_, rfl⟩
      rw [← hd] at HV
      have HD := Lib.hid hd
      have HDL := Lib.hid HV.out.len
      clear hy9 hz hz2 hlt hd
      go_wp2_with fail
      go_loopw [6] (fun s6 wt => ∃ q : Nat, q ≤ m ∧ s6 = .int .i64 (q : Int) ∧ Hid (∀ i, i < q → ltB (d.getD i ByteArray.empty) z = true) ∧ wt = wr) (fun s6 _ => m - (intOf s6).toNat)
      case atStart => exact ⟨0, by omega, rfl, Lib.hid (fun i hi => by omega), rfl⟩
      case round =>
        obtain ⟨q, hq, rfl, HQ, rfl⟩ := hrel
        rename World => wt
        by_cases hqm : q < m
        · have hqi : (q : Int) < (m : Int) := by omega
          obtain ⟨b2, off2, he2, hlt2, _, hx9⟩ := HV.out.get hqm
          cases he2
          obtain ⟨x, hx⟩ : ∃ x, x = d.getD q ByteArray.empty := ⟨_, rfl⟩
          have hx2 : d.getD q StrS.z = x := hx.symm
          rw [hx2] at hx9
          have cx := str_cell hx9
          rw [Nat.zero_add] at cx
          have HX := Lib.hid hx
          clear hx9 hx hx2 hlt2
          cases hxz : ltB x z with
          | true =>
            have hbl : Op.bytesLess x.toList z.toList = true := hxz
            have HQ2 := Lib.hid (show ∀ i, i < q + 1 → ltB (d.getD i ByteArray.empty) z = true from fun i hi => by
              rcases Nat.lt_or_ge i q with g | g
              · exact HQ.out i g
              · rw [show i = q from by omega, ← HX.out]; exact hxz)
            clear hxz
            go_wp2_with fail
            go_roundw
            case rel => exact ⟨q + 1, by omega, by go_num, HQ2, by first | rfl | trivial⟩
            case measure => simp [intOf]; omega
          | false =>
            have hbl : Op.bytesLess x.toList z.toList = false := hxz
            have HLO := Lib.hid (show lo d z = q from lo_at (by rw [HDL.out]; omega) HQ.out (.inr (by rw [← HX.out]; exact hxz)))
            clear hxz
            by_cases hxe : x = z
            · have heq : (x.toList == z.toList) = true := by rw [hxe]; simp
              have HN := Lib.hid (show dicTo l (k + 1) = d from by
                rw [dicTo, ← HD.out, ← HZ.out]
                unfold insW
                rw [if_pos ⟨by rw [HLO.out, HDL.out]; exact hqm, by rw [HLO.out, ← HX.out]; exact hxe⟩])
              clear hxe
              go_wp2_with fail
              go_roundw
              case rel => exact ⟨k + 1, m, c9, g9, by omega, by omega, by go_num, rfl, by rw [HN.out]; exact HV, HB⟩
              case measure => simp [intOf]; omega
            · have heq := txt_ne hxe
              have HN := Lib.hid (show dicTo l (k + 1) = d.take q ++ [z] ++ d.drop q from by
                rw [dicTo, ← HD.out, ← HZ.out]
                unfold insW
                rw [if_neg (fun g => hxe (by rw [HX.out, ← HLO.out]; exact g.2)), HLO.out])
              clear hxe
              have hst := slice_to (some ⟨g9, 0, none⟩) m c9 q (by omega)
              have hsf := slice_from (some ⟨g9, 0, none⟩) m c9 q (by omega)
              have o2 := World.ownsRow_lit (base := wt.heap.size) (e := 9) (size := 1) wt #[] 0 (Nat.le_refl _) (by unfold maxLen; omega) rfl
              have HB2 := Lib.hid (show Below wt.heap.size wt (wt.alloc (.cells #[] 9)) from (Below.refl _ _).alloc (Nat.le_refl _) _)
              have HO2 := Lib.hid (show (wt.alloc (.cells #[] 9)).ownsRow wt.heap.size 9 1 (.slice (some ⟨wt.heap.size, 0, none⟩) 0 0) 0 (StrS.flat []) from o2)
              have hv2 := vec_take (HV.out.kept HB2.out) (show q ≤ m by omega)
              have HSR := Lib.hid hv2.src
              have HFL := Lib.hid (show (StrS.flat (d.take q)).length = q * 1 from by rw [StrS.flat_len, hv2.len]; rfl)
              have HONE := Lib.hid (StrS.flat_one (d.take q))
              have HS2 := Lib.hid HB2.out.size
              clear o2 hv2
              go_wp2_with (at_builtin; refine wpList_append_own_at _ rfl (.tmp 41) (.tmp 44) 23 rfl wt.heap.size 9 j0 _ 1 16 Tryz.underlying23 ji jz0 jz1 jz2 rfl (by decide) _ 0 _ rfl HO2.out ⟨g9, 0, none⟩ q c9 (StrS.flat (d.take q)) rfl HFL.out HSR.out HONE.out (by unfold maxLen; omega) (by omega) HS2.out ?_)
              intro v3 w3 ho3 hg3 _ _
              have HB3 := Lib.hid (below_own HB2.out HO2.out hg3 (Nat.le_refl _) HS2.out)
              have HO3 := Lib.hid (show w3.ownsRow wt.heap.size 9 1 v3 q (StrS.flat (d.take q)) from ho3)
              clear ho3 hg3
              have HO3A := Lib.hid (HO3.out.alloc (.cells #[.string z] 9))
              have HSRZ := Lib.hid (StrS.src w3 z 9 (cs := #[.string z]) rfl)
              have HB3A := Lib.hid (HB3.out.alloc HB3.out.size (.cells #[.string z] 9))
              have HS3 := Lib.hid HB3A.out.size
              go_wp2_with (at_builtin; refine wpList_append_own_at _ rfl (.tmp 46) (.tmp 48) 23 rfl wt.heap.size 9 j0 _ 1 16 Tryz.underlying23 ji jz0 jz1 jz2 rfl (by decide) _ q _ rfl HO3A.out ⟨w3.heap.size, 0, none⟩ 1 1 [.string z] rfl rfl HSRZ.out (StrS.one z) (by unfold maxLen; omega) (by omega) HS3.out ?_)
              intro v4 w4 ho4 hg4 _ _
              have HB4 := Lib.hid (below_own HB3A.out HO3A.out hg4 (Nat.le_refl _) HS3.out)
              have HO4 := Lib.hid (show w4.ownsRow wt.heap.size 9 1 v4 (q + 1) (StrS.flat (d.take q ++ [z])) from by rw [StrS.flat_snoc]; exact ho4)
              clear ho4 hg4
              have HV4 := Lib.hid (HV.out.kept HB4.out)
              have HS4 := Lib.hid HB4.out.size
              have hv5 := vec_drop HV4.out (show q ≤ m by omega)
              obtain ⟨a5, ha5⟩ : ∃ a5, (if c9 = q then (some ⟨g9, 0, none⟩ : Option Addr) else (some (⟨g9, 0, none⟩ : Addr)).map (·.add q)) = some a5 := by
                by_cases hcq : c9 = q
                · exact ⟨⟨g9, 0, none⟩, by rw [if_pos hcq]⟩
                · exact ⟨(⟨g9, 0, none⟩ : Addr).add q, by rw [if_neg hcq]; rfl⟩
              rw [ha5] at hv5 hsf
              have HSR5 := Lib.hid hv5.src
              have HFL5 := Lib.hid (show (StrS.flat (d.drop q)).length = (m - q) * 1 from by rw [StrS.flat_len, hv5.len]; rfl)
              have HONE5 := Lib.hid (StrS.flat_one (d.drop q))
              clear hv5 ha5
              go_wp2_with (at_builtin; refine wpList_append_own_at _ rfl (.tmp 50) (.tmp 53) 23 rfl wt.heap.size 9 j0 _ 1 16 Tryz.underlying23 ji jz0 jz1 jz2 rfl (by decide) _ (q + 1) _ rfl HO4.out a5 (m - q) (c9 - q) (StrS.flat (d.drop q)) rfl HFL5.out HSR5.out HONE5.out (by unfold maxLen; omega) (by omega) HS4.out ?_)
              intro v6 w6 ho6 hg6 _ _
              have HB6 := Lib.hid (below_own HB4.out HO4.out hg6 (Nat.le_refl _) HS4.out)
              obtain ⟨g6, c6, rfl⟩ := ct_some2 ho6 (by omega)
              have ho7 : w6.ownsRow wt.heap.size 9 1 (.slice (some ⟨g6, 0, none⟩) (q + 1 + (m - q)) c6) (q + 1 + (m - q)) (StrS.flat (dicTo l (k + 1))) := by
                rw [HN.out, show StrS.flat (d.take q ++ [z] ++ d.drop q) = StrS.flat (d.take q ++ [z]) ++ StrS.flat (d.drop q) from by unfold Sty.flat; rw [List.flatMap_append]]
                exact ho6
              have hln : (dicTo l (k + 1)).length = q + 1 + (m - q) := by
                rw [HN.out]
                simp only [List.length_append, List.length_take, List.length_drop, List.length_cons, List.length_nil, HDL.out]
                omega
              have HV6 := Lib.hid (VecAt.ofOwn (S := StrS) ho7 hln (dicTo_sizes HSZ.out (by rw [HL.out]; omega)))
              have HB7 := Lib.hid (HB.out.trans (HB6.out.mono HB.out.size))
              have hlk := dicTo_len l (k + 1)
              clear ho6 hg6 ho7 hst hsf
              go_wp2_with fail
              go_roundw
              case rel => exact ⟨k + 1, _, c6, g6, by omega, by omega, by go_num, rfl, HV6, HB7⟩
              case measure => simp [intOf]; omega
        · obtain rfl : q = m := by omega
          have HN := Lib.hid (show dicTo l (k + 1) = d.take q ++ [z] ++ d.drop q from by
            have hlo : lo d z = q := lo_at (by rw [HDL.out]; omega) HQ.out (.inl HDL.out.symm)
            rw [dicTo, ← HD.out, ← HZ.out]
            unfold insW
            rw [if_neg (fun g => by have h1 := g.1; rw [hlo, HDL.out] at h1; omega), hlo])
          clear hqm
          have hst := slice_to (some ⟨g9, 0, none⟩) q c9 q (by omega)
          have hsf := slice_from (some ⟨g9, 0, none⟩) q c9 q (by omega)
          rw [Nat.sub_self] at hsf
          have o2 := World.ownsRow_lit (base := wt.heap.size) (e := 9) (size := 1) wt #[] 0 (Nat.le_refl _) (by unfold maxLen; omega) rfl
          have HB2 := Lib.hid (show Below wt.heap.size wt (wt.alloc (.cells #[] 9)) from (Below.refl _ _).alloc (Nat.le_refl _) _)
          have HO2 := Lib.hid (show (wt.alloc (.cells #[] 9)).ownsRow wt.heap.size 9 1 (.slice (some ⟨wt.heap.size, 0, none⟩) 0 0) 0 (StrS.flat []) from o2)
          have hv2 := vec_take (HV.out.kept HB2.out) (show q ≤ q by omega)
          have HSR := Lib.hid hv2.src
          have HFL := Lib.hid (show (StrS.flat (d.take q)).length = q * 1 from by rw [StrS.flat_len, hv2.len]; rfl)
          have HONE := Lib.hid (StrS.flat_one (d.take q))
          have HS2 := Lib.hid HB2.out.size
          clear o2 hv2
          go_wp2_with (at_builtin; refine wpList_append_own_at _ rfl (.tmp 41) (.tmp 44) 23 rfl wt.heap.size 9 j0 _ 1 16 Tryz.underlying23 ji jz0 jz1 jz2 rfl (by decide) _ 0 _ rfl HO2.out ⟨g9, 0, none⟩ q c9 (StrS.flat (d.take q)) rfl HFL.out HSR.out HONE.out (by unfold maxLen; omega) (by omega) HS2.out ?_)
          intro v3 w3 ho3 hg3 _ _
          have HB3 := Lib.hid (below_own HB2.out HO2.out hg3 (Nat.le_refl _) HS2.out)
          have HO3 := Lib.hid (show w3.ownsRow wt.heap.size 9 1 v3 q (StrS.flat (d.take q)) from ho3)
          clear ho3 hg3
          have HO3A := Lib.hid (HO3.out.alloc (.cells #[.string z] 9))
          have HSRZ := Lib.hid (StrS.src w3 z 9 (cs := #[.string z]) rfl)
          have HB3A := Lib.hid (HB3.out.alloc HB3.out.size (.cells #[.string z] 9))
          have HS3 := Lib.hid HB3A.out.size
          go_wp2_with (at_builtin; refine wpList_append_own_at _ rfl (.tmp 46) (.tmp 48) 23 rfl wt.heap.size 9 j0 _ 1 16 Tryz.underlying23 ji jz0 jz1 jz2 rfl (by decide) _ q _ rfl HO3A.out ⟨w3.heap.size, 0, none⟩ 1 1 [.string z] rfl rfl HSRZ.out (StrS.one z) (by unfold maxLen; omega) (by omega) HS3.out ?_)
          intro v4 w4 ho4 hg4 _ _
          have HB4 := Lib.hid (below_own HB3A.out HO3A.out hg4 (Nat.le_refl _) HS3.out)
          have HO4 := Lib.hid (show w4.ownsRow wt.heap.size 9 1 v4 (q + 1) (StrS.flat (d.take q ++ [z])) from by rw [StrS.flat_snoc]; exact ho4)
          clear ho4 hg4
          have HV4 := Lib.hid (HV.out.kept HB4.out)
          have HS4 := Lib.hid HB4.out.size
          have hv5 := vec_drop HV4.out (show q ≤ q by omega)
          obtain ⟨a5, ha5⟩ : ∃ a5, (if c9 = q then (some ⟨g9, 0, none⟩ : Option Addr) else (some (⟨g9, 0, none⟩ : Addr)).map (·.add q)) = some a5 := by
            by_cases hcq : c9 = q
            · exact ⟨⟨g9, 0, none⟩, by rw [if_pos hcq]⟩
            · exact ⟨(⟨g9, 0, none⟩ : Addr).add q, by rw [if_neg hcq]; rfl⟩
          rw [ha5] at hv5 hsf
          have HSR5 := Lib.hid hv5.src
          have HFL5 := Lib.hid (show (StrS.flat (d.drop q)).length = 0 * 1 from by rw [StrS.flat_len, hv5.len]; rw [Nat.sub_self]; rfl)
          have HONE5 := Lib.hid (StrS.flat_one (d.drop q))
          clear hv5 ha5
          go_wp2_with (at_builtin; refine wpList_append_own_at _ rfl (.tmp 50) (.tmp 53) 23 rfl wt.heap.size 9 j0 _ 1 16 Tryz.underlying23 ji jz0 jz1 jz2 rfl (by decide) _ (q + 1) _ rfl HO4.out a5 0 (c9 - q) (StrS.flat (d.drop q)) rfl HFL5.out HSR5.out HONE5.out (by unfold maxLen; omega) (by omega) HS4.out ?_)
          intro v6 w6 ho6 hg6 _ _
          have HB6 := Lib.hid (below_own HB4.out HO4.out hg6 (Nat.le_refl _) HS4.out)
          obtain ⟨g6, c6, rfl⟩ := ct_some2 ho6 (by omega)
          have ho7 : w6.ownsRow wt.heap.size 9 1 (.slice (some ⟨g6, 0, none⟩) (q + 1) c6) (q + 1) (StrS.flat (dicTo l (k + 1))) := by
            rw [HN.out, show StrS.flat (d.take q ++ [z] ++ d.drop q) = StrS.flat (d.take q ++ [z]) ++ StrS.flat (d.drop q) from by unfold Sty.flat; rw [List.flatMap_append]]
            first | exact ho6 | simpa using ho6
          have hln : (dicTo l (k + 1)).length = q + 1 := by
            rw [HN.out]
            simp only [List.length_append, List.length_take, List.length_drop, List.length_cons, List.length_nil, HDL.out]
            omega
          have HV6 := Lib.hid (VecAt.ofOwn (S := StrS) ho7 hln (dicTo_sizes HSZ.out (by rw [HL.out]; omega)))
          have HB7 := Lib.hid (HB.out.trans (HB6.out.mono HB.out.size))
          have hlk := dicTo_len l (k + 1)
          clear ho6 hg6 ho7 hst hsf
          go_wp2_with fail
          go_roundw
          case rel => exact ⟨k + 1, _, c6, g6, by omega, by omega, by go_num, rfl, HV6, HB7⟩
          case measure => simp [intOf]; omega
    · obtain rfl : k = n := by omega
      go_wp2_with fail
      go_ret
      exact ⟨_, _, _, rfl, by rw [← dic_eq, HL.out]; exact HV.out, HB.out⟩

set_option maxRecDepth 100000 in
set_option maxHeartbeats 8000000 in
theorem rwordsOf_any {w : World} {a : Option Addr} {n c : Nat} {l : List ByteArray} (h : VecAt StrS w a n c l) (hn : n ≤ 2048) (hFT : ∀ s ∈ l, s.size ≤ 1024) :
    Calls Tryz.prog 18 #[.slice a n c] w fun e w' => ∃ v, e = .returned v ∧ w'.ownsRow w.heap.size 5 1 v (wordsC l).length (bv (wordsC l)) ∧ Below w.heap.size w w' := by
  obtain ⟨i0, hi, hz0, hz1, hz2⟩ := info_parts info_u8
  have hcap := h.cap
  have hcm := h.capm
  have HH := Lib.hid h
  have HL := Lib.hid h.len
  have HKF := Lib.hid (show ∀ s ∈ kno l, s.size ≤ 1024 from fun s hs => hFT s (((kno_facts l).2 s).1 hs))
  have HDI := Lib.hid (rdict_any h hn)
  have HKL := Lib.hid (show (kno l).length ≤ 2048 from by have := kno_le (l := l); have := h.len; omega)
  clear h hFT
  go_enter Tryz.func18, Tryz.ntmps18
  go_wp2_with fail
  refine HDI.out.mono ?_
  rintro e w4 ⟨a4, m4, c4, rfl, hv4, hb4⟩
  have HV4 := Lib.hid hv4
  have HB4 := Lib.hid hb4
  have HK4 := Lib.hid hv4.len
  have hm42 : m4 ≤ 2048 := by rw [← hv4.len]; exact HKL.out
  have hc4 := hv4.cap
  have hcm4 := hv4.capm
  have HNN := Lib.hid (rcu_nil (w := w4) (k := m4) (by omega))
  clear hv4 hb4
  go_wp2_with fail
  refine HNN.out.mono ?_
  rintro e w5 ⟨v5, rfl, ho5, hb5⟩
  have HB5 := Lib.hid hb5
  obtain ⟨a5, c5, rfl, _, _⟩ := BytesAt.ofOwn ho5 (pu_bytes (by omega)) (by have := pu_ten (n := m4) (by omega); omega)
  have HO5 := Lib.hid (show w5.ownsRow w4.heap.size 5 1 (.slice a5 (pu m4).length c5) (pu m4).length (bv (wnP (kno l) 0)) from by rw [wnP_0, HK4.out]; exact ho5)
  have HP5 := Lib.hid (show (pu m4).length = (wnP (kno l) 0).length from by rw [wnP_0, HK4.out])
  clear ho5 hb5
  go_wp2_with fail
  go_loopw [4, 6, 17] (fun s5 s7 s23 wr => ∃ (k m c9 : Nat) (a9 : Option Addr), k ≤ m4 ∧ s23 = .int .i64 (k : Int) ∧ s5 = .slice a9 m c9 ∧ Hid (m = (wnP (kno l) k).length) ∧ Hid (wr.ownsRow w4.heap.size 5 1 (.slice a9 m c9) m (bv (wnP (kno l) k))) ∧ Hid (Below w4.heap.size w4 wr)) (fun _ _ s23 _ => m4 - (intOf s23).toNat)
  case atStart => exact ⟨0, _, _, _, by omega, rfl, rfl, HP5, HO5, HB5⟩
  case round =>
    clear HP5 HO5
    obtain ⟨k, m, c9, a9, hk, rfl, rfl, HM, HO, HB⟩ := hrel
    rename World => wr
    by_cases hkn : k < m4
    · have hki : (k : Int) < (m4 : Int) := by omega
      obtain ⟨b, off, rfl, hlt, hok, hc9⟩ := (HV4.out.kept HB.out).get hkn
      obtain ⟨s, hs⟩ : ∃ s, s = (kno l).getD k ByteArray.empty := ⟨_, rfl⟩
      have hs2 : (kno l).getD k StrS.z = s := hs.symm
      rw [hs2] at hok hc9
      have c0 := str_cell hc9
      have hm : m ≤ 3000000 := by rw [HM.out]; exact wnP_len HKF.out (by rw [HK4.out]; omega) (by rw [HK4.out]; omega)
      have hsm : s.size ≤ 1024 := HKF.out s (by rw [hs]; exact vec_mem (S := StrS) (by rw [HK4.out]; exact hkn))
      have HNU := Lib.hid (rcu_any HO.out HB.out.size (by omega) (k := s.size) (by omega))
      have HS := Lib.hid hs
      have h10' := pu_ten (n := s.size) (by omega)
      clear hs hs2 hok hc9 hlt
      go_wp2_with fail
      refine HNU.out.mono ?_
      rintro e w6 ⟨v6, rfl, ho6, hg6⟩
      have HB6 := Lib.hid (below_own HB.out HO.out hg6 (Nat.le_refl _) HB.out.size)
      have HO6 := Lib.hid ho6
      have HSZ := Lib.hid HB6.out.size
      clear hg6 ho6 c0
      go_wp2_with (at_builtin; refine Lib.wpList_append_own_string _ rfl (.tmp 24) (.tmp 25) 27 9 rfl w4.heap.size 5 i0 Tryz.underlying27 Tryz.underlying9 hi hz0 hz1 hz2 _ (m + (pu s.size).length) _ rfl HO6.out s rfl (by unfold maxLen; omega) (by omega) HSZ.out ?_)
      intro v7 w7 ho7 hg7 _
      have HB7 := Lib.hid (below_own HB6.out HO6.out hg7 (Nat.le_refl _) HB6.out.size)
      rw [byl_cells, ← bv_append, wnP_s (kno l) k HS.out] at ho7
      obtain ⟨a7, c7, rfl, _, _⟩ := BytesAt.ofOwn ho7 (wnP_byte HKF.out (by rw [HK4.out]; omega) (by rw [HK4.out]; omega)) (by omega)
      have HM7 := Lib.hid (show m + (pu s.size).length + s.size = (wnP (kno l) (k + 1)).length from by rw [← wnP_s (kno l) k HS.out, List.length_append, List.length_append, byl_len, ← HM.out])
      have HO7 := Lib.hid ho7
      clear ho7 hg7
      go_wp2_with fail
      go_roundw
      case rel => exact ⟨k + 1, _, c7, a7, by omega, by go_num, rfl, HM7, HO7, HB7⟩
      case measure => simp [intOf]; omega
    · obtain rfl : m4 = k := by omega
      have h10n := pu_ten (n := n) (by omega)
      have hm0 : m ≤ 3000000 := by rw [HM.out]; exact wnP_len HKF.out (by rw [HK4.out]; omega) (by rw [HK4.out]; omega)
      have HNU := Lib.hid (rcu_any HO.out HB.out.size (by omega) (k := n) (by omega))
      clear hkn
      go_wp2_with fail
      refine HNU.out.mono ?_
      rintro e w6 ⟨v6, rfl, ho6, hg6⟩
      have HB6 := Lib.hid (below_own HB.out HO.out hg6 (Nat.le_refl _) HB.out.size)
      have hDb : ∀ x ∈ wnP (kno l) m4 ++ pu n, x < 256 := fun x hx => by
        rcases List.mem_append.1 hx with g | g
        · exact wnP_byte HKF.out (by rw [HK4.out]; omega) (by rw [HK4.out]; omega) x g
        · exact pu_bytes (by omega) x g
      obtain ⟨a6, c6, rfl, _, _⟩ := BytesAt.ofOwn ho6 hDb (by omega)
      have HDB := Lib.hid hDb
      have HM6 := Lib.hid (show m + (pu n).length = (wnP (kno l) m4 ++ pu n).length from by rw [List.length_append, ← HM.out])
      have HO6 := Lib.hid ho6
      have HWI := Lib.hid (show WI l (kno l) 0 0 (wnP (kno l) m4 ++ pu n) from by have := WI.start (l := l); rw [HK4.out, HL.out] at this; exact this)
      have HK := Lib.hid HV4.out
      clear ho6 hg6 hDb HM HO HB
      go_wp2_with fail
      go_loopw [4, 7, 8, 34] (fun s4 s7 _ s34 wt => ∃ (i run m c9 : Nat) (a9 : Option Addr) (D : List Nat), i ≤ n ∧ s34 = .int .i64 (i : Int) ∧ s7 = .int .i64 (run : Int) ∧ s4 = .slice a9 m c9 ∧ m ≤ 3000100 + i * 20 ∧ Hid (m = D.length) ∧ Hid (∀ x ∈ D, x < 256) ∧ Hid (wt.ownsRow w4.heap.size 5 1 (.slice a9 m c9) m (bv D)) ∧ Hid (WI l (kno l) i run D) ∧ Hid (Below w4.heap.size w4 wt)) (fun _ _ _ s34 _ => n - (intOf s34).toNat)
      case atStart => exact ⟨0, 0, _, c6, a6, _, by omega, rfl, rfl, rfl, by omega, HM6, HDB, HO6, HWI, HB6⟩
      case round =>
        clear HM6 HDB HO6 HWI HB6
        obtain ⟨i, run, m, c9, a9, D, hin', rfl, rfl, rfl, hmb, HM, HD, HO, HI, HB⟩ := hrel
        rename World => wt
        by_cases hin : i < n
        · have hini : (i : Int) < (n : Int) := by omega
          have HB0 := Lib.hid (HB4.out.trans (HB.out.mono HB4.out.size))
          obtain ⟨b, off, rfl, hlb, _, hy9⟩ := (HH.out.kept HB0.out).get hin
          obtain ⟨y, hy⟩ : ∃ y, y = l.getD i ByteArray.empty := ⟨_, rfl⟩
          have hy2 : l.getD i StrS.z = y := hy.symm
          rw [hy2] at hy9
          have cy := str_cell hy9
          have HYE := Lib.hid hy
          obtain ⟨r1, hr1⟩ : ∃ r1, r1 = run + 1 := ⟨_, rfl⟩
          have hrw : IntKind.i64.wrap ((run : Int) + 1) = (r1 : Int) := by rw [IntWalk.i64_in _ (by have := HI.out.run; omega)]; omega
          have hr1b : r1 ≤ n := by have := HI.out.run; omega
          have HR1 := Lib.hid hr1
          clear hr1
          clear hy9 hy hy2
          obtain ⟨m1, hm1⟩ : ∃ m1, m1 + 1 = n := ⟨n - 1, by omega⟩
          have hm1w : IntKind.i64.wrap ((n : Int) - 1) = (m1 : Int) := by rw [IntWalk.i64_in _ (by omega)]; omega
          by_cases hil : i = m1
          · obtain rfl : i = m1 := hil
            have hie : ((i : Int) == (i : Int)) = true := by simp
            go_wp2_with fail
            refine wp_region_fill (by kernel_rfl) (by kernel_rfl) (by kernel_rfl) (Below wt.heap.size wt) (FV (fun j_9 => match j_9 with | 0 => some (.int .i64 (i : Int)) | 1 => some (.slice (some ⟨b, off, none⟩) n c) | 2 => some (.int .i64 (n : Int)) | 3 => some (.int .i64 (i : Int)) | 4 => some (.bool true) | 5 => some (.bool true) | 6 => some (undef) | 7 => some (undef) | 8 => some (undef) | 9 => some (undef) | 10 => some (undef) | 11 => some (undef) | 12 => some (undef) | 13 => some (undef) | 14 => some (undef) | 15 => some (undef) | 16 => some (.bool true) | _ => none) (fun _ _ => True)) (Below.refl _ _).drew ?_ ?_
            · intro i9 o ho V w9 K hJ hdep hK
              have HJ := Lib.hid hJ
              simp only [fill, slotOf, List.size_toArray, List.length_cons, List.length_nil, Nat.reduceAdd, List.getElem?_toArray, List.getElem?_cons_zero, List.getElem?_cons_succ, Option.bind_some, Act.put, List.setIfInBounds_toArray, List.set_cons_zero, List.set_cons_succ] at hK ⊢
              have hin : i9 < 17 := (Array.getElem?_eq_some_iff.1 ho).1
              have hcs : i9 = 0 ∨ i9 = 1 ∨ i9 = 2 ∨ i9 = 3 ∨ i9 = 4 ∨ i9 = 5 ∨ i9 = 6 ∨ i9 = 7 ∨ i9 = 8 ∨ i9 = 9 ∨ i9 = 10 ∨ i9 = 11 ∨ i9 = 12 ∨ i9 = 13 ∨ i9 = 14 ∨ i9 = 15 ∨ i9 = 16 := by omega
              clear hin
              rcases hcs with rfl | rfl | rfl | rfl | rfl | rfl | rfl | rfl | rfl | rfl | rfl | rfl | rfl | rfl | rfl | rfl | rfl
              · obtain rfl := Option.some.inj ho.symm
                clear hdep ho hJ
                try simp only [fill, slotOf, List.size_toArray, List.length_cons, List.length_nil, Nat.reduceAdd, List.getElem?_toArray, List.getElem?_cons_zero, List.getElem?_cons_succ, Option.bind_some, Act.put, List.setIfInBounds_toArray, List.set_cons_zero, List.set_cons_succ] at hK ⊢
                go_simp
                exact hK (.int .i64 (i : Int)) _ HJ.out rfl (fun j y h => h) _ rfl
              · obtain rfl := Option.some.inj ho.symm
                clear hdep ho hJ
                try simp only [fill, slotOf, List.size_toArray, List.length_cons, List.length_nil, Nat.reduceAdd, List.getElem?_toArray, List.getElem?_cons_zero, List.getElem?_cons_succ, Option.bind_some, Act.put, List.setIfInBounds_toArray, List.set_cons_zero, List.set_cons_succ] at hK ⊢
                go_simp
                exact hK (.slice (some ⟨b, off, none⟩) n c) _ HJ.out rfl (fun j y h => h) _ rfl
              · obtain rfl := Option.some.inj ho.symm
                have d1 : V 1 = .slice (some ⟨b, off, none⟩) n c := hdep ⟨1, .data⟩ (by simp) rfl
                clear hdep ho hJ
                try simp only [fill, slotOf, List.size_toArray, List.length_cons, List.length_nil, Nat.reduceAdd, List.getElem?_toArray, List.getElem?_cons_zero, List.getElem?_cons_succ, Option.bind_some, Act.put, List.setIfInBounds_toArray, List.set_cons_zero, List.set_cons_succ] at hK ⊢
                rw [d1] at hK ⊢
                go_simp
                exact hK (.int .i64 (n : Int)) _ HJ.out rfl (fun j y h => h) _ rfl
              · obtain rfl := Option.some.inj ho.symm
                have d2 : V 2 = .int .i64 (n : Int) := hdep ⟨2, .data⟩ (by simp) rfl
                have e1 := hm1w
                clear hdep ho hJ
                try simp only [fill, slotOf, List.size_toArray, List.length_cons, List.length_nil, Nat.reduceAdd, List.getElem?_toArray, List.getElem?_cons_zero, List.getElem?_cons_succ, Option.bind_some, Act.put, List.setIfInBounds_toArray, List.set_cons_zero, List.set_cons_succ] at hK ⊢
                rw [d2] at hK ⊢
                go_simp
                exact hK (.int .i64 (i : Int)) _ HJ.out rfl (fun j y h => h) _ rfl
              · obtain rfl := Option.some.inj ho.symm
                have d0 : V 0 = .int .i64 (i : Int) := hdep ⟨0, .data⟩ (by simp) rfl
                have d3 : V 3 = .int .i64 (i : Int) := hdep ⟨3, .data⟩ (by simp) rfl
                have e1 := hie
                clear hdep ho hJ
                try simp only [fill, slotOf, List.size_toArray, List.length_cons, List.length_nil, Nat.reduceAdd, List.getElem?_toArray, List.getElem?_cons_zero, List.getElem?_cons_succ, Option.bind_some, Act.put, List.setIfInBounds_toArray, List.set_cons_zero, List.set_cons_succ] at hK ⊢
                rw [d0, d3] at hK ⊢
                go_simp
                exact hK (.bool true) _ HJ.out rfl (fun j y h => h) _ rfl
              · obtain rfl := Option.some.inj ho.symm
                have d4 : V 4 = .bool true := hdep ⟨4, .data⟩ (by simp) rfl
                clear hdep ho hJ
                try simp only [fill, slotOf, List.size_toArray, List.length_cons, List.length_nil, Nat.reduceAdd, List.getElem?_toArray, List.getElem?_cons_zero, List.getElem?_cons_succ, Option.bind_some, Act.put, List.setIfInBounds_toArray, List.set_cons_zero, List.set_cons_succ] at hK ⊢
                rw [d4] at hK ⊢
                go_simp
                exact hK (.bool true) _ HJ.out rfl (fun j y h => h) _ rfl
              · obtain rfl := Option.some.inj ho.symm
                have d5 : V 5 = .bool true := hdep ⟨5, .guard⟩ (by simp) rfl
                clear hdep ho hJ
                try simp only [fill, slotOf, List.size_toArray, List.length_cons, List.length_nil, Nat.reduceAdd, List.getElem?_toArray, List.getElem?_cons_zero, List.getElem?_cons_succ, Option.bind_some, Act.put, List.setIfInBounds_toArray, List.set_cons_zero, List.set_cons_succ] at hK ⊢
                rw [d5] at hK ⊢
                go_simp
                exact hK (undef) _ HJ.out rfl (fun j y h => h) _ rfl
              · obtain rfl := Option.some.inj ho.symm
                have d5 : V 5 = .bool true := hdep ⟨5, .guard⟩ (by simp) rfl
                clear hdep ho hJ
                try simp only [fill, slotOf, List.size_toArray, List.length_cons, List.length_nil, Nat.reduceAdd, List.getElem?_toArray, List.getElem?_cons_zero, List.getElem?_cons_succ, Option.bind_some, Act.put, List.setIfInBounds_toArray, List.set_cons_zero, List.set_cons_succ] at hK ⊢
                rw [d5] at hK ⊢
                go_simp
                exact hK (undef) _ HJ.out rfl (fun j y h => h) _ rfl
              · obtain rfl := Option.some.inj ho.symm
                have d5 : V 5 = .bool true := hdep ⟨5, .guard⟩ (by simp) rfl
                clear hdep ho hJ
                try simp only [fill, slotOf, List.size_toArray, List.length_cons, List.length_nil, Nat.reduceAdd, List.getElem?_toArray, List.getElem?_cons_zero, List.getElem?_cons_succ, Option.bind_some, Act.put, List.setIfInBounds_toArray, List.set_cons_zero, List.set_cons_succ] at hK ⊢
                rw [d5] at hK ⊢
                go_simp
                exact hK (undef) _ HJ.out rfl (fun j y h => h) _ rfl
              · obtain rfl := Option.some.inj ho.symm
                have d5 : V 5 = .bool true := hdep ⟨5, .guard⟩ (by simp) rfl
                clear hdep ho hJ
                try simp only [fill, slotOf, List.size_toArray, List.length_cons, List.length_nil, Nat.reduceAdd, List.getElem?_toArray, List.getElem?_cons_zero, List.getElem?_cons_succ, Option.bind_some, Act.put, List.setIfInBounds_toArray, List.set_cons_zero, List.set_cons_succ] at hK ⊢
                rw [d5] at hK ⊢
                go_simp
                exact hK (undef) _ HJ.out rfl (fun j y h => h) _ rfl
              · obtain rfl := Option.some.inj ho.symm
                have d5 : V 5 = .bool true := hdep ⟨5, .guard⟩ (by simp) rfl
                clear hdep ho hJ
                try simp only [fill, slotOf, List.size_toArray, List.length_cons, List.length_nil, Nat.reduceAdd, List.getElem?_toArray, List.getElem?_cons_zero, List.getElem?_cons_succ, Option.bind_some, Act.put, List.setIfInBounds_toArray, List.set_cons_zero, List.set_cons_succ] at hK ⊢
                rw [d5] at hK ⊢
                go_simp
                exact hK (undef) _ HJ.out rfl (fun j y h => h) _ rfl
              · obtain rfl := Option.some.inj ho.symm
                have d5 : V 5 = .bool true := hdep ⟨5, .guard⟩ (by simp) rfl
                clear hdep ho hJ
                try simp only [fill, slotOf, List.size_toArray, List.length_cons, List.length_nil, Nat.reduceAdd, List.getElem?_toArray, List.getElem?_cons_zero, List.getElem?_cons_succ, Option.bind_some, Act.put, List.setIfInBounds_toArray, List.set_cons_zero, List.set_cons_succ] at hK ⊢
                rw [d5] at hK ⊢
                go_simp
                exact hK (undef) _ HJ.out rfl (fun j y h => h) _ rfl
              · obtain rfl := Option.some.inj ho.symm
                have d5 : V 5 = .bool true := hdep ⟨5, .guard⟩ (by simp) rfl
                clear hdep ho hJ
                try simp only [fill, slotOf, List.size_toArray, List.length_cons, List.length_nil, Nat.reduceAdd, List.getElem?_toArray, List.getElem?_cons_zero, List.getElem?_cons_succ, Option.bind_some, Act.put, List.setIfInBounds_toArray, List.set_cons_zero, List.set_cons_succ] at hK ⊢
                rw [d5] at hK ⊢
                go_simp
                exact hK (undef) _ HJ.out rfl (fun j y h => h) _ rfl
              · obtain rfl := Option.some.inj ho.symm
                have d5 : V 5 = .bool true := hdep ⟨5, .guard⟩ (by simp) rfl
                clear hdep ho hJ
                try simp only [fill, slotOf, List.size_toArray, List.length_cons, List.length_nil, Nat.reduceAdd, List.getElem?_toArray, List.getElem?_cons_zero, List.getElem?_cons_succ, Option.bind_some, Act.put, List.setIfInBounds_toArray, List.set_cons_zero, List.set_cons_succ] at hK ⊢
                rw [d5] at hK ⊢
                go_simp
                exact hK (undef) _ HJ.out rfl (fun j y h => h) _ rfl
              · obtain rfl := Option.some.inj ho.symm
                have d5 : V 5 = .bool true := hdep ⟨5, .guard⟩ (by simp) rfl
                clear hdep ho hJ
                try simp only [fill, slotOf, List.size_toArray, List.length_cons, List.length_nil, Nat.reduceAdd, List.getElem?_toArray, List.getElem?_cons_zero, List.getElem?_cons_succ, Option.bind_some, Act.put, List.setIfInBounds_toArray, List.set_cons_zero, List.set_cons_succ] at hK ⊢
                rw [d5] at hK ⊢
                go_simp
                exact hK (undef) _ HJ.out rfl (fun j y h => h) _ rfl
              · obtain rfl := Option.some.inj ho.symm
                have d5 : V 5 = .bool true := hdep ⟨5, .guard⟩ (by simp) rfl
                clear hdep ho hJ
                try simp only [fill, slotOf, List.size_toArray, List.length_cons, List.length_nil, Nat.reduceAdd, List.getElem?_toArray, List.getElem?_cons_zero, List.getElem?_cons_succ, Option.bind_some, Act.put, List.setIfInBounds_toArray, List.set_cons_zero, List.set_cons_succ] at hK ⊢
                rw [d5] at hK ⊢
                go_simp
                exact hK (undef) _ HJ.out rfl (fun j y h => h) _ rfl
              · obtain rfl := Option.some.inj ho.symm
                have d5 : V 5 = .bool true := hdep ⟨5, .data⟩ (by simp) rfl
                have d15 : V 15 = undef := hdep ⟨15, .data⟩ (by simp) rfl
                clear hdep ho hJ
                try simp only [fill, slotOf, List.size_toArray, List.length_cons, List.length_nil, Nat.reduceAdd, List.getElem?_toArray, List.getElem?_cons_zero, List.getElem?_cons_succ, Option.bind_some, Act.put, List.setIfInBounds_toArray, List.set_cons_zero, List.set_cons_succ] at hK ⊢
                rw [d5, d15] at hK ⊢
                go_simp
                exact hK (.bool true) _ HJ.out rfl (fun j y h => h) _ rfl
            · intro V w9 hJ hall
              have dL : V 16 = .bool true := hall 16 (by decide)
              have HJ9 := Lib.hid hJ
              clear hall hJ
              simp only [fill, slotOf, List.size_toArray, List.length_cons, List.length_nil, Nat.reduceAdd, List.getElem?_toArray, List.getElem?_cons_zero, List.getElem?_cons_succ, Option.bind_some, Act.put, List.setIfInBounds_toArray, List.set_cons_zero, List.set_cons_succ]
              rw [dL]
              clear dL
              have HB9 := Lib.hid (HB.out.trans (HJ9.out.mono HB.out.size))
              have HO9 := Lib.hid (own_below HO.out HJ9.out)
              have cy9 : w9.cell? ⟨b, off + i, none⟩ = some (.string y) := (HJ9.out.cell (p := ⟨b, off + i, none⟩) hlb).trans cy
              have HP := Lib.hid (rplace_any (HK.out.kept HB9.out) (((kno_facts l).2 y).2 (by rw [HYE.out]; exact vec_mem (S := StrS) (by rw [HL.out]; exact hin))))
              have hplt : plc (kno l) y ≤ 2048 := by
                have h1 : plc (kno l) y ≤ (kno l).length := List.findIdx_le_length
                have h2 := HKL.out
                omega
              have HIC := (HI.out.cut (by rw [HL.out]; exact hin) (.inl (by rw [HL.out]; omega)))
              rw [← HYE.out, ← HR1.out] at HIC
              obtain ⟨p, hp⟩ : ∃ p, p = plc (kno l) y := ⟨_, rfl⟩
              rw [← hp] at HP hplt HIC
              have HIC := Lib.hid HIC
              clear hp cy hm1w hie
              go_wp2_with fail
              refine HP.out.mono ?_
              rintro e wp ⟨rfl, hbp⟩
              have HBP := Lib.hid (HB9.out.trans (hbp.mono HB9.out.size))
              have HOP := Lib.hid (own_below HO9.out hbp)
              have HU1 := Lib.hid (rcu_any HOP.out HBP.out.size (by omega) (k := p) (by omega))
              clear hbp
              go_wp2_with fail
              refine HU1.out.mono ?_
              rintro e wu ⟨vu, rfl, hou, hgu⟩
              have HBU := Lib.hid (below_own HBP.out HOP.out hgu (Nat.le_refl _) HBP.out.size)
              have HOU := Lib.hid hou
              have h10p := pu_ten (n := p) (by omega)
              have HU2 := Lib.hid (rcu_any HOU.out HBU.out.size (by omega) (k := r1) (by omega))
              clear hou hgu
              go_wp2_with fail
              refine HU2.out.mono ?_
              rintro e wv ⟨vv, rfl, hov, hgv⟩
              have HBV := Lib.hid (below_own HBU.out HOU.out hgv (Nat.le_refl _) HBU.out.size)
              have h10r := pu_ten (n := r1) (by omega)
              have hby : ∀ x ∈ D ++ pu p ++ pu r1, x < 256 := fun x hx => by
                rcases List.mem_append.1 hx with g | g
                · rcases List.mem_append.1 g with g | g
                  · exact HD.out x g
                  · exact pu_bytes (by omega) x g
                · exact pu_bytes (by omega) x g
              obtain ⟨av, cv, rfl, _, _⟩ := BytesAt.ofOwn hov hby (by omega)
              have HOV := Lib.hid hov
              have HDV := Lib.hid hby
              have HMV := Lib.hid (show m + (pu p).length + (pu r1).length = (D ++ pu p ++ pu r1).length from by rw [List.length_append, List.length_append, ← HM.out])
              clear hov hgv hby
              go_wp2_with fail
              go_roundw
              case rel => exact ⟨i + 1, 0, _, cv, av, _, by omega, by go_num, rfl, rfl, by omega, HMV, HDV, HOV, HIC, HBV⟩
              case measure => simp [intOf]; omega
          · have hie : ((i : Int) == (m1 : Int)) = false := by rw [beq_eq_false_iff_ne]; omega
            obtain ⟨i1, hi1⟩ : ∃ i1, i1 = i + 1 := ⟨_, rfl⟩
            have HI1 := Lib.hid hi1
            have hi1w : IntKind.i64.wrap ((i : Int) + 1) = (i1 : Int) := by rw [IntWalk.i64_in _ (by omega)]; omega
            have hi1n : (i1 : Int) < (n : Int) := by omega
            have hi1m : i1 < n := by omega
            obtain ⟨b', off', hbe, _, _, hx9⟩ := (HH.out.kept HB0.out).get hi1m
            cases hbe
            obtain ⟨x, hx⟩ : ∃ x, x = l.getD i1 ByteArray.empty := ⟨_, rfl⟩
            have hx2 : l.getD i1 StrS.z = x := hx.symm
            rw [hx2] at hx9
            have cx := str_cell hx9
            have HXE := Lib.hid hx
            clear hx9 hx hx2 hi1
            by_cases hxy : x = y
            · have heq : (x.toList == y.toList) = true := by rw [hxy]; simp
              have HXY := Lib.hid hxy
              clear hxy
              go_wp2_with fail
              refine wp_region_fill (by kernel_rfl) (by kernel_rfl) (by kernel_rfl) (Below wt.heap.size wt) (FV (fun j_9 => match j_9 with | 0 => some (.int .i64 (i : Int)) | 1 => some (.slice (some ⟨b, off, none⟩) n c) | 2 => some (.int .i64 (n : Int)) | 3 => some (.int .i64 (m1 : Int)) | 4 => some (.bool false) | 5 => some (.bool false) | 6 => some (.slice (some ⟨b, off, none⟩) n c) | 7 => some (.int .i64 (i : Int)) | 8 => some (.int .i64 (i1 : Int)) | 9 => some (.pointer (some ⟨b, off + i1, none⟩)) | 10 => some (.string x) | 11 => some (.slice (some ⟨b, off, none⟩) n c) | 12 => some (.int .i64 (i : Int)) | 13 => some (.pointer (some ⟨b, off + i, none⟩)) | 14 => some (.string y) | 15 => some (.bool false) | 16 => some (.bool false) | _ => none) (fun _ _ => True)) (Below.refl _ _).drew ?_ ?_
              · intro i9 o ho V w9 K hJ hdep hK
                have HJ := Lib.hid hJ
                simp only [fill, slotOf, List.size_toArray, List.length_cons, List.length_nil, Nat.reduceAdd, List.getElem?_toArray, List.getElem?_cons_zero, List.getElem?_cons_succ, Option.bind_some, Act.put, List.setIfInBounds_toArray, List.set_cons_zero, List.set_cons_succ] at hK ⊢
                have hin : i9 < 17 := (Array.getElem?_eq_some_iff.1 ho).1
                have hcs : i9 = 0 ∨ i9 = 1 ∨ i9 = 2 ∨ i9 = 3 ∨ i9 = 4 ∨ i9 = 5 ∨ i9 = 6 ∨ i9 = 7 ∨ i9 = 8 ∨ i9 = 9 ∨ i9 = 10 ∨ i9 = 11 ∨ i9 = 12 ∨ i9 = 13 ∨ i9 = 14 ∨ i9 = 15 ∨ i9 = 16 := by omega
                clear hin
                rcases hcs with rfl | rfl | rfl | rfl | rfl | rfl | rfl | rfl | rfl | rfl | rfl | rfl | rfl | rfl | rfl | rfl | rfl
                · obtain rfl := Option.some.inj ho.symm
                  clear hdep ho hJ
                  try simp only [fill, slotOf, List.size_toArray, List.length_cons, List.length_nil, Nat.reduceAdd, List.getElem?_toArray, List.getElem?_cons_zero, List.getElem?_cons_succ, Option.bind_some, Act.put, List.setIfInBounds_toArray, List.set_cons_zero, List.set_cons_succ] at hK ⊢
                  go_simp
                  exact hK (.int .i64 (i : Int)) _ HJ.out rfl (fun j y h => h) _ rfl
                · obtain rfl := Option.some.inj ho.symm
                  clear hdep ho hJ
                  try simp only [fill, slotOf, List.size_toArray, List.length_cons, List.length_nil, Nat.reduceAdd, List.getElem?_toArray, List.getElem?_cons_zero, List.getElem?_cons_succ, Option.bind_some, Act.put, List.setIfInBounds_toArray, List.set_cons_zero, List.set_cons_succ] at hK ⊢
                  go_simp
                  exact hK (.slice (some ⟨b, off, none⟩) n c) _ HJ.out rfl (fun j y h => h) _ rfl
                · obtain rfl := Option.some.inj ho.symm
                  have d1 : V 1 = .slice (some ⟨b, off, none⟩) n c := hdep ⟨1, .data⟩ (by simp) rfl
                  clear hdep ho hJ
                  try simp only [fill, slotOf, List.size_toArray, List.length_cons, List.length_nil, Nat.reduceAdd, List.getElem?_toArray, List.getElem?_cons_zero, List.getElem?_cons_succ, Option.bind_some, Act.put, List.setIfInBounds_toArray, List.set_cons_zero, List.set_cons_succ] at hK ⊢
                  rw [d1] at hK ⊢
                  go_simp
                  exact hK (.int .i64 (n : Int)) _ HJ.out rfl (fun j y h => h) _ rfl
                · obtain rfl := Option.some.inj ho.symm
                  have d2 : V 2 = .int .i64 (n : Int) := hdep ⟨2, .data⟩ (by simp) rfl
                  have e1 := hm1w
                  clear hdep ho hJ
                  try simp only [fill, slotOf, List.size_toArray, List.length_cons, List.length_nil, Nat.reduceAdd, List.getElem?_toArray, List.getElem?_cons_zero, List.getElem?_cons_succ, Option.bind_some, Act.put, List.setIfInBounds_toArray, List.set_cons_zero, List.set_cons_succ] at hK ⊢
                  rw [d2] at hK ⊢
                  go_simp
                  exact hK (.int .i64 (m1 : Int)) _ HJ.out rfl (fun j y h => h) _ rfl
                · obtain rfl := Option.some.inj ho.symm
                  have d0 : V 0 = .int .i64 (i : Int) := hdep ⟨0, .data⟩ (by simp) rfl
                  have d3 : V 3 = .int .i64 (m1 : Int) := hdep ⟨3, .data⟩ (by simp) rfl
                  have e1 := hie
                  clear hdep ho hJ
                  try simp only [fill, slotOf, List.size_toArray, List.length_cons, List.length_nil, Nat.reduceAdd, List.getElem?_toArray, List.getElem?_cons_zero, List.getElem?_cons_succ, Option.bind_some, Act.put, List.setIfInBounds_toArray, List.set_cons_zero, List.set_cons_succ] at hK ⊢
                  rw [d0, d3] at hK ⊢
                  go_simp
                  exact hK (.bool false) _ HJ.out rfl (fun j y h => h) _ rfl
                · obtain rfl := Option.some.inj ho.symm
                  have d4 : V 4 = .bool false := hdep ⟨4, .data⟩ (by simp) rfl
                  clear hdep ho hJ
                  try simp only [fill, slotOf, List.size_toArray, List.length_cons, List.length_nil, Nat.reduceAdd, List.getElem?_toArray, List.getElem?_cons_zero, List.getElem?_cons_succ, Option.bind_some, Act.put, List.setIfInBounds_toArray, List.set_cons_zero, List.set_cons_succ] at hK ⊢
                  rw [d4] at hK ⊢
                  go_simp
                  exact hK (.bool false) _ HJ.out rfl (fun j y h => h) _ rfl
                · obtain rfl := Option.some.inj ho.symm
                  have d5 : V 5 = .bool false := hdep ⟨5, .guard⟩ (by simp) rfl
                  clear hdep ho hJ
                  try simp only [fill, slotOf, List.size_toArray, List.length_cons, List.length_nil, Nat.reduceAdd, List.getElem?_toArray, List.getElem?_cons_zero, List.getElem?_cons_succ, Option.bind_some, Act.put, List.setIfInBounds_toArray, List.set_cons_zero, List.set_cons_succ] at hK ⊢
                  rw [d5] at hK ⊢
                  go_simp
                  exact hK (.slice (some ⟨b, off, none⟩) n c) _ HJ.out rfl (fun j y h => h) _ rfl
                · obtain rfl := Option.some.inj ho.symm
                  have d5 : V 5 = .bool false := hdep ⟨5, .guard⟩ (by simp) rfl
                  clear hdep ho hJ
                  try simp only [fill, slotOf, List.size_toArray, List.length_cons, List.length_nil, Nat.reduceAdd, List.getElem?_toArray, List.getElem?_cons_zero, List.getElem?_cons_succ, Option.bind_some, Act.put, List.setIfInBounds_toArray, List.set_cons_zero, List.set_cons_succ] at hK ⊢
                  rw [d5] at hK ⊢
                  go_simp
                  exact hK (.int .i64 (i : Int)) _ HJ.out rfl (fun j y h => h) _ rfl
                · obtain rfl := Option.some.inj ho.symm
                  have d7 : V 7 = .int .i64 (i : Int) := hdep ⟨7, .data⟩ (by simp) rfl
                  have d5 : V 5 = .bool false := hdep ⟨5, .guard⟩ (by simp) rfl
                  have e1 := hi1w
                  clear hdep ho hJ
                  try simp only [fill, slotOf, List.size_toArray, List.length_cons, List.length_nil, Nat.reduceAdd, List.getElem?_toArray, List.getElem?_cons_zero, List.getElem?_cons_succ, Option.bind_some, Act.put, List.setIfInBounds_toArray, List.set_cons_zero, List.set_cons_succ] at hK ⊢
                  rw [d7, d5] at hK ⊢
                  go_simp
                  exact hK (.int .i64 (i1 : Int)) _ HJ.out rfl (fun j y h => h) _ rfl
                · obtain rfl := Option.some.inj ho.symm
                  have d6 : V 6 = .slice (some ⟨b, off, none⟩) n c := hdep ⟨6, .data⟩ (by simp) rfl
                  have d8 : V 8 = .int .i64 (i1 : Int) := hdep ⟨8, .data⟩ (by simp) rfl
                  have d5 : V 5 = .bool false := hdep ⟨5, .guard⟩ (by simp) rfl
                  clear hdep ho hJ
                  try simp only [fill, slotOf, List.size_toArray, List.length_cons, List.length_nil, Nat.reduceAdd, List.getElem?_toArray, List.getElem?_cons_zero, List.getElem?_cons_succ, Option.bind_some, Act.put, List.setIfInBounds_toArray, List.set_cons_zero, List.set_cons_succ] at hK ⊢
                  rw [d6, d8, d5] at hK ⊢
                  go_simp
                  exact hK (.pointer (some ⟨b, off + i1, none⟩)) _ HJ.out rfl (fun j y h => h) _ rfl
                · obtain rfl := Option.some.inj ho.symm
                  have d9 : V 9 = .pointer (some ⟨b, off + i1, none⟩) := hdep ⟨9, .data⟩ (by simp) rfl
                  have d5 : V 5 = .bool false := hdep ⟨5, .guard⟩ (by simp) rfl
                  have e1 : w9.cell? ⟨b, off + i1, none⟩ = some (.string x) := (hJ.cell (p := ⟨b, off + i1, none⟩) hlb).trans cx
                  clear hdep ho hJ
                  try simp only [fill, slotOf, List.size_toArray, List.length_cons, List.length_nil, Nat.reduceAdd, List.getElem?_toArray, List.getElem?_cons_zero, List.getElem?_cons_succ, Option.bind_some, Act.put, List.setIfInBounds_toArray, List.set_cons_zero, List.set_cons_succ] at hK ⊢
                  rw [d9, d5] at hK ⊢
                  go_simp
                  exact hK (.string x) _ HJ.out rfl (fun j y h => h) _ rfl
                · obtain rfl := Option.some.inj ho.symm
                  have d5 : V 5 = .bool false := hdep ⟨5, .guard⟩ (by simp) rfl
                  clear hdep ho hJ
                  try simp only [fill, slotOf, List.size_toArray, List.length_cons, List.length_nil, Nat.reduceAdd, List.getElem?_toArray, List.getElem?_cons_zero, List.getElem?_cons_succ, Option.bind_some, Act.put, List.setIfInBounds_toArray, List.set_cons_zero, List.set_cons_succ] at hK ⊢
                  rw [d5] at hK ⊢
                  go_simp
                  exact hK (.slice (some ⟨b, off, none⟩) n c) _ HJ.out rfl (fun j y h => h) _ rfl
                · obtain rfl := Option.some.inj ho.symm
                  have d5 : V 5 = .bool false := hdep ⟨5, .guard⟩ (by simp) rfl
                  clear hdep ho hJ
                  try simp only [fill, slotOf, List.size_toArray, List.length_cons, List.length_nil, Nat.reduceAdd, List.getElem?_toArray, List.getElem?_cons_zero, List.getElem?_cons_succ, Option.bind_some, Act.put, List.setIfInBounds_toArray, List.set_cons_zero, List.set_cons_succ] at hK ⊢
                  rw [d5] at hK ⊢
                  go_simp
                  exact hK (.int .i64 (i : Int)) _ HJ.out rfl (fun j y h => h) _ rfl
                · obtain rfl := Option.some.inj ho.symm
                  have d11 : V 11 = .slice (some ⟨b, off, none⟩) n c := hdep ⟨11, .data⟩ (by simp) rfl
                  have d12 : V 12 = .int .i64 (i : Int) := hdep ⟨12, .data⟩ (by simp) rfl
                  have d5 : V 5 = .bool false := hdep ⟨5, .guard⟩ (by simp) rfl
                  clear hdep ho hJ
                  try simp only [fill, slotOf, List.size_toArray, List.length_cons, List.length_nil, Nat.reduceAdd, List.getElem?_toArray, List.getElem?_cons_zero, List.getElem?_cons_succ, Option.bind_some, Act.put, List.setIfInBounds_toArray, List.set_cons_zero, List.set_cons_succ] at hK ⊢
                  rw [d11, d12, d5] at hK ⊢
                  go_simp
                  exact hK (.pointer (some ⟨b, off + i, none⟩)) _ HJ.out rfl (fun j y h => h) _ rfl
                · obtain rfl := Option.some.inj ho.symm
                  have d13 : V 13 = .pointer (some ⟨b, off + i, none⟩) := hdep ⟨13, .data⟩ (by simp) rfl
                  have d5 : V 5 = .bool false := hdep ⟨5, .guard⟩ (by simp) rfl
                  have e1 : w9.cell? ⟨b, off + i, none⟩ = some (.string y) := (hJ.cell (p := ⟨b, off + i, none⟩) hlb).trans cy
                  clear hdep ho hJ
                  try simp only [fill, slotOf, List.size_toArray, List.length_cons, List.length_nil, Nat.reduceAdd, List.getElem?_toArray, List.getElem?_cons_zero, List.getElem?_cons_succ, Option.bind_some, Act.put, List.setIfInBounds_toArray, List.set_cons_zero, List.set_cons_succ] at hK ⊢
                  rw [d13, d5] at hK ⊢
                  go_simp
                  exact hK (.string y) _ HJ.out rfl (fun j y h => h) _ rfl
                · obtain rfl := Option.some.inj ho.symm
                  have d10 : V 10 = .string x := hdep ⟨10, .data⟩ (by simp) rfl
                  have d14 : V 14 = .string y := hdep ⟨14, .data⟩ (by simp) rfl
                  have d5 : V 5 = .bool false := hdep ⟨5, .guard⟩ (by simp) rfl
                  have e2 := heq
                  clear hdep ho hJ
                  try simp only [fill, slotOf, List.size_toArray, List.length_cons, List.length_nil, Nat.reduceAdd, List.getElem?_toArray, List.getElem?_cons_zero, List.getElem?_cons_succ, Option.bind_some, Act.put, List.setIfInBounds_toArray, List.set_cons_zero, List.set_cons_succ] at hK ⊢
                  rw [d10, d14, d5] at hK ⊢
                  go_simp
                  exact hK (.bool false) _ HJ.out rfl (fun j y h => h) _ rfl
                · obtain rfl := Option.some.inj ho.symm
                  have d5 : V 5 = .bool false := hdep ⟨5, .data⟩ (by simp) rfl
                  have d15 : V 15 = .bool false := hdep ⟨15, .data⟩ (by simp) rfl
                  clear hdep ho hJ
                  try simp only [fill, slotOf, List.size_toArray, List.length_cons, List.length_nil, Nat.reduceAdd, List.getElem?_toArray, List.getElem?_cons_zero, List.getElem?_cons_succ, Option.bind_some, Act.put, List.setIfInBounds_toArray, List.set_cons_zero, List.set_cons_succ] at hK ⊢
                  rw [d5, d15] at hK ⊢
                  go_simp
                  exact hK (.bool false) _ HJ.out rfl (fun j y h => h) _ rfl
              · intro V w9 hJ hall
                have dL : V 16 = .bool false := hall 16 (by decide)
                have HJ9 := Lib.hid hJ
                clear hall hJ
                simp only [fill, slotOf, List.size_toArray, List.length_cons, List.length_nil, Nat.reduceAdd, List.getElem?_toArray, List.getElem?_cons_zero, List.getElem?_cons_succ, Option.bind_some, Act.put, List.setIfInBounds_toArray, List.set_cons_zero, List.set_cons_succ]
                rw [dL]
                clear dL
                have HB9 := Lib.hid (HB.out.trans (HJ9.out.mono HB.out.size))
                have HO9 := Lib.hid (own_below HO.out HJ9.out)
                have HI9 := Lib.hid (show WI l (kno l) (i + 1) r1 D from by rw [HR1.out]; exact HI.out.stay (by rw [HL.out]; omega) (by rw [← HI1.out, ← HXE.out, ← HYE.out]; exact HXY.out))
                clear hi1w
                go_wp2_with fail
                go_roundw
                case rel => exact ⟨i + 1, r1, m, c9, a9, D, by omega, by go_num, rfl, rfl, by omega, HM, HD, HO9, HI9, HB9⟩
                case measure => simp [intOf]; omega
            · have heq := txt_ne hxy
              go_wp2_with fail
              refine wp_region_fill (by kernel_rfl) (by kernel_rfl) (by kernel_rfl) (Below wt.heap.size wt) (FV (fun j_9 => match j_9 with | 0 => some (.int .i64 (i : Int)) | 1 => some (.slice (some ⟨b, off, none⟩) n c) | 2 => some (.int .i64 (n : Int)) | 3 => some (.int .i64 (m1 : Int)) | 4 => some (.bool false) | 5 => some (.bool false) | 6 => some (.slice (some ⟨b, off, none⟩) n c) | 7 => some (.int .i64 (i : Int)) | 8 => some (.int .i64 (i1 : Int)) | 9 => some (.pointer (some ⟨b, off + i1, none⟩)) | 10 => some (.string x) | 11 => some (.slice (some ⟨b, off, none⟩) n c) | 12 => some (.int .i64 (i : Int)) | 13 => some (.pointer (some ⟨b, off + i, none⟩)) | 14 => some (.string y) | 15 => some (.bool true) | 16 => some (.bool true) | _ => none) (fun _ _ => True)) (Below.refl _ _).drew ?_ ?_
              · intro i9 o ho V w9 K hJ hdep hK
                have HJ := Lib.hid hJ
                simp only [fill, slotOf, List.size_toArray, List.length_cons, List.length_nil, Nat.reduceAdd, List.getElem?_toArray, List.getElem?_cons_zero, List.getElem?_cons_succ, Option.bind_some, Act.put, List.setIfInBounds_toArray, List.set_cons_zero, List.set_cons_succ] at hK ⊢
                have hin : i9 < 17 := (Array.getElem?_eq_some_iff.1 ho).1
                have hcs : i9 = 0 ∨ i9 = 1 ∨ i9 = 2 ∨ i9 = 3 ∨ i9 = 4 ∨ i9 = 5 ∨ i9 = 6 ∨ i9 = 7 ∨ i9 = 8 ∨ i9 = 9 ∨ i9 = 10 ∨ i9 = 11 ∨ i9 = 12 ∨ i9 = 13 ∨ i9 = 14 ∨ i9 = 15 ∨ i9 = 16 := by omega
                clear hin
                rcases hcs with rfl | rfl | rfl | rfl | rfl | rfl | rfl | rfl | rfl | rfl | rfl | rfl | rfl | rfl | rfl | rfl | rfl
                · obtain rfl := Option.some.inj ho.symm
                  clear hdep ho hJ
                  try simp only [fill, slotOf, List.size_toArray, List.length_cons, List.length_nil, Nat.reduceAdd, List.getElem?_toArray, List.getElem?_cons_zero, List.getElem?_cons_succ, Option.bind_some, Act.put, List.setIfInBounds_toArray, List.set_cons_zero, List.set_cons_succ] at hK ⊢
                  go_simp
                  exact hK (.int .i64 (i : Int)) _ HJ.out rfl (fun j y h => h) _ rfl
                · obtain rfl := Option.some.inj ho.symm
                  clear hdep ho hJ
                  try simp only [fill, slotOf, List.size_toArray, List.length_cons, List.length_nil, Nat.reduceAdd, List.getElem?_toArray, List.getElem?_cons_zero, List.getElem?_cons_succ, Option.bind_some, Act.put, List.setIfInBounds_toArray, List.set_cons_zero, List.set_cons_succ] at hK ⊢
                  go_simp
                  exact hK (.slice (some ⟨b, off, none⟩) n c) _ HJ.out rfl (fun j y h => h) _ rfl
                · obtain rfl := Option.some.inj ho.symm
                  have d1 : V 1 = .slice (some ⟨b, off, none⟩) n c := hdep ⟨1, .data⟩ (by simp) rfl
                  clear hdep ho hJ
                  try simp only [fill, slotOf, List.size_toArray, List.length_cons, List.length_nil, Nat.reduceAdd, List.getElem?_toArray, List.getElem?_cons_zero, List.getElem?_cons_succ, Option.bind_some, Act.put, List.setIfInBounds_toArray, List.set_cons_zero, List.set_cons_succ] at hK ⊢
                  rw [d1] at hK ⊢
                  go_simp
                  exact hK (.int .i64 (n : Int)) _ HJ.out rfl (fun j y h => h) _ rfl
                · obtain rfl := Option.some.inj ho.symm
                  have d2 : V 2 = .int .i64 (n : Int) := hdep ⟨2, .data⟩ (by simp) rfl
                  have e1 := hm1w
                  clear hdep ho hJ
                  try simp only [fill, slotOf, List.size_toArray, List.length_cons, List.length_nil, Nat.reduceAdd, List.getElem?_toArray, List.getElem?_cons_zero, List.getElem?_cons_succ, Option.bind_some, Act.put, List.setIfInBounds_toArray, List.set_cons_zero, List.set_cons_succ] at hK ⊢
                  rw [d2] at hK ⊢
                  go_simp
                  exact hK (.int .i64 (m1 : Int)) _ HJ.out rfl (fun j y h => h) _ rfl
                · obtain rfl := Option.some.inj ho.symm
                  have d0 : V 0 = .int .i64 (i : Int) := hdep ⟨0, .data⟩ (by simp) rfl
                  have d3 : V 3 = .int .i64 (m1 : Int) := hdep ⟨3, .data⟩ (by simp) rfl
                  have e1 := hie
                  clear hdep ho hJ
                  try simp only [fill, slotOf, List.size_toArray, List.length_cons, List.length_nil, Nat.reduceAdd, List.getElem?_toArray, List.getElem?_cons_zero, List.getElem?_cons_succ, Option.bind_some, Act.put, List.setIfInBounds_toArray, List.set_cons_zero, List.set_cons_succ] at hK ⊢
                  rw [d0, d3] at hK ⊢
                  go_simp
                  exact hK (.bool false) _ HJ.out rfl (fun j y h => h) _ rfl
                · obtain rfl := Option.some.inj ho.symm
                  have d4 : V 4 = .bool false := hdep ⟨4, .data⟩ (by simp) rfl
                  clear hdep ho hJ
                  try simp only [fill, slotOf, List.size_toArray, List.length_cons, List.length_nil, Nat.reduceAdd, List.getElem?_toArray, List.getElem?_cons_zero, List.getElem?_cons_succ, Option.bind_some, Act.put, List.setIfInBounds_toArray, List.set_cons_zero, List.set_cons_succ] at hK ⊢
                  rw [d4] at hK ⊢
                  go_simp
                  exact hK (.bool false) _ HJ.out rfl (fun j y h => h) _ rfl
                · obtain rfl := Option.some.inj ho.symm
                  have d5 : V 5 = .bool false := hdep ⟨5, .guard⟩ (by simp) rfl
                  clear hdep ho hJ
                  try simp only [fill, slotOf, List.size_toArray, List.length_cons, List.length_nil, Nat.reduceAdd, List.getElem?_toArray, List.getElem?_cons_zero, List.getElem?_cons_succ, Option.bind_some, Act.put, List.setIfInBounds_toArray, List.set_cons_zero, List.set_cons_succ] at hK ⊢
                  rw [d5] at hK ⊢
                  go_simp
                  exact hK (.slice (some ⟨b, off, none⟩) n c) _ HJ.out rfl (fun j y h => h) _ rfl
                · obtain rfl := Option.some.inj ho.symm
                  have d5 : V 5 = .bool false := hdep ⟨5, .guard⟩ (by simp) rfl
                  clear hdep ho hJ
                  try simp only [fill, slotOf, List.size_toArray, List.length_cons, List.length_nil, Nat.reduceAdd, List.getElem?_toArray, List.getElem?_cons_zero, List.getElem?_cons_succ, Option.bind_some, Act.put, List.setIfInBounds_toArray, List.set_cons_zero, List.set_cons_succ] at hK ⊢
                  rw [d5] at hK ⊢
                  go_simp
                  exact hK (.int .i64 (i : Int)) _ HJ.out rfl (fun j y h => h) _ rfl
                · obtain rfl := Option.some.inj ho.symm
                  have d7 : V 7 = .int .i64 (i : Int) := hdep ⟨7, .data⟩ (by simp) rfl
                  have d5 : V 5 = .bool false := hdep ⟨5, .guard⟩ (by simp) rfl
                  have e1 := hi1w
                  clear hdep ho hJ
                  try simp only [fill, slotOf, List.size_toArray, List.length_cons, List.length_nil, Nat.reduceAdd, List.getElem?_toArray, List.getElem?_cons_zero, List.getElem?_cons_succ, Option.bind_some, Act.put, List.setIfInBounds_toArray, List.set_cons_zero, List.set_cons_succ] at hK ⊢
                  rw [d7, d5] at hK ⊢
                  go_simp
                  exact hK (.int .i64 (i1 : Int)) _ HJ.out rfl (fun j y h => h) _ rfl
                · obtain rfl := Option.some.inj ho.symm
                  have d6 : V 6 = .slice (some ⟨b, off, none⟩) n c := hdep ⟨6, .data⟩ (by simp) rfl
                  have d8 : V 8 = .int .i64 (i1 : Int) := hdep ⟨8, .data⟩ (by simp) rfl
                  have d5 : V 5 = .bool false := hdep ⟨5, .guard⟩ (by simp) rfl
                  clear hdep ho hJ
                  try simp only [fill, slotOf, List.size_toArray, List.length_cons, List.length_nil, Nat.reduceAdd, List.getElem?_toArray, List.getElem?_cons_zero, List.getElem?_cons_succ, Option.bind_some, Act.put, List.setIfInBounds_toArray, List.set_cons_zero, List.set_cons_succ] at hK ⊢
                  rw [d6, d8, d5] at hK ⊢
                  go_simp
                  exact hK (.pointer (some ⟨b, off + i1, none⟩)) _ HJ.out rfl (fun j y h => h) _ rfl
                · obtain rfl := Option.some.inj ho.symm
                  have d9 : V 9 = .pointer (some ⟨b, off + i1, none⟩) := hdep ⟨9, .data⟩ (by simp) rfl
                  have d5 : V 5 = .bool false := hdep ⟨5, .guard⟩ (by simp) rfl
                  have e1 : w9.cell? ⟨b, off + i1, none⟩ = some (.string x) := (hJ.cell (p := ⟨b, off + i1, none⟩) hlb).trans cx
                  clear hdep ho hJ
                  try simp only [fill, slotOf, List.size_toArray, List.length_cons, List.length_nil, Nat.reduceAdd, List.getElem?_toArray, List.getElem?_cons_zero, List.getElem?_cons_succ, Option.bind_some, Act.put, List.setIfInBounds_toArray, List.set_cons_zero, List.set_cons_succ] at hK ⊢
                  rw [d9, d5] at hK ⊢
                  go_simp
                  exact hK (.string x) _ HJ.out rfl (fun j y h => h) _ rfl
                · obtain rfl := Option.some.inj ho.symm
                  have d5 : V 5 = .bool false := hdep ⟨5, .guard⟩ (by simp) rfl
                  clear hdep ho hJ
                  try simp only [fill, slotOf, List.size_toArray, List.length_cons, List.length_nil, Nat.reduceAdd, List.getElem?_toArray, List.getElem?_cons_zero, List.getElem?_cons_succ, Option.bind_some, Act.put, List.setIfInBounds_toArray, List.set_cons_zero, List.set_cons_succ] at hK ⊢
                  rw [d5] at hK ⊢
                  go_simp
                  exact hK (.slice (some ⟨b, off, none⟩) n c) _ HJ.out rfl (fun j y h => h) _ rfl
                · obtain rfl := Option.some.inj ho.symm
                  have d5 : V 5 = .bool false := hdep ⟨5, .guard⟩ (by simp) rfl
                  clear hdep ho hJ
                  try simp only [fill, slotOf, List.size_toArray, List.length_cons, List.length_nil, Nat.reduceAdd, List.getElem?_toArray, List.getElem?_cons_zero, List.getElem?_cons_succ, Option.bind_some, Act.put, List.setIfInBounds_toArray, List.set_cons_zero, List.set_cons_succ] at hK ⊢
                  rw [d5] at hK ⊢
                  go_simp
                  exact hK (.int .i64 (i : Int)) _ HJ.out rfl (fun j y h => h) _ rfl
                · obtain rfl := Option.some.inj ho.symm
                  have d11 : V 11 = .slice (some ⟨b, off, none⟩) n c := hdep ⟨11, .data⟩ (by simp) rfl
                  have d12 : V 12 = .int .i64 (i : Int) := hdep ⟨12, .data⟩ (by simp) rfl
                  have d5 : V 5 = .bool false := hdep ⟨5, .guard⟩ (by simp) rfl
                  clear hdep ho hJ
                  try simp only [fill, slotOf, List.size_toArray, List.length_cons, List.length_nil, Nat.reduceAdd, List.getElem?_toArray, List.getElem?_cons_zero, List.getElem?_cons_succ, Option.bind_some, Act.put, List.setIfInBounds_toArray, List.set_cons_zero, List.set_cons_succ] at hK ⊢
                  rw [d11, d12, d5] at hK ⊢
                  go_simp
                  exact hK (.pointer (some ⟨b, off + i, none⟩)) _ HJ.out rfl (fun j y h => h) _ rfl
                · obtain rfl := Option.some.inj ho.symm
                  have d13 : V 13 = .pointer (some ⟨b, off + i, none⟩) := hdep ⟨13, .data⟩ (by simp) rfl
                  have d5 : V 5 = .bool false := hdep ⟨5, .guard⟩ (by simp) rfl
                  have e1 : w9.cell? ⟨b, off + i, none⟩ = some (.string y) := (hJ.cell (p := ⟨b, off + i, none⟩) hlb).trans cy
                  clear hdep ho hJ
                  try simp only [fill, slotOf, List.size_toArray, List.length_cons, List.length_nil, Nat.reduceAdd, List.getElem?_toArray, List.getElem?_cons_zero, List.getElem?_cons_succ, Option.bind_some, Act.put, List.setIfInBounds_toArray, List.set_cons_zero, List.set_cons_succ] at hK ⊢
                  rw [d13, d5] at hK ⊢
                  go_simp
                  exact hK (.string y) _ HJ.out rfl (fun j y h => h) _ rfl
                · obtain rfl := Option.some.inj ho.symm
                  have d10 : V 10 = .string x := hdep ⟨10, .data⟩ (by simp) rfl
                  have d14 : V 14 = .string y := hdep ⟨14, .data⟩ (by simp) rfl
                  have d5 : V 5 = .bool false := hdep ⟨5, .guard⟩ (by simp) rfl
                  have e2 := heq
                  clear hdep ho hJ
                  try simp only [fill, slotOf, List.size_toArray, List.length_cons, List.length_nil, Nat.reduceAdd, List.getElem?_toArray, List.getElem?_cons_zero, List.getElem?_cons_succ, Option.bind_some, Act.put, List.setIfInBounds_toArray, List.set_cons_zero, List.set_cons_succ] at hK ⊢
                  rw [d10, d14, d5] at hK ⊢
                  go_simp
                  exact hK (.bool true) _ HJ.out rfl (fun j y h => h) _ rfl
                · obtain rfl := Option.some.inj ho.symm
                  have d5 : V 5 = .bool false := hdep ⟨5, .data⟩ (by simp) rfl
                  have d15 : V 15 = .bool true := hdep ⟨15, .data⟩ (by simp) rfl
                  clear hdep ho hJ
                  try simp only [fill, slotOf, List.size_toArray, List.length_cons, List.length_nil, Nat.reduceAdd, List.getElem?_toArray, List.getElem?_cons_zero, List.getElem?_cons_succ, Option.bind_some, Act.put, List.setIfInBounds_toArray, List.set_cons_zero, List.set_cons_succ] at hK ⊢
                  rw [d5, d15] at hK ⊢
                  go_simp
                  exact hK (.bool true) _ HJ.out rfl (fun j y h => h) _ rfl
              · intro V w9 hJ hall
                have dL : V 16 = .bool true := hall 16 (by decide)
                have HJ9 := Lib.hid hJ
                clear hall hJ
                simp only [fill, slotOf, List.size_toArray, List.length_cons, List.length_nil, Nat.reduceAdd, List.getElem?_toArray, List.getElem?_cons_zero, List.getElem?_cons_succ, Option.bind_some, Act.put, List.setIfInBounds_toArray, List.set_cons_zero, List.set_cons_succ]
                rw [dL]
                clear dL
                have HB9 := Lib.hid (HB.out.trans (HJ9.out.mono HB.out.size))
                have HO9 := Lib.hid (own_below HO.out HJ9.out)
                have cy9 : w9.cell? ⟨b, off + i, none⟩ = some (.string y) := (HJ9.out.cell (p := ⟨b, off + i, none⟩) hlb).trans cy
                have HP := Lib.hid (rplace_any (HK.out.kept HB9.out) (((kno_facts l).2 y).2 (by rw [HYE.out]; exact vec_mem (S := StrS) (by rw [HL.out]; exact hin))))
                have hplt : plc (kno l) y ≤ 2048 := by
                  have h1 : plc (kno l) y ≤ (kno l).length := List.findIdx_le_length
                  have h2 := HKL.out
                  omega
                have HIC := (HI.out.cut (by rw [HL.out]; exact hin) (.inr (by rw [← HI1.out, ← HXE.out, ← HYE.out]; exact hxy)))
                rw [← HYE.out, ← HR1.out] at HIC
                obtain ⟨p, hp⟩ : ∃ p, p = plc (kno l) y := ⟨_, rfl⟩
                rw [← hp] at HP hplt HIC
                have HIC := Lib.hid HIC
                clear hp cy cx hm1w hie hi1w heq
                go_wp2_with fail
                refine HP.out.mono ?_
                rintro e wp ⟨rfl, hbp⟩
                have HBP := Lib.hid (HB9.out.trans (hbp.mono HB9.out.size))
                have HOP := Lib.hid (own_below HO9.out hbp)
                have HU1 := Lib.hid (rcu_any HOP.out HBP.out.size (by omega) (k := p) (by omega))
                clear hbp
                go_wp2_with fail
                refine HU1.out.mono ?_
                rintro e wu ⟨vu, rfl, hou, hgu⟩
                have HBU := Lib.hid (below_own HBP.out HOP.out hgu (Nat.le_refl _) HBP.out.size)
                have HOU := Lib.hid hou
                have h10p := pu_ten (n := p) (by omega)
                have HU2 := Lib.hid (rcu_any HOU.out HBU.out.size (by omega) (k := r1) (by omega))
                clear hou hgu
                go_wp2_with fail
                refine HU2.out.mono ?_
                rintro e wv ⟨vv, rfl, hov, hgv⟩
                have HBV := Lib.hid (below_own HBU.out HOU.out hgv (Nat.le_refl _) HBU.out.size)
                have h10r := pu_ten (n := r1) (by omega)
                have hby : ∀ x ∈ D ++ pu p ++ pu r1, x < 256 := fun x hx => by
                  rcases List.mem_append.1 hx with g | g
                  · rcases List.mem_append.1 g with g | g
                    · exact HD.out x g
                    · exact pu_bytes (by omega) x g
                  · exact pu_bytes (by omega) x g
                obtain ⟨av, cv, rfl, _, _⟩ := BytesAt.ofOwn hov hby (by omega)
                have HOV := Lib.hid hov
                have HDV := Lib.hid hby
                have HMV := Lib.hid (show m + (pu p).length + (pu r1).length = (D ++ pu p ++ pu r1).length from by rw [List.length_append, List.length_append, ← HM.out])
                clear hov hgv hby
                go_wp2_with fail
                go_roundw
                case rel => exact ⟨i + 1, 0, _, cv, av, _, by omega, by go_num, rfl, rfl, by omega, HMV, HDV, HOV, HIC, HBV⟩
                case measure => simp [intOf]; omega
        · obtain rfl : n = i := by omega
          have HWD := Lib.hid (show wordsC l = D from HI.out.done' HL.out)
          have HOE := Lib.hid (own_lower HO.out HB4.out.size)
          have HBE := Lib.hid (HB4.out.trans (HB.out.mono HB4.out.size))
          clear hin
          go_wp2_with fail
          go_ret
          refine ⟨_, rfl, ?_, HBE.out⟩
          rw [HWD.out, ← HM.out]
          exact HOE.out
end Go.Proofs.YtpbijdoemdoijaaGreatDoor
end PkCa52_0
