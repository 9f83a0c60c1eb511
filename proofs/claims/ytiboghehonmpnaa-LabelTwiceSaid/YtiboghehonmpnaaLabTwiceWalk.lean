/- The law LabelTwice, walked. Written by genlabtwice.py. -/
import Derived.Test.YtiboghehonmpnaaLabFew
import Derived.Test.YtiboghehonmpnaaLabOpen
import Derived.Test.YtiboghehonmpnaaLabTwicePlain
namespace Go.Proofs.Ytiboghehonmpnaa
open Go.RowKit LabPlain
set_option linter.unusedVariables false

def svs (ss : List ByteArray) : List Value := ss.map .string
theorem str_info : (Try.prog.info? 9).map (fun i => (i.zero, i.size, i.bytes)) = some (some (.string ByteArray.empty), 1, 16) := by kernel_rfl
theorem str_src (w : World) (x : ByteArray) (t : TypeId) : ∀ j u, (svs [x])[j]? = some u → (w.alloc (.cells #[.string x] t)).cell? ((⟨w.heap.size, 0, none⟩ : Addr).add j) = some u := by
  intro j u hj
  have hblk := heap_alloc_new w (.cells #[.string x] t)
  have hadd : (⟨w.heap.size, 0, none⟩ : Addr).add j = ⟨w.heap.size, 0 + j, none⟩ := by unfold Addr.add; split <;> simp_all
  rw [hadd, Nat.zero_add, cell_of_row _ _ _ _ _ (0, 0) hblk, ← hj]
  simp [svs]
theorem StrsAt.ofOwn {w : World} {base n : Nat} {v : Value} {ss : List ByteArray} (h : w.ownsRow base 9 1 v n (svs ss)) (hn : ss.length = n) : ∃ a c, v = .slice a n c ∧ StrsAt w a n c ss := by
  rcases h.2 with ⟨rfl, h0⟩ | ⟨g, cap, cur, rfl, hg, hh, hnc, hcap, hsz, htake⟩
  · subst h0
    obtain rfl : ss = [] := List.eq_nil_of_length_eq_zero hn
    exact ⟨none, 0, rfl, StrsAt.empty w none 0 (by omega) (fun _ => rfl)⟩
  · refine ⟨_, cap, rfl, hn, hnc, by unfold maxLen at hcap; exact hcap, (fun e => by cases e), fun hp => ⟨g, 0, rfl, (Array.getElem?_eq_some_iff.1 hh).1, fun i hi => ?_⟩⟩
    rw [Nat.zero_add, cell_of_row w _ _ _ _ (0, 0) hh]
    have : (cur.toList.take (n * 1))[i]? = some (.string (ss.getD i ByteArray.empty)) := by rw [htake]; simp [svs, show i < ss.length by omega]
    rw [List.getElem?_take_of_lt (by omega), Array.getElem?_toList] at this
    exact this

set_option maxRecDepth 100000 in
set_option maxHeartbeats 4000000 in
theorem label_twice (a : Option Addr) (n c : Nat) (l : List Lab) (a1 : Option Addr) (n1 c1 : Nat) (us : List ByteArray) (a2 : Option Addr) (n2 c2 : Nat) (bs : List ByteArray) (w : World) (h : LabsAt w a n c l) (h1 : StrsAt w a1 n1 c1 us) (h2 : StrsAt w a2 n2 c2 bs) :
    Calls Try.prog 9 #[.slice a n c, .slice a1 n1 c1, .slice a2 n2 c2] w fun e w' => e = .returned (.bool true) ∧ Below w.heap.size w w' := by
  obtain ⟨i0, hi, hz0, hz1, hz2⟩ := info_parts str_info
  have HO0 := fun w1 : World => World.ownsRow_nil w1 w.heap.size 9 1
  have HH := Lib.hid h
  have HL := Lib.hid h.len
  have H1 := Lib.hid h1
  have H2 := Lib.hid h2
  have HL1 := Lib.hid h1.len
  have HL2 := Lib.hid h2.len
  have cp1 := h1.cap
  have cp2 := h2.cap
  have cm1 := h1.capm
  have cm2 := h2.capm
  have HLV := Lib.hid (lives8_any w)
  clear h h1 h2
  have quit : ∀ w1, Below w.heap.size w w1 → Calls Try.prog 10 #[] w1 fun e w' => e = .returned (.bool true) ∧ Below w.heap.size w w' := fun w1 h1 =>
    (lives8_any w1).mono fun e w' he => ⟨he.1, h1.trans (he.2.mono h1.size)⟩
  have HQ := Lib.hid quit
  clear quit

  cases hf : fewB l with
  | false =>
    have HF := Lib.hid hf
    clear hf
    go_enter Try.func9, Try.ntmps9
    go_wp2_with fail
    refine HLV.out.mono ?_
    rintro e w1 ⟨rfl, hb1⟩
    have HFW := Lib.hid (few_any (HH.out.kept hb1))
    have HB1 := Lib.hid hb1
    clear hb1
    go_wp2_with fail
    refine HFW.out.mono ?_
    rw [HF.out]
    rintro e w2 ⟨rfl, hb2⟩
    have HB2 := Lib.hid (HB1.out.trans (hb2.mono HB1.out.size))
    clear hb2
    go_wp2_with fail
    refine (HQ.out _ HB2.out).mono ?_
    rintro e w3 ⟨rfl, hb3⟩
    have HB3 := Lib.hid hb3
    clear hb3
    go_wp2_with fail
    go_ret
    exact ⟨rfl, HB3.out⟩
  | true =>
    have HF := Lib.hid hf
    have HN := Lib.hid (show n ≤ 1000 by
      unfold fewB at hf
      rw [Bool.and_eq_true, decide_eq_true_eq, HL.out] at hf
      have := hf.1
      omega)
    clear hf
    by_cases g1 : 20 < n1
    · have g1i : (20 : Int) < (n1 : Int) := by omega
      clear g1
      go_enter Try.func9, Try.ntmps9
      go_wp2_with fail
      refine HLV.out.mono ?_
      rintro e w1 ⟨rfl, hb1⟩
      have HFW := Lib.hid (few_any (HH.out.kept hb1))
      have HB1 := Lib.hid hb1
      clear hb1
      go_wp2_with fail
      refine HFW.out.mono ?_
      rw [HF.out]
      rintro e w2 ⟨rfl, hb2⟩
      have HB2 := Lib.hid (HB1.out.trans (hb2.mono HB1.out.size))
      clear hb2
      go_wp2_with fail
      refine (HQ.out _ HB2.out).mono ?_
      rintro e w3 ⟨rfl, hb3⟩
      have HB3 := Lib.hid hb3
      clear hb3
      go_wp2_with fail
      go_ret
      exact ⟨rfl, HB3.out⟩
    · have g1i : (n1 : Int) ≤ 20 := by omega
      by_cases g2 : 20 < n2
      · have g2i : (20 : Int) < (n2 : Int) := by omega
        clear g2
        go_enter Try.func9, Try.ntmps9
        go_wp2_with fail
        refine HLV.out.mono ?_
        rintro e w1 ⟨rfl, hb1⟩
        have HFW := Lib.hid (few_any (HH.out.kept hb1))
        have HB1 := Lib.hid hb1
        clear hb1
        go_wp2_with fail
        refine HFW.out.mono ?_
        rw [HF.out]
        rintro e w2 ⟨rfl, hb2⟩
        have HB2 := Lib.hid (HB1.out.trans (hb2.mono HB1.out.size))
        clear hb2
        go_wp2_with fail
        refine (HQ.out _ HB2.out).mono ?_
        rintro e w3 ⟨rfl, hb3⟩
        have HB3 := Lib.hid hb3
        clear hb3
        go_wp2_with fail
        go_ret
        exact ⟨rfl, HB3.out⟩
      · have g2i : (n2 : Int) ≤ 20 := by omega
        go_enter Try.func9, Try.ntmps9
        go_wp2_with fail
        refine HLV.out.mono ?_
        rintro e w1 ⟨rfl, hb1⟩
        have HFW := Lib.hid (few_any (HH.out.kept hb1))
        have HB1 := Lib.hid hb1
        clear hb1
        go_wp2_with fail
        refine HFW.out.mono ?_
        rw [HF.out]
        rintro e w2 ⟨rfl, hb2⟩
        have HB2 := Lib.hid (HB1.out.trans (hb2.mono HB1.out.size))
        clear hb2
        go_wp2_with fail
        go_loopw [7, 33] (fun s7 s33 wr => ∃ (k m cp : Nat) (a : Option Addr), k ≤ n1 ∧ s33 = .int .i64 (k : Int) ∧ s7 = .slice a m cp ∧ Hid (m = (outTo us bs k).length) ∧ Hid (wr.ownsRow w.heap.size 9 1 (.slice a m cp) m (svs (outTo us bs k))) ∧ Hid (Below w.heap.size w wr)) (fun _ s33 _ => n1 - (intOf s33).toNat)
        case atStart => exact ⟨0, 0, 0, none, by omega, rfl, rfl, Lib.hid rfl, Lib.hid (HO0 _), HB2⟩
        case round =>
          obtain ⟨k, m, cp, a0, hk, rfl, rfl, HM, HO, HB⟩ := hrel
          rename World => wr
          by_cases hkn : k < n1
          · obtain ⟨b, off, rfl, hlt, hcell⟩ := (H1.out.kept HB.out).cells (by omega)
            have e1 := hcell k hkn
            obtain ⟨x, hx⟩ : ∃ x, x = us.getD k ByteArray.empty := ⟨_, rfl⟩
            rw [← hx] at e1
            have HX := Lib.hid hx
            have hlo := outTo_len us bs k
            have hmo : (outTo us bs k).length ≤ 400 := by
              rw [HL2.out] at hlo
              have : n2 * k ≤ 20 * 20 := Nat.mul_le_mul (by omega) (by omega)
              omega
            clear hcell hx hlo
            go_wp2_with fail
            clear e1 hlt
            go_loopw [7, 39] (fun s7 s39 wq => ∃ (j m' cp' : Nat) (a' : Option Addr), j ≤ n2 ∧ s39 = .int .i64 (j : Int) ∧ s7 = .slice a' m' cp' ∧ Hid (m' = (outTo us bs k ++ inTo x bs j).length) ∧ Hid (wq.ownsRow w.heap.size 9 1 (.slice a' m' cp') m' (svs (outTo us bs k ++ inTo x bs j))) ∧ Hid (Below w.heap.size w wq)) (fun _ s39 _ => n2 - (intOf s39).toNat)
            case atStart => exact ⟨0, m, cp, _, by omega, rfl, rfl, Lib.hid (by rw [inTo, List.append_nil]; exact HM.out), Lib.hid (by rw [inTo, List.append_nil]; exact HO.out), HB⟩
            case round =>
              clear HM HO HB
              obtain ⟨j, m', cp', a', hj, rfl, rfl, HM, HO, HB⟩ := hrel
              rename World => wq
              have hbs := HB.out.size
              by_cases hjn : j < n2
              · obtain ⟨b', off', rfl, hlt, hcell⟩ := (H2.out.kept HB.out).cells (by omega)
                have e2 := hcell j hjn
                obtain ⟨y, hy⟩ : ∃ y, y = bs.getD j ByteArray.empty := ⟨_, rfl⟩
                rw [← hy] at e2
                have HY := Lib.hid hy
                have hm9 : m' ≤ 500 := by
                  have := inTo_len x bs j
                  have h2 := HM.out
                  rw [List.length_append] at h2
                  omega
                clear hcell hy
                by_cases he : x = y
                · have hq : (x.toList == y.toList) = true := by rw [eq_toList]; exact decide_eq_true he
                  have HP := Lib.hid (show outTo us bs k ++ inTo x bs (j + 1) = (outTo us bs k ++ inTo x bs j) ++ [x] by rw [inTo, ← HY.out, if_pos he, List.append_assoc])
                  have HO3 := Lib.hid (HO.out.alloc (.cells #[.string x] 9))
                  have HB3 := Lib.hid (HB.out.alloc HB.out.size (.cells #[.string x] 9))
                  clear he
                  go_wp2_with (at_builtin; refine wpList_append_own_at _ rfl (.tmp 46) (.tmp 48) 37 rfl w.heap.size 9 i0 (.string ByteArray.empty) 1 16 Try.underlying37 hi hz0 hz1 hz2 rfl (by decide) _ _ _ rfl HO3.out ⟨wq.heap.size, 0, none⟩ 1 1 (svs [x]) rfl rfl (str_src _ _ _) (by intro u hu; simp [svs] at hu; subst hu; rfl) (by unfold maxLen; omega) (by omega) (by simp; omega) ?_)
                  intro v4 w4 ho4 hg4 _ _
                  obtain ⟨g4, c4, rfl⟩ := own_some2 ho4 (by omega)
                  have HB4 := Lib.hid (below_own HB3.out HO3.out hg4 (Nat.le_refl _) (by simp; omega))
                  have HO4 := Lib.hid ho4
                  clear ho4 hg4
                  go_wp2_with fail
                  go_roundw
                  case rel => exact ⟨j + 1, m' + 1, c4, _, by omega, by go_num, rfl, Lib.hid (by rw [HP.out, List.length_append, ← HM.out]; rfl), Lib.hid (by rw [HP.out]; unfold svs; rw [List.map_append]; exact HO4.out), HB4⟩
                  case measure => simp [intOf]; omega
                · have hq : (x.toList == y.toList) = false := by rw [eq_toList]; exact decide_eq_false he
                  have HP := Lib.hid (show outTo us bs k ++ inTo x bs (j + 1) = outTo us bs k ++ inTo x bs j by rw [inTo, ← HY.out, if_neg he, List.append_nil])
                  clear he
                  go_wp2_with fail
                  go_roundw
                  case rel => exact ⟨j + 1, m', cp', _, by omega, by go_num, rfl, Lib.hid (by rw [HP.out]; exact HM.out), Lib.hid (by rw [HP.out]; exact HO.out), HB⟩
                  case measure => simp [intOf]; omega
              · obtain rfl : j = n2 := by omega
                have HP := Lib.hid (show outTo us bs (k + 1) = outTo us bs k ++ inTo x bs j by rw [outTo, ← HX.out, HL2.out])
                clear hjn
                go_wp2_with fail
                go_roundw
                case rel => exact ⟨k + 1, m', cp', _, by omega, by go_num, rfl, Lib.hid (by rw [HP.out]; exact HM.out), Lib.hid (by rw [HP.out]; exact HO.out), HB⟩
                case measure => simp [intOf]; omega
          · obtain rfl : k = n1 := by omega
            clear hkn
            obtain ⟨a9, c9, he9, hat⟩ := StrsAt.ofOwn HO.out HM.out.symm
            simp only [Value.slice.injEq, true_and] at he9
            obtain ⟨rfl, rfl⟩ := he9
            have HS := Lib.hid hat
            have HPW := Lib.hid (part_twice l us bs)
            clear hat
            go_wp2_with fail
            refine (part_any (HH.out.kept HB.out) (H1.out.kept HB.out) HN.out).mono ?_
            rintro e w4 ⟨a', c', rfl, hat4, hb4, _⟩
            have HP4 := Lib.hid hat4
            have HS4 := Lib.hid (HS.out.kept hb4)
            have HB4 := Lib.hid (HB.out.trans (hb4.mono HB.out.size))
            clear hat4 hb4
            go_wp2_with fail
            refine (part_any HP4.out (H2.out.kept HB4.out) (Nat.le_trans (partTo_len l us n) HN.out)).mono ?_
            rintro e w5 ⟨a'', c'', rfl, hat5, hb5, _⟩
            have HQ5 := Lib.hid hat5
            have HP5 := Lib.hid (HP4.out.kept hb5)
            have HS5 := Lib.hid (HS4.out.kept hb5)
            have HB5 := Lib.hid (HB4.out.trans (hb5.mono HB4.out.size))
            clear hat5 hb5
            go_wp2_with fail
            refine (part_any (HH.out.kept HB5.out) HS5.out HN.out).mono ?_
            rintro e w6 ⟨a6, c6, rfl, hat6, hb6, _⟩
            have HQ6 := Lib.hid (HQ5.out.kept hb6)
            have HP6 := Lib.hid (HP5.out.kept hb6)
            have HT6 := Lib.hid hat6
            have HB6 := Lib.hid (HB5.out.trans (hb6.mono HB5.out.size))
            clear hat6 hb6
            go_wp2_with fail
            refine (lsame_any HQ6.out HT6.out).mono ?_
            rw [decide_eq_true (show partTo (partTo l us n) bs (partTo l us n).length = partTo l (outTo us bs k) n by have := HPW.out; rw [HL.out, HL1.out] at this; exact this)]
            rintro e w7 ⟨rfl, hb7⟩
            have HP7 := Lib.hid (HP6.out.kept hb7)
            have HB7 := Lib.hid (HB6.out.trans (hb7.mono HB6.out.size))
            clear hb7
            go_wp2_with fail
            refine (right_any (HH.out.kept HB7.out)).mono ?_
            rintro e w8 ⟨rfl, hb8⟩
            have HP8 := Lib.hid (HP7.out.kept hb8)
            have HB8 := Lib.hid (HB7.out.trans (hb8.mono HB7.out.size))
            clear hb8
            cases hs : isSet l with
            | false =>
              go_wp2_with fail
              go_ret
              exact ⟨rfl, HB8.out⟩
            | true =>
              have HSP := Lib.hid (show isSet (partTo l us n) = true by have := part_set hs us; rw [HL.out] at this; exact this)
              go_wp2_with fail
              refine (right_any HP8.out).mono ?_
              rw [HSP.out]
              rintro e w9 ⟨rfl, hb9⟩
              have HB9 := Lib.hid (HB8.out.trans (hb9.mono HB8.out.size))
              clear hb9
              go_wp2_with fail
              go_ret
              exact ⟨rfl, HB9.out⟩
end Go.Proofs.Ytiboghehonmpnaa
