/- Texts put together by packtpl2.py: RefCol. -/
import Derived.Test.YtpbijdoemdoijaaGreatDoorPkCa12
import Derived.Test.YtpbijdoemdoijaaGreatDoorPkCa34
import Derived.Test.YtpbijdoemdoijaaGreatDoorPkCa35
import Derived.Test.YtpbijdoemdoijaaGreatDoorPkCa46
import Derived.Test.YtpbijdoemdoijaaGreatDoorPkCa50
section PkCa51_0
/- The document's chunks, and contents of integers, texts and flags, walked. -/
namespace Go.Proofs.YtpbijdoemdoijaaGreatDoor
open Go.RowKit BitsPlain NumsPlain CrcPlain
open DeltaPlain (chk chk_ok enc tl)
set_option linter.unusedVariables false

set_option maxHeartbeats 1000000 in
theorem rcu_any {w : World} {base n k : Nat} {v : Value} {xs : List Nat} (ho : w.ownsRow base 5 1 v n (bv xs)) (hbs : base ≤ w.heap.size) (hn : n ≤ 100000000) (hk : k < 9223372036854775808) :
    Calls Tryz.prog 37 #[v, .int .i64 (k : Int)] w fun e w' => ∃ v', e = .returned v' ∧ w'.ownsRow base 5 1 v' (n + (pu k).length) (bv (xs ++ pu k)) ∧ w.grownBy w' v.ownBlock := by
  have HP := Lib.hid (rputu k (by omega) w)
  have h10 := pu_ten (n := k) (by omega)
  have HO := Lib.hid ho
  clear ho
  go_enter Tryz.func37, Tryz.ntmps37
  go_wp2_with fail
  refine HP.out.mono ?_
  rintro e w1 ⟨g, c, rfl, hg, hb1, hbel⟩
  have HB1 := Lib.hid hbel
  have H1 := Lib.hid hb1
  have HS := Lib.hid (Nat.le_trans hbs hbel.size)
  have HO1 := Lib.hid (own_below HO.out hbel)
  clear hb1 hbel hg
  go_wp2_with (at_builtin; refine wpList_append_bytes rfl (.tmp 5) (.tmp 8) rfl base v n xs rfl HO1.out _ _ _ (pu k) rfl H1.out (by omega) HS.out ?_)
  intro v2 w2 ho2 hg2
  have HO2 := Lib.hid ho2
  have HG2 := Lib.hid ((below_grown HB1.out v.ownBlock).trans' hg2)
  clear ho2 hg2
  go_wp2_with fail
  go_ret
  exact ⟨_, rfl, HO2.out, HG2.out⟩
/-- a number's bytes behind none -/
theorem rcu_nil {w : World} {k : Nat} (hk : k < 9223372036854775808) :
    Calls Tryz.prog 37 #[.slice (some ⟨w.heap.size, 0, none⟩) 0 0, .int .i64 (k : Int)] (w.alloc (.cells #[] 5)) fun e w' => ∃ v', e = .returned v' ∧ w'.ownsRow w.heap.size 5 1 v' (pu k).length (bv (pu k)) ∧ Below w.heap.size w w' := by
  have o0 := World.ownsRow_lit (base := w.heap.size) (e := 5) (size := 1) w #[] 0 (Nat.le_refl _) (by unfold maxLen; omega) rfl
  have b0 : Below w.heap.size w (w.alloc (.cells #[] 5)) := (Below.refl _ _).alloc (Nat.le_refl _) _
  refine (rcu_any (xs := []) (n := 0) o0 b0.size (by omega) hk).mono ?_
  rintro e w' ⟨v', rfl, ho, hg⟩
  rw [Nat.zero_add, List.nil_append] at ho
  exact ⟨v', rfl, ho, below_own b0 o0 hg (Nat.le_refl _) b0.size⟩

set_option maxRecDepth 100000 in
set_option maxHeartbeats 4000000 in
theorem rtextsOf_any {w : World} {a : Option Addr} {n c : Nat} {l : List ByteArray} (h : VecAt StrS w a n c l) (hn : n ≤ 2048) (hFT : ∀ s ∈ l, s.size ≤ 1024) :
    Calls Tryz.prog 19 #[.slice a n c] w fun e w' => ∃ v, e = .returned v ∧ w'.ownsRow w.heap.size 5 1 v (textsC l).length (bv (textsC l)) ∧ Below w.heap.size w w' := by
  obtain ⟨i0, hi, hz0, hz1, hz2⟩ := info_parts info_u8
  have hcap := h.cap
  have hcm := h.capm
  have HH := Lib.hid h
  have HL := Lib.hid h.len
  have HL2 := Lib.hid (show l.length ≤ 2048 by rw [h.len]; exact hn)
  have HF := Lib.hid hFT
  have HNN := Lib.hid (rcu_nil (w := w) (k := n) (by omega))
  clear h hFT
  go_enter Tryz.func19, Tryz.ntmps19
  go_wp2_with fail
  refine HNN.out.mono ?_
  rintro e w2 ⟨v2, rfl, ho2, hb2⟩
  have HB2 := Lib.hid hb2
  obtain ⟨a2, c2, rfl, _, _⟩ := BytesAt.ofOwn ho2 (pu_bytes (by omega)) (by have := pu_ten (n := n) (by omega); omega)
  have HO2 := Lib.hid (show w2.ownsRow w.heap.size 5 1 (.slice a2 (pu n).length c2) (pu n).length (bv (szP l 0)) from by rw [szP_0, HL.out]; exact ho2)
  have HPL := Lib.hid (show (pu n).length = (szP l 0).length from by rw [szP_0, HL.out])
  clear ho2 hb2
  go_wp2_with fail
  go_loopw [3, 5, 14] (fun s4 s6 s17 wr => ∃ (k m c9 : Nat) (a9 : Option Addr), k ≤ n ∧ s17 = .int .i64 (k : Int) ∧ s4 = .slice a9 m c9 ∧ Hid (m = (szP l k).length) ∧ Hid (wr.ownsRow w.heap.size 5 1 (.slice a9 m c9) m (bv (szP l k))) ∧ Hid (Below w.heap.size w wr)) (fun _ _ s17 _ => n - (intOf s17).toNat)
  case atStart => exact ⟨0, _, _, _, by omega, rfl, rfl, HPL, HO2, HB2⟩
  case round =>
    clear HPL HO2
    obtain ⟨k, m, c9, a9, hk, rfl, rfl, HM, HO, HB⟩ := hrel
    rename World => wr
    by_cases hkn : k < n
    · have hki : (k : Int) < (n : Int) := by omega
      obtain ⟨b, off, rfl, hlt, hok, hc9⟩ := (HH.out.kept HB.out).get hkn
      obtain ⟨s, hs⟩ : ∃ s, s = l.getD k ByteArray.empty := ⟨_, rfl⟩
      have hs2 : l.getD k StrS.z = s := hs.symm
      rw [hs2] at hok hc9
      have c0 : wr.cell? ⟨b, off + k, none⟩ = some (.string s) := by
        have h1 := hc9 0 (.string s) rfl
        have e : off + k * StrS.K + 0 = off + k := by show off + k * 1 + 0 = _; omega
        rw [e] at h1; exact h1
      have hm : m ≤ 100000 := by rw [HM.out]; exact szP_len HF.out HL2.out (by rw [HL.out]; omega)
      have hsm : s.size ≤ 1024 := HF.out s (by rw [hs]; exact vec_mem (S := StrS) (by rw [HL.out]; exact hkn))
      have HNU := Lib.hid (rcu_any HO.out HB.out.size (by omega) (k := s.size) (by omega))
      have HS := Lib.hid hs
      clear hs hs2 hok hc9 hlt
      go_wp2_with fail
      refine HNU.out.mono ?_
      rintro e w3 ⟨v3, rfl, ho3, hg3⟩
      have HB3 := Lib.hid (below_own HB.out HO.out hg3 (Nat.le_refl _) HB.out.size)
      rw [szP_s l k HS.out] at ho3
      have h10' := pu_ten (n := s.size) (by omega)
      obtain ⟨a3, c3, rfl, _, _⟩ := BytesAt.ofOwn ho3 (szP_byte HF.out HL2.out (by rw [HL.out]; omega)) (by omega)
      have HM3 := Lib.hid (show m + (pu s.size).length = (szP l (k + 1)).length from by rw [← szP_s l k HS.out, List.length_append, ← HM.out])
      have HO3 := Lib.hid ho3
      clear ho3 hg3 c0
      go_wp2_with fail
      go_roundw
      case rel => exact ⟨k + 1, _, c3, a3, by omega, by go_num, rfl, HM3, HO3, HB3⟩
      case measure => simp [intOf]; omega
    · obtain rfl : k = n := by omega
      have HM0 := Lib.hid (show m = (txP l 0).length from by rw [txP_0, HL.out]; exact HM.out)
      have HO0 := Lib.hid (show wr.ownsRow w.heap.size 5 1 (.slice a9 m c9) m (bv (txP l 0)) from by rw [txP_0, HL.out]; exact HO.out)
      clear hkn
      go_wp2_with fail
      go_loopw [3, 7, 25] (fun s4 s8 s28 wt => ∃ (j m c9 : Nat) (a9 : Option Addr), j ≤ k ∧ s28 = .int .i64 (j : Int) ∧ s4 = .slice a9 m c9 ∧ Hid (m = (txP l j).length) ∧ Hid (wt.ownsRow w.heap.size 5 1 (.slice a9 m c9) m (bv (txP l j))) ∧ Hid (Below w.heap.size w wt)) (fun _ _ s28 _ => k - (intOf s28).toNat)
      case atStart => exact ⟨0, _, _, _, by omega, rfl, rfl, HM0, HO0, HB⟩
      case round =>
        clear HM0 HO0 HM HO HB
        obtain ⟨j, m, c9, a9, hj, rfl, rfl, HM, HO, HB⟩ := hrel
        rename World => wt
        by_cases hjn : j < k
        · have hji : (j : Int) < (k : Int) := by omega
          obtain ⟨b, off, rfl, hlt, hok, hc9⟩ := (HH.out.kept HB.out).get hjn
          obtain ⟨s, hs⟩ : ∃ s, s = l.getD j ByteArray.empty := ⟨_, rfl⟩
          have hs2 : l.getD j StrS.z = s := hs.symm
          rw [hs2] at hok hc9
          have c0 : wt.cell? ⟨b, off + j, none⟩ = some (.string s) := by
            have h1 := hc9 0 (.string s) rfl
            have e : off + j * StrS.K + 0 = off + j := by show off + j * 1 + 0 = _; omega
            rw [e] at h1; exact h1
          have hm : m ≤ 10000000 := by rw [HM.out]; exact txP_len HF.out HL2.out (by rw [HL.out]; omega)
          have hsm : s.size ≤ 1024 := HF.out s (by rw [hs]; exact vec_mem (S := StrS) (by rw [HL.out]; exact hjn))
          have HS := Lib.hid hs
          have HSZ := Lib.hid HB.out.size
          clear hs hs2 hok hc9 hlt
          go_wp2_with (at_builtin; refine Lib.wpList_append_own_string _ rfl (.tmp 29) (.tmp 30) 27 9 rfl w.heap.size 5 i0 Tryz.underlying27 Tryz.underlying9 hi hz0 hz1 hz2 _ m _ rfl HO.out s rfl (by unfold maxLen; omega) (by omega) HSZ.out ?_)
          intro v3 w3 ho3 hg3 _
          have HB3 := Lib.hid (below_own HB.out HO.out hg3 (Nat.le_refl _) HB.out.size)
          rw [byl_cells, ← bv_append, txP_s l j HS.out] at ho3
          obtain ⟨a3, c3, rfl, _, _⟩ := BytesAt.ofOwn ho3 (txP_byte HF.out HL2.out) (by omega)
          have HM3 := Lib.hid (show m + s.size = (txP l (j + 1)).length from by rw [← txP_s l j HS.out, List.length_append, byl_len, ← HM.out])
          have HO3 := Lib.hid ho3
          clear ho3 hg3 c0
          go_wp2_with fail
          go_roundw
          case rel => exact ⟨j + 1, _, c3, a3, by omega, by go_num, rfl, HM3, HO3, HB3⟩
          case measure => simp [intOf]; omega
        · obtain rfl : j = k := by omega
          have e9 : txP l j = textsC l := by unfold txP textsC; rw [HL.out]
          have hm : m = (textsC l).length := by rw [HM.out, e9]
          have ho := HO.out
          rw [e9] at ho
          have HOF := Lib.hid (show wt.ownsRow w.heap.size 5 1 (.slice a9 m c9) (textsC l).length (bv (textsC l)) from by rw [← hm]; exact ho)
          clear hjn hm ho e9
          go_wp2_with fail
          go_ret
          exact ⟨_, rfl, HOF.out, HB.out⟩

theorem rowOf_fbits (f : List Bool) : rowOf (fbits f) = f := by
  unfold rowOf fbits
  rw [List.map_map]
  conv => rhs; rw [← List.map_id f]
  apply List.map_congr_left
  intro x _
  cases x <;> rfl
set_option maxRecDepth 100000 in
set_option maxHeartbeats 2000000 in
theorem rflagsOf_any {w : World} {a : Option Addr} {n c : Nat} {f : List Bool} (h : FlAt w a n c f) (hn : n ≤ 2048) :
    Calls Tryz.prog 20 #[.slice a n c] w fun e w' => ∃ v, e = .returned v ∧ w'.ownsRow w.heap.size 5 1 v (flC f).length (bv (flC f)) ∧ Below w.heap.size w w' := by
  have hcap := h.cap
  have hcm := h.capm
  have HH := Lib.hid h
  have HL := Lib.hid h.len
  have HNN := Lib.hid (rcu_nil (w := w) (k := n) (by omega))
  clear h
  go_enter Tryz.func20, Tryz.ntmps20
  go_wp2_with fail
  refine HNN.out.mono ?_
  rintro e w2 ⟨v2, rfl, ho2, hb2⟩
  have HB2 := Lib.hid hb2
  have HO2 := Lib.hid ho2
  have hf2 := HH.out.kept hb2
  have HRB := Lib.hid (rbytes_any (l := fbits f) (w := w2) (a := a) (n := n) (c := c) (by rw [rowOf_fbits]; exact ⟨hf2.len, hf2.cap, by omega, hf2.capm, hf2.nl, hf2.cells⟩) (fbits_bin f) (by omega))
  clear ho2 hb2 hf2
  go_wp2_with fail
  refine HRB.out.mono ?_
  rintro e w3 ⟨a3, c3, rfl, h3, hb3⟩
  have HB3 := Lib.hid (HB2.out.trans (hb3.mono HB2.out.size))
  have HO3 := Lib.hid (own_below HO2.out hb3)
  have H3 := Lib.hid h3
  have HS3 := Lib.hid HB3.out.size
  have h10 := pu_ten (n := n) (by omega)
  have hpl : (pack (fbits f)).length ≤ 300 := by rw [pack_length]; unfold fbits; rw [List.length_map, HL.out]; omega
  clear hb3 h3
  go_wp2_with (at_builtin; refine wpList_append_bytes rfl (.tmp 6) (.tmp 8) rfl w.heap.size v2 (pu n).length (pu n) rfl HO3.out _ _ _ (pack (fbits f)) rfl H3.out (by omega) HS3.out ?_)
  intro v4 w4 ho4 hg4
  have HB4 := Lib.hid (below_own HB3.out HO3.out hg4 (Nat.le_refl _) HS3.out)
  have HO4 := Lib.hid (show w4.ownsRow w.heap.size 5 1 v4 (flC f).length (bv (flC f)) from by unfold flC; rw [List.length_append, HL.out]; exact ho4)
  clear ho4 hg4
  go_wp2_with fail
  go_ret
  exact ⟨_, rfl, HO4.out, HB4.out⟩

set_option maxRecDepth 100000 in
set_option maxHeartbeats 4000000 in
theorem rchunk_any {w : World} {a : Option Addr} {n c k : Nat} {C : List Nat} (h : BytesAt w a n c C) (hn : n ≤ 4000) (hk : k < 256) :
    Calls Tryz.prog 12 #[.int .i64 (k : Int), .slice a n c] w fun e w' => ∃ a' m' c', e = .returned (.slice a' m' c') ∧ BytesAt w' a' m' c' (chunk k C) ∧ Below w.heap.size w w' := by
  obtain rfl : C.length = n := h.len
  have hcap := h.cap
  have hcm := h.capm
  have HH := Lib.hid h
  have hk8 : IntKind.u8.wrap (k : Int) = (k : Int) := by rw [IntKind.wrap_u8]; omega
  have h10 := pu_ten (n := C.length) (by omega)
  have HDE := rdeflate_any h hn
  obtain ⟨D, hD⟩ : ∃ D, D = dfl C := ⟨_, rfl⟩
  rw [← hD] at HDE
  have hCK : chunk k C = if D.length < C.length then sealed ([k, 1] ++ pu C.length ++ D) else sealed ([k, 0] ++ pu C.length ++ C) := by unfold chunk; rw [hD]
  have HCB := Lib.hid h.byte
  have HDE := Lib.hid HDE
  clear h hD
  by_cases hlt : D.length < C.length
  · rw [if_pos hlt] at hCK
    have HCK := Lib.hid hCK
    have hlti : ¬ ((C.length : Int) ≤ (D.length : Int)) := by omega
    clear hCK
    go_enter Tryz.func12, Tryz.ntmps12
    go_wp2_with fail
    refine HDE.out.mono ?_
    rintro e w1 ⟨a1, c1, rfl, h1, hb1⟩
    have HB1 := Lib.hid hb1
    have H1 := Lib.hid h1
    obtain ⟨w2, hw2⟩ : ∃ w2, w2 = w1.alloc (.cells #[.int .u8 (k : Int), .int .u8 1] 5) := ⟨_, rfl⟩
    have o2 := World.ownsRow_lit (base := w1.heap.size) (e := 5) (size := 1) w1 #[.int .u8 (k : Int), .int .u8 1] 2 (Nat.le_refl _) (by unfold maxLen; omega) rfl
    rw [← hw2] at o2
    have HO2 := Lib.hid (show w2.ownsRow w1.heap.size 5 1 (.slice (some ⟨w1.heap.size, 0, none⟩) 2 2) 2 (bv [k, 1]) from o2)
    have HB2 := Lib.hid (show Below w1.heap.size w1 w2 from by rw [hw2]; exact (Below.refl _ _).alloc (Nat.le_refl _) _)
    have HU := Lib.hid (rcu_any HO2.out HB2.out.size (by omega) (k := C.length) (by omega))
    have HW2 := Lib.hid hw2
    clear h1 hb1 o2 hw2
    go_wp2_with fail
    rw [← HW2.out]
    refine HU.out.mono ?_
    rintro e w3 ⟨v3, rfl, ho3, hg3⟩
    have HB3 := Lib.hid (below_own HB2.out HO2.out hg3 (Nat.le_refl _) HB2.out.size)
    have HO3 := Lib.hid ho3
    have H3 := Lib.hid (H1.out.keep HB3.out (Nat.le_refl _))
    have HS3 := Lib.hid HB3.out.size
    clear ho3 hg3
    go_wp2_with (at_builtin; refine wpList_append_bytes rfl (.tmp 24) (.tmp 25) rfl w1.heap.size v3 (2 + (pu C.length).length) ([k, 1] ++ pu C.length) rfl HO3.out _ _ _ D rfl H3.out (by omega) HS3.out ?_)
    intro v4 w4 ho4 hg4
    have HB4 := Lib.hid (below_own HB3.out HO3.out hg4 (Nat.le_refl _) HS3.out)
    have HBY := Lib.hid (show ∀ x ∈ ([k, 1] ++ pu C.length) ++ D, x < 256 from by
      intro x hx
      rcases List.mem_append.1 hx with e | e
      · rcases List.mem_append.1 e with e | e
        · simp only [List.mem_cons, List.not_mem_nil, or_false] at e
          omega
        · exact pu_bytes (by omega) x e
      · exact H1.out.byte x e)
    obtain ⟨a4, c4, rfl, h4, _⟩ := BytesAt.ofOwn ho4 HBY.out (by omega)
    have HSE := Lib.hid (rseal_any h4 (by omega))
    clear ho4 hg4 h4
    go_wp2_with fail
    refine HSE.out.mono ?_
    rintro e w5 ⟨a5, c5, rfl, h5, hb5⟩
    have HB5 := Lib.hid (HB1.out.trans ((HB4.out.trans (hb5.mono HB4.out.size)).mono HB1.out.size))
    have H5 := Lib.hid h5
    clear h5 hb5
    go_wp2_with fail
    go_ret
    rw [HCK.out]
    exact ⟨_, _, _, rfl, H5.out, HB5.out⟩
  · rw [if_neg hlt] at hCK
    have HCK := Lib.hid hCK
    have hlti : ((C.length : Int) ≤ (D.length : Int)) := by omega
    clear hCK
    go_enter Tryz.func12, Tryz.ntmps12
    go_wp2_with fail
    refine HDE.out.mono ?_
    rintro e w1 ⟨a1, c1, rfl, h1, hb1⟩
    have HB1 := Lib.hid hb1
    have H1 := Lib.hid (HH.out.kept hb1)
    obtain ⟨w2, hw2⟩ : ∃ w2, w2 = w1.alloc (.cells #[.int .u8 (k : Int), .int .u8 0] 5) := ⟨_, rfl⟩
    have o2 := World.ownsRow_lit (base := w1.heap.size) (e := 5) (size := 1) w1 #[.int .u8 (k : Int), .int .u8 0] 2 (Nat.le_refl _) (by unfold maxLen; omega) rfl
    rw [← hw2] at o2
    have HO2 := Lib.hid (show w2.ownsRow w1.heap.size 5 1 (.slice (some ⟨w1.heap.size, 0, none⟩) 2 2) 2 (bv [k, 0]) from o2)
    have HB2 := Lib.hid (show Below w1.heap.size w1 w2 from by rw [hw2]; exact (Below.refl _ _).alloc (Nat.le_refl _) _)
    have HU := Lib.hid (rcu_any HO2.out HB2.out.size (by omega) (k := C.length) (by omega))
    have HW2 := Lib.hid hw2
    clear h1 hb1 o2 hw2
    go_wp2_with fail
    rw [← HW2.out]
    refine HU.out.mono ?_
    rintro e w3 ⟨v3, rfl, ho3, hg3⟩
    have HB3 := Lib.hid (below_own HB2.out HO2.out hg3 (Nat.le_refl _) HB2.out.size)
    have HO3 := Lib.hid ho3
    have H3 := Lib.hid (H1.out.keep HB3.out (Nat.le_refl _))
    have HS3 := Lib.hid HB3.out.size
    clear ho3 hg3
    go_wp2_with (at_builtin; refine wpList_append_bytes rfl (.tmp 24) (.tmp 25) rfl w1.heap.size v3 (2 + (pu C.length).length) ([k, 0] ++ pu C.length) rfl HO3.out _ _ _ C rfl H3.out (by omega) HS3.out ?_)
    intro v4 w4 ho4 hg4
    have HB4 := Lib.hid (below_own HB3.out HO3.out hg4 (Nat.le_refl _) HS3.out)
    have HBY := Lib.hid (show ∀ x ∈ ([k, 0] ++ pu C.length) ++ C, x < 256 from by
      intro x hx
      rcases List.mem_append.1 hx with e | e
      · rcases List.mem_append.1 e with e | e
        · simp only [List.mem_cons, List.not_mem_nil, or_false] at e
          omega
        · exact pu_bytes (by omega) x e
      · exact H1.out.byte x e)
    obtain ⟨a4, c4, rfl, h4, _⟩ := BytesAt.ofOwn ho4 HBY.out (by omega)
    have HSE := Lib.hid (rseal_any h4 (by omega))
    clear ho4 hg4 h4
    go_wp2_with fail
    refine HSE.out.mono ?_
    rintro e w5 ⟨a5, c5, rfl, h5, hb5⟩
    have HB5 := Lib.hid (HB1.out.trans ((HB4.out.trans (hb5.mono HB4.out.size)).mono HB1.out.size))
    have H5 := Lib.hid h5
    clear h5 hb5
    go_wp2_with fail
    go_ret
    rw [HCK.out]
    exact ⟨_, _, _, rfl, H5.out, HB5.out⟩

set_option maxRecDepth 100000 in
set_option maxHeartbeats 2000000 in
theorem rbest_any {w : World} {a : Option Addr} {n c : Nat} {zs : List Int} (h : IntsAt .i64 w a n c zs) (hc : chk zs 0 = 0) :
    Calls Tryz.prog 39 #[.slice a n c] w fun e w' => e = .returned (.int .i64 ((bst zs : Nat) : Int)) ∧ Below w.heap.size w w' := by
  have HH := Lib.hid h
  have HV := Lib.hid (show bst zs = (bu zs 3).1 by unfold bst; rw [if_neg (by simpa using hc)])
  have HWY := Lib.hid (show ∀ k : Nat, k ≤ 2 → chk zs (k : Int) = 0 from fun k hk => by rw [chk_way (a := (k : Int)) (b := 0) (by omega) (by omega)]; exact hc)
  have HCK := rcheck_any h 0
  rw [hc] at HCK
  have HCK := Lib.hid HCK
  clear h hc
  go_enter Tryz.func39, Tryz.ntmps39
  go_wp2_with fail
  refine HCK.out.mono ?_
  rintro e w1 ⟨rfl, rfl⟩
  go_wp2_with fail
  go_loopw [3, 4] (fun s3 s4 wr => ∃ k b : Nat, 1 ≤ k ∧ k ≤ 3 ∧ s4 = .int .i64 (k : Int) ∧ s3 = .int .i64 (b : Int) ∧ b ≤ 2 ∧ Hid (bu zs k = (b, el zs b)) ∧ Hid (Below w.heap.size w wr)) (fun _ s4 _ => 3 - (intOf s4).toNat)
  case atStart => exact ⟨1, 0, by omega, by omega, rfl, rfl, by omega, Lib.hid (by simp [bu]), Lib.hid (Below.refl _ _)⟩
  case round =>
    obtain ⟨k, b, hk1, hk3, rfl, rfl, hb2, HU, HB⟩ := hrel
    rename World => wr
    by_cases hk : k < 3
    · have hki : (k : Int) ≤ 2 := by omega
      have HE1 := Lib.hid (rencode_any (HH.out.kept HB.out) (k : Int) (HWY.out k (by omega)))
      have hw1 : IntKind.i64.wrap ((k : Int) + 1) = (k : Int) + 1 := IntWalk.i64_in _ (by omega)
      go_wp2_with fail
      refine HE1.out.mono ?_
      rintro e w2 ⟨a2, n2, c2, rfl, h2, hb⟩
      have HB2 := Lib.hid (HB.out.trans (hb.mono HB.out.size))
      obtain rfl : el zs k = n2 := h2.len
      have HE2 := Lib.hid (rencode_any (HH.out.kept HB2.out) (b : Int) (HWY.out b hb2))
      clear hb h2
      go_wp2_with fail
      refine HE2.out.mono ?_
      rintro e w3 ⟨a3, n3, c3, rfl, h3, hb⟩
      have HB3 := Lib.hid (HB2.out.trans (hb.mono HB2.out.size))
      obtain rfl : el zs b = n3 := h3.len
      clear hb h3
      by_cases hlt : el zs k < el zs b
      · have hlti : (el zs k : Int) < (el zs b : Int) := by omega
        have HN := Lib.hid (show bu zs (k + 1) = (k, el zs k) from by rw [bu, HU.out, if_pos (.inr hlt)])
        clear hlt
        go_wp2_with fail
        go_roundw
        case rel => exact ⟨k + 1, k, by omega, by omega, by go_num, rfl, by omega, HN, HB3⟩
        case measure => simp [intOf]; omega
      · have hlti : ¬ (el zs k : Int) < (el zs b : Int) := by omega
        have HN := Lib.hid (show bu zs (k + 1) = (b, el zs b) from by rw [bu, HU.out, if_neg (by simp only; omega)])
        clear hlt
        go_wp2_with fail
        go_roundw
        case rel => exact ⟨k + 1, b, by omega, by omega, by go_num, rfl, by omega, HN, HB3⟩
        case measure => simp [intOf]; omega
    · obtain rfl : k = 3 := by omega
      go_wp2_with fail
      go_ret
      rw [HV.out, HU.out]
      exact ⟨rfl, HB.out⟩
set_option maxRecDepth 100000 in
set_option maxHeartbeats 2000000 in
theorem rintsOf_any {w : World} {a : Option Addr} {n c : Nat} {zs : List Int} (h : IntsAt .i64 w a n c zs) (hc : chk zs 0 = 0) :
    Calls Tryz.prog 13 #[.slice a n c] w fun e w' => ∃ v, e = .returned v ∧ w'.ownsRow w.heap.size 5 1 v (intC zs).length (bv (intC zs)) ∧ Below w.heap.size w w' := by
  have HH := Lib.hid h
  have HB := Lib.hid (rbest_any h hc)
  have hb2 := bst_le zs
  have HCW := Lib.hid (show chk zs (bst zs : Int) = 0 from by rw [chk_bst]; exact hc)
  have HIL := Lib.hid (intC_len hc)
  obtain ⟨m, hm⟩ : ∃ m, m = bst zs := ⟨_, rfl⟩
  have HIC := Lib.hid (show intC zs = [m] ++ enc zs (m : Int) from by unfold intC; rw [eb_ok (by rw [chk_bst]; exact hc), hm]; rfl)
  rw [← hm] at hb2 HCW HB
  have h8 : IntKind.u8.wrap (m : Int) = (m : Int) := by rw [IntKind.wrap_u8]; omega
  clear h hc hm
  go_enter Tryz.func13, Tryz.ntmps13
  go_wp2_with fail
  refine HB.out.mono ?_
  rintro e w1 ⟨rfl, hb1⟩
  have HB1 := Lib.hid hb1
  obtain ⟨w2, hw2⟩ : ∃ w2, w2 = w1.alloc (.cells #[.int .u8 (m : Int)] 5) := ⟨_, rfl⟩
  have o2 := World.ownsRow_lit (base := w1.heap.size) (e := 5) (size := 1) w1 #[.int .u8 (m : Int)] 1 (Nat.le_refl _) (by unfold maxLen; omega) rfl
  rw [← hw2] at o2
  have HO2 := Lib.hid (show w2.ownsRow w1.heap.size 5 1 (.slice (some ⟨w1.heap.size, 0, none⟩) 1 1) 1 (bv [m]) from o2)
  have HB2 := Lib.hid (show Below w1.heap.size w1 w2 from by rw [hw2]; exact (Below.refl _ _).alloc (Nat.le_refl _) _)
  have HE := Lib.hid (rencode_any (HH.out.kept (HB1.out.trans (HB2.out.mono HB1.out.size))) (m : Int) HCW.out)
  have HW2 := Lib.hid hw2
  clear hb1 o2 hw2
  go_wp2_with fail
  rw [← HW2.out]
  refine HE.out.mono ?_
  rintro e w3 ⟨a3, n3, c3, rfl, h3, hb3⟩
  have HB3 := Lib.hid (HB2.out.trans (hb3.mono HB2.out.size))
  have HO3 := Lib.hid (own_below HO2.out hb3)
  have H3 := Lib.hid h3
  have HN3 := Lib.hid h3.len
  have HS3 := Lib.hid HB3.out.size
  have hn3 : n3 ≤ 30001 := by
    have h1 := HIL.out
    rw [HIC.out, List.length_append, HN3.out] at h1
    omega
  clear h3 hb3
  go_wp2_with (at_builtin; refine wpList_append_bytes rfl (.tmp 8) (.tmp 11) rfl w1.heap.size (.slice (some ⟨w1.heap.size, 0, none⟩) 1 1) 1 [m] rfl HO3.out _ _ _ (enc zs (m : Int)) rfl H3.out (by omega) HS3.out ?_)
  intro v4 w4 ho4 hg4
  have HB4 := Lib.hid (HB1.out.trans ((below_own HB3.out HO3.out hg4 (Nat.le_refl _) HS3.out).mono HB1.out.size))
  have HO4 := Lib.hid (show w4.ownsRow w.heap.size 5 1 v4 (intC zs).length (bv (intC zs)) from by
    rw [HIC.out, List.length_append, HN3.out]
    exact own_lower ho4 HB1.out.size)
  clear ho4 hg4
  go_wp2_with fail
  go_ret
  exact ⟨_, rfl, HO4.out, HB4.out⟩
end Go.Proofs.YtpbijdoemdoijaaGreatDoor
end PkCa51_0
