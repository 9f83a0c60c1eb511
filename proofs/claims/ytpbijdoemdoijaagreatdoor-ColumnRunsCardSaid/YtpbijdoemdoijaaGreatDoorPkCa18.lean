/- Texts put together by packtpl2.py: ColWc, ColWdPl, ColLives. -/
import Derived.Test.YtpbijdoemdoijaaGreatDoorPkCa11
import Derived.Test.YtpbijdoemdoijaaGreatDoorPkCa17
section PkCa18_0
/- The content of a column of words, walked. -/
namespace Go.Proofs.YtpbijdoemdoijaaGreatDoor
open Go.RowKit BitsPlain NumsPlain
set_option linter.unusedVariables false

def WdSays (w : World) (l : List ByteArray) (e : Ending) (w' : World) : Prop :=
  (if fitTo l l.length = true then ∃ v, e = .returned (.tuple #[v, .int .i64 0]) ∧ w'.ownsRow w.heap.size 5 1 v (wordsC l).length (bv (wordsC l)) else e = .returned (.tuple #[.slice none 0 0, .int .i64 5])) ∧ Below w.heap.size w w'
theorem wn_byte (kn : List ByteArray) (h : ∀ s ∈ kn, s.size ≤ 1024) : ∀ k, k ≤ kn.length → ∀ x ∈ wnTo kn k, x < 256
  | 0, _, x, hx => by cases hx
  | k + 1, hk, x, hx => by
    have h2 : (kn.getD k ByteArray.empty).size ≤ 1024 := by rw [show kn.getD k ByteArray.empty = kn[k] from by simp [show k < kn.length from by omega]]; exact h _ (List.getElem_mem _)
    rw [wnTo] at hx
    rcases List.mem_append.1 hx with g | g
    · exact wn_byte kn h k (by omega) x g
    · rcases List.mem_append.1 g with g | g
      · exact pu_bytes (by unfold sz; omega) x g
      · exact byl_byte _ x g
theorem wnP_byte {kn : List ByteArray} (h : ∀ s ∈ kn, s.size ≤ 1024) (hl : kn.length ≤ 2048) {k : Nat} (hk : k ≤ kn.length) : ∀ x ∈ wnP kn k, x < 256 := fun x hx => by
  rcases List.mem_append.1 hx with g | g
  · exact pu_bytes (by omega) x g
  · exact wn_byte kn h k hk x g
theorem wnP_len {kn : List ByteArray} (h : ∀ s ∈ kn, s.size ≤ 1024) (hl : kn.length ≤ 2048) {k : Nat} (hk : k ≤ kn.length) : (wnP kn k).length ≤ 3000000 := by
  have h1 := wnTo_len kn h k hk
  have h2 := pu_ten (n := kn.length) (by omega)
  unfold wnP
  rw [List.length_append]
  omega

/-- texts beside a row of bytes that is written -/
theorem vec_own {w w' : World} {base m n c : Nat} {v : Value} {a : Option Addr} {l : List ByteArray} {D : List Nat} (h : VecAt StrS w a n c l) (ho : w.ownsRow base 5 1 v m (bv D)) (hg : w.grownBy w' v.ownBlock) (hlow : ∀ b off s, 0 < n → a = some ⟨b, off, s⟩ → v.ownBlock ≠ some b) : VecAt StrS w' a n c l :=
  ⟨h.len, h.cap, h.capm, h.nl, h.all, fun hn => by
    obtain ⟨b, off, ha, hlt, hc⟩ := h.cells hn
    refine ⟨b, off, ha, Nat.lt_of_lt_of_le hlt hg.size, fun i hi j u hu => ?_⟩
    exact hg.cell (hc i hi j u hu) (fun e => hlow b off none hn ha e.symm)⟩
set_option maxRecDepth 100000 in
set_option maxHeartbeats 4000000 in
theorem wordsContent_any {w : World} {a : Option Addr} {n c : Nat} {l : List ByteArray} (h : VecAt StrS w a n c l) (hn : n ≤ 2048) :
    Calls Tryz.prog 42 #[.slice a n c] w fun e w' => WdSays w l e w' := by
  obtain ⟨i0, hi, hz0, hz1, hz2⟩ := info_parts info_u8
  have hcap := h.cap
  have hcm := h.capm
  have HH := Lib.hid h
  have HL := Lib.hid h.len
  have HL2 := Lib.hid (show l.length ≤ 2048 by rw [h.len]; exact hn)
  have HSF := Lib.hid (sizesfit_any h)
  clear h
  go_enter Tryz.func42, Tryz.ntmps42
  go_wp2_with fail
  refine HSF.out.mono ?_
  rintro e w1 ⟨rfl, hb1⟩
  have HB1 := Lib.hid hb1
  clear hb1
  cases hf : fitTo l n with
  | false =>
    have HNF := Lib.hid (show fitTo l l.length = false by rw [HL.out]; exact hf)
    clear hf
    go_wp2_with fail
    go_ret2
    unfold WdSays
    rw [if_neg (by rw [HNF.out]; simp)]
    exact ⟨rfl, HB1.out⟩
  | true =>
    have HFT := Lib.hid (show fitTo l l.length = true by rw [HL.out]; exact hf)
    have HF := Lib.hid (show ∀ s ∈ l, s.size ≤ 1024 from fit_all HFT.out)
    have HVA := Lib.hid (values_any (w := w1) a n c)
    have HSO := Lib.hid (sortv_any (HH.out.kept HB1.out) (by omega))
    clear hf
    go_wp2_with fail
    refine HVA.out.mono ?_
    rintro e w2 ⟨rfl, rfl⟩
    go_wp2_with fail
    refine HSO.out.mono ?_
    rintro e w3 ⟨v3, rfl, ho3, hb3⟩
    have HCO := Lib.hid (compv_any ho3 rfl (by have := HL2.out; omega) hb3.size (fun x hx => by have := HF.out x hx; omega))
    have HB3 := Lib.hid (HB1.out.trans (hb3.mono HB1.out.size))
    have HS3 := Lib.hid (show w1.heap.size ≤ w3.heap.size from hb3.size)
    clear ho3 hb3
    go_wp2_with fail
    refine HCO.out.mono ?_
    rintro e w4 ⟨a4, m4, c4, rfl, hv4, hm4, hb4⟩
    have HV4 := Lib.hid hv4
    have HB4 := Lib.hid (HB3.out.trans (hb4.mono HB1.out.size))
    have HK4 := Lib.hid hv4.len
    have hm42 : m4 ≤ 2048 := by have := HL2.out; omega
    have HKF := Lib.hid (show ∀ s ∈ kno l, s.size ≤ 1024 from fun s hs => HF.out s (((kno_facts l).2 s).1 hs))
    have hc4 := hv4.cap
    have hcm4 := hv4.capm
    have HNN := Lib.hid (number_nil (w := w4) (k := m4) (by omega))
    clear hv4 hb4
    go_wp2_with fail
    refine HNN.out.mono ?_
    rintro e w5 ⟨v5, rfl, ho5, hb5⟩
    have HB5 := Lib.hid hb5
    obtain ⟨a5, c5, rfl, _, _⟩ := BytesAt.ofOwn ho5 (pu_bytes (by omega)) (by have := pu_ten (n := m4) (by omega); omega)
    have HO5 := Lib.hid (show w5.ownsRow w4.heap.size 5 1 (.slice a5 (pu m4).length c5) (pu m4).length (bv (wnP (kno l) 0)) from by rw [wnP_0, HK4.out]; exact ho5)
    have HP5 := Lib.hid (show (pu m4).length = (wnP (kno l) 0).length from by rw [wnP_0, HK4.out])
    clear ho5 hb5
    go_wp2_with fail
    go_loopw [5, 7, 23] (fun s5 s7 s23 wr => ∃ (k m c9 : Nat) (a9 : Option Addr), k ≤ m4 ∧ s23 = .int .i64 (k : Int) ∧ s5 = .slice a9 m c9 ∧ Hid (m = (wnP (kno l) k).length) ∧ Hid (wr.ownsRow w4.heap.size 5 1 (.slice a9 m c9) m (bv (wnP (kno l) k))) ∧ Hid (Below w4.heap.size w4 wr)) (fun _ _ s23 _ => m4 - (intOf s23).toNat)
    case atStart => exact ⟨0, _, _, _, by omega, rfl, rfl, HP5, HO5, HB5⟩
    case round =>
      clear HP5 HO5
      obtain ⟨k, m, c9, a9, hk, rfl, rfl, HM, HO, HB⟩ := hrel
      rename World => wr
      by_cases hkn : k < m4
      · have hki : (k : Int) < (m4 : Int) := by omega
        obtain ⟨b, off, rfl, hlt, hok, hc9⟩ := (HV4.out.kept HB.out).get hkn
        obtain ⟨s, hs⟩ : ∃ s, s = (kno l).getD k ByteArray.empty := ⟨_, rfl⟩
        have hs2 : (kno l).getD k StrS.z = s := hs.symm
        rw [hs2] at hok hc9
        have c0 : wr.cell? ⟨b, off + k, none⟩ = some (.string s) := by
          have h1 := hc9 0 (.string s) rfl
          have e : off + k * StrS.K + 0 = off + k := by show off + k * 1 + 0 = _; omega
          rw [e] at h1; exact h1
        have hm : m ≤ 3000000 := by rw [HM.out]; exact wnP_len HKF.out (by rw [HK4.out]; omega) (by rw [HK4.out]; omega)
        have hsm : s.size ≤ 1024 := HKF.out s (by rw [hs]; exact vec_mem (S := StrS) (by rw [HK4.out]; exact hkn))
        have HNU := Lib.hid (number_any HO.out HB.out.size (by omega) (k := s.size) (by omega))
        have HS := Lib.hid hs
        have h10' := pu_ten (n := s.size) (by omega)
        clear hs hs2 hok hc9 hlt
        go_wp2_with fail
        refine HNU.out.mono ?_
        rintro e w6 ⟨v6, rfl, ho6, hg6⟩
        have HB6 := Lib.hid (below_own HB.out HO.out hg6 (Nat.le_refl _) HB.out.size)
        have HO6 := Lib.hid ho6
        have HSZ := Lib.hid HB6.out.size
        clear hg6 ho6 c0
        go_wp2_with (at_builtin; refine Lib.wpList_append_own_string _ rfl (.tmp 30) (.tmp 31) 27 9 rfl w4.heap.size 5 i0 Tryz.underlying27 Tryz.underlying9 hi hz0 hz1 hz2 _ (m + (pu s.size).length) _ rfl HO6.out s rfl (by unfold maxLen; omega) (by omega) HSZ.out ?_)
        intro v7 w7 ho7 hg7 _
        have HB7 := Lib.hid (below_own HB6.out HO6.out hg7 (Nat.le_refl _) HB6.out.size)
        rw [byl_cells, ← bv_append, wnP_s (kno l) k HS.out] at ho7
        obtain ⟨a7, c7, rfl, _, _⟩ := BytesAt.ofOwn ho7 (wnP_byte HKF.out (by rw [HK4.out]; omega) (by rw [HK4.out]; omega)) (by omega)
        have HM7 := Lib.hid (show m + (pu s.size).length + s.size = (wnP (kno l) (k + 1)).length from by rw [← wnP_s (kno l) k HS.out, List.length_append, List.length_append, byl_len, ← HM.out])
        have HO7 := Lib.hid ho7
        clear ho7 hg7
        go_wp2_with fail
        go_roundw
        case rel => exact ⟨k + 1, _, c7, a7, by omega, by go_num, rfl, HM7, HO7, HB7⟩
        case measure => simp [intOf]; omega
      · obtain rfl : k = m4 := by omega
        have h10n := pu_ten (n := n) (by omega)
        have hm0 : m ≤ 3000000 := by rw [HM.out]; exact wnP_len HKF.out (by rw [HK4.out]; omega) (by rw [HK4.out]; omega)
        have HNU := Lib.hid (number_any HO.out HB.out.size (by omega) (k := n) (by omega))
        clear hkn
        go_wp2_with fail
        refine HNU.out.mono ?_
        rintro e w6 ⟨v6, rfl, ho6, hg6⟩
        have HB6 := Lib.hid (below_own HB.out HO.out hg6 (Nat.le_refl _) HB.out.size)
        have hDb : ∀ x ∈ wnP (kno l) k ++ pu n, x < 256 := fun x hx => by
          rcases List.mem_append.1 hx with g | g
          · exact wnP_byte HKF.out (by rw [HK4.out]; omega) (by rw [HK4.out]; omega) x g
          · exact pu_bytes (by omega) x g
        obtain ⟨a6, c6, rfl, _, _⟩ := BytesAt.ofOwn ho6 hDb (by omega)
        have HDB := Lib.hid hDb
        have HM6 := Lib.hid (show m + (pu n).length = (wnP (kno l) k ++ pu n).length from by rw [List.length_append, ← HM.out])
        have HO6 := Lib.hid ho6
        have HV6 := Lib.hid (show VecAt StrS w6 a n c l from HH.out.kept (HB4.out.trans (HB6.out.mono HB4.out.size)))
        have HW6 := Lib.hid (show wordsC l = (wnP (kno l) k ++ pu n) ++ wrR (kno l) n l from by unfold wordsC; rw [HK4.out, HL.out])
        have HLO := Lib.hid (show ∀ b off s, 0 < n → a = some ⟨b, off, s⟩ → b < w4.heap.size from fun b off s hp he => by
          obtain ⟨b', off', he', hlt, _⟩ := HH.out.cells hp
          rw [he] at he'; cases he'
          exact Nat.lt_of_lt_of_le hlt HB4.out.size)
        clear ho6 hg6 hDb HM HO HB
        go_wp2_with fail
        go_loopw [0, 5, 8, 9, 10] (fun s0 s5 _ _ _ wt => ∃ (f n0 c0 m c9 : Nat) (a0 a9 : Option Addr) (rest : List ByteArray) (D : List Nat), s0 = .slice a0 n0 c0 ∧ s5 = .slice a9 m c9 ∧ n0 ≤ f ∧ n0 ≤ n ∧ m + n0 * 20 ≤ 3000100 + n * 20 ∧ Hid (VecAt StrS wt a0 n0 c0 rest) ∧ Hid (wt.ownsRow w4.heap.size 5 1 (.slice a9 m c9) m (bv D)) ∧ Hid (m = D.length) ∧ Hid (∀ x ∈ D, x < 256) ∧ Hid (∀ x ∈ rest, x ∈ l) ∧ Hid (∀ b off s, 0 < n0 → a0 = some ⟨b, off, s⟩ → b < w4.heap.size) ∧ Hid (Below w4.heap.size w4 wt) ∧ Hid (wordsC l = D ++ wrR (kno l) f rest)) (fun s0 _ _ _ _ _ => lenV s0)
        case atStart => exact ⟨n, n, c, _, _, a, _, l, _, rfl, rfl, by omega, by omega, by omega, HV6, HO6, HM6, HDB, Lib.hid (fun x hx => hx), HLO, HB6, HW6⟩
        case round =>
          clear HM6 HO6 HV6 HW6 HDB HB6
          obtain ⟨f, n0, c0, m, c9, a0, a9, rest, D, rfl, rfl, hf, hn0, hmb, HV, HO, HM, HD, HR, HLW, HB, HW⟩ := hrel
          rename World => wt
          by_cases h0 : 0 < n0
          · have h0i : (0 : Int) < (n0 : Int) := by omega
            obtain ⟨f, rfl⟩ : ∃ f', f = f' + 1 := ⟨f - 1, by omega⟩
            have HAL := Lib.hid (wd_alike_any HV.out h0 (by omega))
            have hnc0 := HV.out.cap
            have hcm0 := HV.out.capm
            go_wp2_with fail
            refine HAL.out.mono ?_
            rintro e w8 ⟨r, rfl, hal, hb8⟩
            have hrl := HV.out.len
            have hr1 := hal.pos
            have hr2 : r ≤ n0 := by have := hal.le; omega
            have hra : r = alk rest := alk_of hal
            have HB8 := Lib.hid (HB.out.trans (hb8.mono HB.out.size))
            have HV8 := Lib.hid (HV.out.kept hb8)
            have HO8 := Lib.hid (HO.out.kept (below_grown hb8 none) (by cases hv : (Value.slice a9 m c9).ownBlock <;> simp))
            obtain ⟨b, off, rfl, hlt, hok, hc9⟩ := HV8.out.get h0
            obtain ⟨z, hz⟩ : ∃ z, z = rest.getD 0 ByteArray.empty := ⟨_, rfl⟩
            have hz2 : rest.getD 0 StrS.z = z := hz.symm
            rw [hz2] at hc9
            have cz : w8.cell? ⟨b, off, none⟩ = some (.string z) := by
              have h1 := hc9 0 (.string z) rfl
              have e : off + 0 * StrS.K + 0 = off := by omega
              rw [e] at h1; exact h1
            have hzl : z ∈ l := HR.out z (by rw [hz]; exact vec_mem (S := StrS) (by rw [hrl]; exact h0))
            obtain ⟨k1, k2, k3, k4⟩ := kno_plc hzl
            obtain ⟨p, hp⟩ : ∃ p, p = plc (kno l) z := ⟨_, rfl⟩
            rw [← hp] at k1 k2 k3 k4
            have hpk : p < k := by rw [← HK4.out]; exact k1
            have HBS := Lib.hid (bsearch_any (HV4.out.kept HB8.out) (by omega) hpk k3 (fun t h1 h2 => k4 t h1 (by rw [HK4.out]; exact h2)) k2)
            have hst : wrR (kno l) (f + 1) rest = pu p ++ pu r ++ wrR (kno l) f (rest.drop r) := by rw [wrR, if_neg (by omega), ← hz, ← hp, ← hra]
            have HST := Lib.hid hst
            clear hal hb8 hz hz2 hok hc9 hzl k1 k2 k3 k4 hp hst hra
            go_wp2_with fail
            refine HBS.out.mono ?_
            rintro e w9 ⟨rfl, q, hq⟩
            have HB9 := Lib.hid (show Below w4.heap.size w4 w9 from by rw [hq]; exact ct_drewN HB8.out HB8.out.size q)
            have HO9 := Lib.hid (show w9.ownsRow w4.heap.size 5 1 (.slice a9 m c9) m (bv D) from by rw [hq]; exact HO8.out.kept (grown_drewN w8 q none) (by cases hv : (Value.slice a9 m c9).ownBlock <;> simp))
            have HV9 := Lib.hid (show VecAt StrS w9 (some ⟨b, off, none⟩) n0 c0 rest from by rw [hq]; exact HV8.out.kept (ct_drewN (Below.refl _ _) (Nat.le_refl _) q))
            have hp10 := pu_ten (n := p) (by omega)
            have hr10 := pu_ten (n := r) (by omega)
            have HN1 := Lib.hid (number_any HO9.out HB9.out.size (by omega) (k := p) (by omega))
            clear hq cz
            go_wp2_with fail
            refine HN1.out.mono ?_
            rintro e w10 ⟨v10, rfl, ho10, hg10⟩
            have HB10 := Lib.hid (below_own HB9.out HO9.out hg10 (Nat.le_refl _) HB9.out.size)
            have HV10 := Lib.hid (vec_own HV9.out HO9.out hg10 (fun b' off' s' _ he e => by cases he; have h1 := (HO9.out.lt _ e).1; have h2 := HLW.out b off none h0 rfl; omega))
            have HO10 := Lib.hid ho10
            have HN2 := Lib.hid (number_any HO10.out HB10.out.size (by omega) (k := r) (by omega))
            clear ho10 hg10
            go_wp2_with fail
            refine HN2.out.mono ?_
            rintro e w11 ⟨v11, rfl, ho11, hg11⟩
            have HB11 := Lib.hid (below_own HB10.out HO10.out hg11 (Nat.le_refl _) HB10.out.size)
            have hDb : ∀ x ∈ (D ++ pu p) ++ pu r, x < 256 := fun x hx => by
              rcases List.mem_append.1 hx with g | g
              · rcases List.mem_append.1 g with g | g
                · exact HD.out x g
                · exact pu_bytes (by omega) x g
              · exact pu_bytes (by omega) x g
            have HV11 := Lib.hid (vec_drop (vec_own HV10.out HO10.out hg11 (fun b' off' s' _ he e => by cases he; have h1 := (HO10.out.lt _ e).1; have h2 := HLW.out b off none h0 rfl; omega)) hr2)
            obtain ⟨a11, c11, rfl, _, _⟩ := BytesAt.ofOwn ho11 hDb (by omega)
            have hsl := slice_from (some ⟨b, off, none⟩) n0 c0 r hr2
            have HO11 := Lib.hid ho11
            have HDB := Lib.hid hDb
            have HM11 := Lib.hid (show m + (pu p).length + (pu r).length = ((D ++ pu p) ++ pu r).length from by rw [List.length_append, List.length_append, ← HM.out])
            have HW11 := Lib.hid (show wordsC l = ((D ++ pu p) ++ pu r) ++ wrR (kno l) f (rest.drop r) from by rw [HW.out, HST.out]; simp only [List.append_assoc])
            clear ho11 hg11 hDb
            go_wp2_with fail
            go_roundw
            case rel => exact ⟨f, n0 - r, c0 - r, _, c11, _, a11, rest.drop r, _, rfl, rfl, by omega, by omega, by omega, Lib.hid (by have h := HV11.out; simpa [Addr.add, show ¬ r = 0 from by omega] using h), HO11, HM11, HDB, Lib.hid (fun x hx => HR.out x (List.mem_of_mem_drop hx)), Lib.hid (fun b' off' s' hp he => by rw [if_neg (by omega)] at he; simp at he; rw [← he.1]; exact HLW.out b off none h0 rfl), HB11, HW11⟩
            case measure => simp [lenV]; omega
          · obtain rfl : n0 = 0 := by omega
            have hr0 : rest = [] := List.eq_nil_of_length_eq_zero HV.out.len
            have hwe : wordsC l = D := by
              rw [HW.out, hr0]
              cases f with
              | zero => rw [wrR, List.append_nil]
              | succ f => rw [wrR]; simp
            have HOF := Lib.hid (show wt.ownsRow w.heap.size 5 1 (.slice a9 m c9) (wordsC l).length (bv (wordsC l)) from by rw [hwe, ← HM.out]; exact own_lower HO.out HB4.out.size)
            have HBF := Lib.hid (HB4.out.trans (HB.out.mono HB4.out.size))
            clear h0 hr0 hwe
            go_wp2_with fail
            go_ret2
            unfold WdSays
            rw [if_pos HFT.out]
            exact ⟨⟨_, rfl, HOF.out⟩, HBF.out⟩
end Go.Proofs.YtpbijdoemdoijaaGreatDoor
end PkCa18_0
section PkCa18_1
/- A column of words: what is put is read, plainly. -/
namespace Go.Proofs.YtpbijdoemdoijaaGreatDoor
open Go.RowKit BitsPlain NumsPlain
set_option linter.unusedVariables false

theorem ct_at (pre : List Nat) {s : ByteArray} (r : List Nat) (h : s.size ≤ 1024) : ct (pre ++ (pu s.size ++ (byl s ++ r))) pre.length 0 1024 = (byl s, pre.length + ((pu s.size).length + s.size), 0) := by
  have h1 := cn_at pre (byl s ++ r) (n := s.size) (most := 1024) (above := 5) (by omega) (by omega)
  have h2 := cb_at (pre ++ pu s.size) (byl s) r
  rw [List.append_assoc, List.length_append, byl_len] at h2
  unfold ct
  rw [if_neg (by simp)]
  simp only [h1, h2]
  rw [if_neg (by simp), Nat.add_assoc]
theorem wnTo_split (kn : List ByteArray) (k : Nat) : ∀ m, ∃ r, wnTo kn (k + 1 + m) = wnTo kn k ++ (pu (sz kn k) ++ (byl (kn.getD k ByteArray.empty) ++ r))
  | 0 => ⟨[], by rw [Nat.add_zero, wnTo, List.append_nil]⟩
  | m + 1 => by
    obtain ⟨r, hr⟩ := wnTo_split kn k m
    exact ⟨r ++ (pu (sz kn (k + 1 + m)) ++ byl (kn.getD (k + 1 + m) ByteArray.empty)), by rw [← Nat.add_assoc, wnTo, hr]; simp⟩
theorem knR_of {kn : List ByteArray} (h : ∀ s ∈ kn, s.size ≤ 1024) (pre rest : List Nat) : ∀ k, k ≤ kn.length → knR (pre ++ (wnTo kn kn.length ++ rest)) pre.length 0 k = (kn.take k, pre.length + (wnTo kn k).length, 0)
  | 0, _ => by simp [knR, wnTo]
  | k + 1, hk => by
    have hkl : k < kn.length := by omega
    rw [knR, knR_of h pre rest k (by omega)]
    have hz : (kn.getD k ByteArray.empty).size ≤ 1024 := by rw [show kn.getD k ByteArray.empty = kn[k] from by simp [hkl]]; exact h _ (List.getElem_mem _)
    obtain ⟨r, hr⟩ := wnTo_split kn k (kn.length - (k + 1))
    rw [show k + 1 + (kn.length - (k + 1)) = kn.length from by omega] at hr
    have e1 : pre ++ (wnTo kn kn.length ++ rest) = (pre ++ wnTo kn k) ++ (pu (sz kn k) ++ (byl (kn.getD k ByteArray.empty) ++ (r ++ rest))) := by rw [hr]; simp
    have h1 := ct_at (pre ++ wnTo kn k) (s := kn.getD k ByteArray.empty) (r ++ rest) hz
    rw [show (kn.getD k ByteArray.empty).size = sz kn k from rfl, ← e1, List.length_append] at h1
    simp only [h1]
    rw [bs_byl, wnTo, List.length_append, List.length_append, byl_len, List.take_add_one, List.getElem?_eq_getElem hkl]
    simp [hkl, sz, Nat.add_assoc]
theorem alk_take (l : List ByteArray) : l.take (alk l) = List.replicate (alk l) (l.getD 0 ByteArray.empty) := by
  obtain ⟨t, ht⟩ : ∃ t, t = l.takeWhile fun s => decide (s = l.getD 0 ByteArray.empty) := ⟨_, rfl⟩
  have h1 : l.take (alk l) = t := by
    have := List.prefix_iff_eq_take.1 (List.takeWhile_prefix (l := l) fun s => decide (s = l.getD 0 ByteArray.empty))
    rw [ht]; exact this.symm
  have h2 : alk l = t.length := by rw [ht]; rfl
  rw [h1, h2]
  refine List.eq_replicate_iff.2 ⟨rfl, fun b hb => ?_⟩
  rw [ht] at hb
  have h3 := List.all_eq_true.1 (List.all_takeWhile (l := l) (p := fun s => decide (s = l.getD 0 ByteArray.empty))) b hb
  exact of_decide_eq_true h3
theorem alk_le (l : List ByteArray) : alk l ≤ l.length := (List.takeWhile_sublist _).length_le
theorem wrR_nil (kn : List ByteArray) : ∀ g, wrR kn g [] = []
  | 0 => rfl
  | _ + 1 => by rw [wrR]; rfl
theorem wdF_done {xs : List Nat} {kn l : List ByteArray} {R i e : Nat} (h : ¬ l.length < R) : ∀ f, wdF xs kn R f l i e = some (l, i, e)
  | 0 => rfl
  | _ + 1 => by rw [wdF, if_neg h]
theorem wdF_of {kn : List ByteArray} {R : Nat} (hkn : kn.length ≤ 2048) (hR : R ≤ 2048) : ∀ (N : Nat) (f g : Nat) (l rest : List ByteArray) (pre : List Nat), rest.length ≤ N → rest.length < f → rest.length ≤ g → l.length + rest.length = R → (∀ z ∈ rest, plc kn z < kn.length ∧ kn.getD (plc kn z) ByteArray.empty = z) → wdF (pre ++ wrR kn g rest) kn R f l pre.length 0 = some (l ++ rest, (pre ++ wrR kn g rest).length, 0)
  | N, f, g, l, [], pre, _, _, _, hl, _ => by
    rw [wrR_nil, List.append_nil, List.append_nil]
    exact wdF_done (by simp at hl; omega) f
  | 0, _, _, _, _ :: _, _, hN, _, _, _, _ => by simp at hN
  | N + 1, 0, _, _, _ :: _, _, _, hf, _, _, _ => by simp at hf
  | N + 1, f + 1, 0, _, _ :: _, _, _, _, hg, _, _ => by simp at hg
  | N + 1, f + 1, g + 1, l, y :: ys, pre, hN, hf, hg, hl, hp => by
    obtain ⟨rest, hrest⟩ : ∃ rest, rest = y :: ys := ⟨_, rfl⟩
    rw [← hrest] at hN hf hg hl hp ⊢
    have h0 : 0 < rest.length := by rw [hrest]; simp
    have hz : rest.getD 0 ByteArray.empty = y := by rw [hrest]; rfl
    have hpl := hp y (by rw [hrest]; simp)
    have ha := alk_pos h0
    have hb := alk_le rest
    obtain ⟨p, hpe⟩ : ∃ p, p = plc kn y := ⟨_, rfl⟩
    obtain ⟨q, hqe⟩ : ∃ q, q = alk rest := ⟨_, rfl⟩
    rw [← hpe] at hpl
    rw [← hqe] at ha hb
    have ew : wrR kn (g + 1) rest = pu p ++ (pu q ++ wrR kn g (rest.drop q)) := by
      rw [wrR, if_neg (by omega), hz, ← hpe, ← hqe, List.append_assoc]
    have c1 := cn_at pre (pu q ++ wrR kn g (rest.drop q)) (n := p) (most := (kn.length : Int) - 1) (above := 2) (by omega) (by omega)
    have c2 := cn_at (pre ++ pu p) (wrR kn g (rest.drop q)) (n := q) (most := (R : Int) - (l.length : Int)) (above := 2) (by omega) (by omega)
    rw [List.append_assoc, List.length_append] at c2
    have hlt : l.length < R := by omega
    have htk : rest.take q = List.replicate q y := by rw [hqe, alk_take, hz]
    have ih := wdF_of hkn hR N f g (l ++ List.replicate q y) (rest.drop q) ((pre ++ pu p) ++ pu q) (by rw [List.length_drop]; omega) (by rw [List.length_drop]; omega) (by rw [List.length_drop]; omega) (by rw [List.length_append, List.length_replicate, List.length_drop]; omega) (fun z hz => hp z (List.mem_of_mem_drop hz))
    have e1 : ((pre ++ pu p) ++ pu q) ++ wrR kn g (rest.drop q) = pre ++ (pu p ++ (pu q ++ wrR kn g (rest.drop q))) := by simp
    have e2 : ((pre ++ pu p) ++ pu q).length = pre.length + (pu p).length + (pu q).length := by simp [Nat.add_assoc]
    rw [e1, e2] at ih
    rw [wdF, if_pos hlt, ew]
    simp only [c1, c2]
    rw [if_neg (by omega), hpl.2, ih, List.append_assoc l, ← htk, List.take_append_drop]
/-- what is put is read -/
theorem rdW_of {l : List ByteArray} (hl : l.length ≤ 2048) (h : ∀ s ∈ l, s.size ≤ 1024) : rdW (wordsC l) = l := by
  obtain ⟨kn, hkn⟩ : ∃ kn, kn = kno l := ⟨_, rfl⟩
  have hk1 : kn.length ≤ l.length := by rw [hkn]; exact kno_le
  have hk2 : ∀ s ∈ kn, s.size ≤ 1024 := fun s hs => h s (((kno_facts l).2 s).1 (by rw [← hkn]; exact hs))
  have hk3 : ∀ z ∈ l, plc kn z < kn.length ∧ kn.getD (plc kn z) ByteArray.empty = z := fun z hz => by rw [hkn]; exact idx_find hz
  have e0 : wordsC l = pu kn.length ++ (wnTo kn kn.length ++ (pu l.length ++ wrR kn l.length l)) := by
    unfold wordsC wnP; rw [← hkn]; simp
  have c1 := cn_at [] (wnTo kn kn.length ++ (pu l.length ++ wrR kn l.length l)) (n := kn.length) (most := 2048) (above := 2) (by omega) (by omega)
  rw [List.nil_append, List.length_nil, Nat.zero_add, ← e0] at c1
  have c2 := knR_of hk2 (pu kn.length) (pu l.length ++ wrR kn l.length l) kn.length (Nat.le_refl _)
  rw [← e0, List.take_length] at c2
  have c3 := cn_at (pu kn.length ++ wnTo kn kn.length) (wrR kn l.length l) (n := l.length) (most := 2048) (above := 2) (by omega) (by omega)
  rw [List.append_assoc, ← e0, List.length_append] at c3
  have c4 := wdF_of (R := l.length) (by omega) hl l.length (l.length + 1) l.length [] l ((pu kn.length ++ wnTo kn kn.length) ++ pu l.length) (Nat.le_refl _) (by omega) (Nat.le_refl _) (by simp) hk3
  have e1 : ((pu kn.length ++ wnTo kn kn.length) ++ pu l.length) ++ wrR kn l.length l = wordsC l := by rw [e0]; simp
  have e2 : ((pu kn.length ++ wnTo kn kn.length) ++ pu l.length).length = (pu kn.length).length + (wnTo kn kn.length).length + (pu l.length).length := by simp [Nat.add_assoc]
  rw [e1, e2, List.nil_append] at c4
  unfold rdW
  simp only [c1, c2, c3]
  have c5 : wdF (wordsC l) kn l.length (l.length + 1) [] ((pu kn.length).length + (wnTo kn kn.length).length + (pu l.length).length) 0 = some (l, (wordsC l).length, 0) := by
    rw [← c4]
  simp only [c5]
  rw [if_pos (by unfold cend; rw [if_pos rfl, if_neg (by omega)])]
theorem wr_byte (kn : List ByteArray) (hk : kn.length ≤ 2048) : ∀ f l, l.length ≤ 2048 → ∀ x ∈ wrR kn f l, x < 256
  | 0, _, _, x, hx => by cases hx
  | f + 1, l, hl, x, hx => by
    rw [wrR] at hx
    split at hx
    · cases hx
    · have h2 : plc kn (l.getD 0 ByteArray.empty) ≤ kn.length := List.findIdx_le_length
      have h3 := alk_le l
      rcases List.mem_append.1 hx with g | g
      · rcases List.mem_append.1 g with g | g
        · exact pu_bytes (by omega) x g
        · exact pu_bytes (by omega) x g
      · exact wr_byte kn hk f (l.drop (alk l)) (by rw [List.length_drop]; omega) x g
theorem wordsC_byte {l : List ByteArray} (hl : l.length ≤ 2048) (h : ∀ s ∈ l, s.size ≤ 1024) : ∀ x ∈ wordsC l, x < 256 := fun x hx => by
  have hk1 := kno_le (l := l)
  have hk2 : ∀ s ∈ kno l, s.size ≤ 1024 := fun s hs => h s (((kno_facts l).2 s).1 hs)
  unfold wordsC at hx
  rcases List.mem_append.1 hx with g | g
  · rcases List.mem_append.1 g with g | g
    · exact wnP_byte hk2 (by omega) (Nat.le_refl _) x g
    · exact pu_bytes (by omega) x g
  · exact wr_byte _ (by omega) _ l hl x g
theorem wordsC_len {l : List ByteArray} (hl : l.length ≤ 2048) (h : ∀ s ∈ l, s.size ≤ 1024) : (wordsC l).length ≤ 10000000 := by
  have hk1 := kno_le (l := l)
  have hk2 : ∀ s ∈ kno l, s.size ≤ 1024 := fun s hs => h s (((kno_facts l).2 s).1 hs)
  have h1 := wnP_len hk2 (by omega) (Nat.le_refl _)
  have h2 := wrR_len (kno l) (by omega) l.length l (by omega)
  have h3 := pu_ten (n := l.length) (by omega)
  unfold wordsC
  rw [List.length_append, List.length_append]
  omega
end Go.Proofs.YtpbijdoemdoijaaGreatDoor
end PkCa18_1
section PkCa18_2
/- Columns of flags put and read; layer 10's fixed fact. -/
namespace Go.Proofs.YtpbijdoemdoijaaGreatDoor
open Go.RowKit BitsPlain NumsPlain CrcPlain
set_option linter.unusedVariables false

theorem fbits_len (f : List Bool) : (fbits f).length = f.length := by unfold fbits; rw [List.length_map]
theorem flC_ok {f : List Bool} (h : f.length ≤ 2048) : (∀ x ∈ flC f, x < 256) ∧ (flC f).length ≤ 300 := by
  have h1 := pu_ten (n := f.length) (by omega)
  refine ⟨fun x hx => ?_, ?_⟩
  · unfold flC at hx
    rcases List.mem_append.1 hx with e | e
    · exact pu_bytes (by omega) x e
    · exact pack_byte (fbits_bin f) x e
  · unfold flC
    rw [List.length_append, pack_length, fbits_len]
    omega

set_option maxRecDepth 100000 in
set_option maxHeartbeats 2000000 in
theorem putFlags_any {w : World} (hT : Table w) {a : Option Addr} {n c : Nat} {f : List Bool} (h : FlAt w a n c f) (hn : n ≤ 2048) :
    Calls Tryz.prog 17 #[.slice a n c] w fun e w' => ∃ a' m' c', e = .returned (.tuple #[.slice a' m' c', .int .i64 0]) ∧ w'.ownsRow w.heap.size 5 1 (.slice a' m' c') m' (bv (chunk 4 (flC f))) ∧ BytesAt w' a' m' c' (chunk 4 (flC f)) ∧ Below w.heap.size w w' := by
  have hok := flC_ok (f := f) (by rw [h.len]; exact hn)
  have HP := Lib.hid (putB_any hT (k := 4) hn (by omega) (flagsContent_any h (by omega)) hok.1 (by have := hok.2; omega))
  clear hT h hok
  go_enter Tryz.func17, Tryz.ntmps17
  go_wp2_with fail
  refine HP.out.mono ?_
  rintro e w1 ⟨a', m', c', rfl, ho, hb, hbl⟩
  have HO := Lib.hid ho
  have HBY := Lib.hid hb
  have HB := Lib.hid hbl
  clear ho hb hbl
  go_wp2_with fail
  first | go_ret2 | go_ret
  exact ⟨a', m', c', rfl, HO.out, HBY.out, HB.out⟩

set_option maxRecDepth 100000 in
set_option maxHeartbeats 4000000 in
theorem readB_any {w : World} (hT : Table w) {a : Option Addr} {n c : Nat} {f : List Bool} (h : BytesAt w a n c (chunk 4 (flC f))) (hn : n ≤ 100000) (hf : f.length ≤ 2048) (h0 : 0 < f.length) (hd : ¬ (dfl (flC f)).length < (flC f).length) :
    Calls Tryz.prog 60 #[.slice a n c, .func (.func 61) #[] #[], .func (.func 17) #[] #[]] w fun e w' => ∃ v, e = .returned (.tuple #[v, .int .i64 0]) ∧ w'.ownsRow w.heap.size 4 1 v f.length (bl f) ∧ Below w.heap.size w w' := by
  have hch : chunk 4 (flC f) = sealed ([4, 0] ++ pu (flC f).length ++ flC f) := if_neg hd
  have hok := flC_ok hf
  have HT := Lib.hid (show ∀ w', Below w.heap.size w w' → Table w' from fun w' h => hT.below h)
  have HOP := open_any hT h hn
  have hop : op (chunk 4 (flC f)) = ([4, 0] ++ pu (flC f).length ++ flC f, 0) := by rw [hch]; exact op_sealed _
  rw [hop] at HOP
  simp only at HOP
  have HOP := Lib.hid HOP
  have HX := Lib.hid h
  have HL2 := Lib.hid hok.2
  clear hT h hch hop hok
  go_enter Tryz.func60, Tryz.ntmps60
  go_wp2_with fail
  refine HOP.out.mono ?_
  rintro e w1 ⟨a1, m1, c1, rfl, h1, hb1, _⟩
  have HB1 := Lib.hid hb1
  have HCO := Lib.hid (content_bare h1 (by omega) (by have := HL2.out; omega))
  clear h1 hb1
  go_wp2_with fail
  refine HCO.out.mono ?_
  rintro e w2 ⟨a2, c2, rfl, h2, hb2⟩
  have HB2 := Lib.hid (HB1.out.trans (hb2.mono HB1.out.size))
  have HCF := Lib.hid (contentFlags_any h2 hf h0)
  clear h2 hb2
  go_wp2_with fail
  refine HCF.out.mono ?_
  rintro e w3 ⟨v3, rfl, ho3, hb3⟩
  obtain ⟨a3, c3, rfl, hfl⟩ := FlAt.ofOwn ho3
  have HB3 := Lib.hid (HB2.out.trans (hb3.mono HB2.out.size))
  have HO3 := Lib.hid (own_lower ho3 HB2.out.size)
  have HPF := Lib.hid (putFlags_any (HT.out w3 HB3.out) hfl hf)
  clear ho3 hb3 hfl
  go_wp2_with fail
  refine HPF.out.mono ?_
  rintro e w4 ⟨a4, m4, c4, rfl, _, h4, hb4⟩
  have HB4 := Lib.hid (HB3.out.trans (hb4.mono HB3.out.size))
  have HO4 := Lib.hid (own_below HO3.out hb4)
  have heq := equal_any h4 (HX.out.kept HB4.out)
  rw [beq_self_eq_true] at heq
  have HEQ := Lib.hid heq
  clear h4 hb4 heq
  go_wp2_with fail
  refine HEQ.out.mono ?_
  rintro e w5 ⟨rfl, rfl⟩
  go_wp2_with fail
  first | go_ret2 | go_ret
  exact ⟨_, rfl, HO4.out, HB4.out⟩

set_option maxRecDepth 100000 in
set_option maxHeartbeats 2000000 in
theorem flags_any {w : World} (hT : Table w) {a : Option Addr} {n c : Nat} {f : List Bool} (h : BytesAt w a n c (chunk 4 (flC f))) (hn : n ≤ 100000) (hf : f.length ≤ 2048) (h0 : 0 < f.length) (hd : ¬ (dfl (flC f)).length < (flC f).length) :
    Calls Tryz.prog 30 #[.slice a n c] w fun e w' => ∃ v, e = .returned (.tuple #[v, .int .i64 0]) ∧ w'.ownsRow w.heap.size 4 1 v f.length (bl f) ∧ Below w.heap.size w w' := by
  have HR := Lib.hid (readB_any hT h hn hf h0 hd)
  clear hT h hd
  go_enter Tryz.func30, Tryz.ntmps30
  go_wp2_with fail
  refine HR.out.mono ?_
  rintro e w1 ⟨v, rfl, ho, hbl⟩
  have HO := Lib.hid ho
  have HB := Lib.hid hbl
  clear ho hbl
  go_wp2_with fail
  first | go_ret2 | go_ret
  exact ⟨_, rfl, HO.out, HB.out⟩

theorem flC_one : flC [true, false, true] = [3, 5] := by decide +kernel
theorem dfl_35 : ¬ (dfl [3, 5]).length < 2 := by decide +kernel

set_option maxRecDepth 100000 in
set_option maxHeartbeats 2000000 in
theorem lives10_any {w : World} (hT : Table w) :
    Calls Tryz.prog 7 #[] w fun e w' => e = .returned (.bool true) ∧ Below w.heap.size w w' := by
  obtain ⟨w1, hw1⟩ : ∃ w1, w1 = w.alloc (.cells #[.bool true, .bool false, .bool true] 4) := ⟨_, rfl⟩
  have o1 := World.ownsRow_lit (base := w.heap.size) (e := 4) (size := 1) w #[.bool true, .bool false, .bool true] 3 (Nat.le_refl _) (by unfold maxLen; omega) rfl
  rw [← hw1] at o1
  have b1 : Below w.heap.size w w1 := by rw [hw1]; exact (Below.refl _ _).alloc (Nat.le_refl _) _
  obtain ⟨a1, c1, he, hf1⟩ := FlAt.ofOwn (l := [true, false, true]) o1
  simp only [Value.slice.injEq, true_and] at he
  obtain ⟨rfl, rfl⟩ := he
  have HP := Lib.hid (putFlags_any (hT.below b1) hf1 (by omega))
  have HT := Lib.hid (show ∀ w', Below w.heap.size w w' → Table w' from fun w' h => hT.below h)
  have HB1 := Lib.hid b1
  have HW1 := Lib.hid hw1
  have hch : chunk 4 [3, 5] = [4, 0, 2, 3, 5] ++ le (crcN [4, 0, 2, 3, 5]) 4 := by
    unfold chunk
    rw [if_neg (show ¬ (dfl [3, 5]).length < ([3, 5] : List Nat).length from dfl_35), show pu ([3, 5] : List Nat).length = [2] from pu_small (by decide)]
    rfl
  have HCH := Lib.hid hch
  clear hT o1 b1 hf1 hw1 hch
  go_enter Tryz.func7, Tryz.ntmps7
  go_wp2_with fail
  rw [← HW1.out]
  refine HP.out.mono ?_
  rintro e w2 ⟨a2, m2, c2, rfl, _, h2, hb2⟩
  have HB2 := Lib.hid (HB1.out.trans (hb2.mono HB1.out.size))
  have hm2 : m2 = 9 := by
    rw [← h2.len, flC_one, HCH.out]
    rfl
  subst hm2
  have HFL := Lib.hid (flags_any (HT.out w2 HB2.out) h2 (by omega) (by decide) (by decide) (by rw [flC_one]; exact dfl_35))
  have H2 := Lib.hid h2
  clear h2 hb2
  go_wp2_with fail
  refine HFL.out.mono ?_
  rintro e w3 ⟨v3, rfl, ho3, hb3⟩
  obtain ⟨a3, c3, rfl, hfl⟩ := FlAt.ofOwn ho3
  have HB3 := Lib.hid (HB2.out.trans (hb3.mono HB2.out.size))
  have h3 := H2.out.kept hb3
  obtain ⟨g, off, rfl, hg, hcell⟩ := h3.cells (by omega)
  have hc4 := hcell 4 (by omega)
  rw [flC_one, HCH.out] at hc4
  have hc4 : w3.cell? ⟨g, off + 4, none⟩ = some (.int .u8 5) := hc4
  have hcap := h3.cap
  clear ho3 hb3 hfl h3 hcell
  simp only [List.length_cons, List.length_nil]
  go_wp2_with fail
  go_ret
  exact ⟨rfl, HB3.out⟩
end Go.Proofs.YtpbijdoemdoijaaGreatDoor
end PkCa18_2
