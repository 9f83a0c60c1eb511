/- Package label's digit and plain, walked. -/
import Derived.Test.YtiboghehonmpnaaLabParsePlain
import Derived.Test.YtiboghehonmpnaaLabShelf
import Derived.BigQuiet
namespace Go.Proofs.Ytiboghehonmpnaa
open Go.RowKit LabPlain
set_option linter.unusedVariables false

/-- a digit's number; 0 of what is none -/
def dgv (c : Nat) : Nat := if 48 ≤ c ∧ c ≤ 57 then c - 48 else if 97 ≤ c ∧ c ≤ 102 then c - 87 else 0
theorem dgv_lt (c : Nat) : dgv c < 16 := by
  unfold dgv
  repeat' split
  all_goals omega
theorem dgv_dg {n : Nat} (h : n < 16) : dgv (dg n) = n := by
  unfold dgv dg
  repeat' split
  all_goals omega
set_option maxRecDepth 100000 in
theorem ix_dgv : ∀ c, c < 256 → max 0 (Lib.indexByte [48, 49, 50, 51, 52, 53, 54, 55, 56, 57, 97, 98, 99, 100, 101, 102] c.toUInt8) = (dgv c : Int) := by decide +kernel

set_option maxRecDepth 100000 in
set_option maxHeartbeats 1000000 in
theorem digit_any (c : Nat) (hc : c < 256) (w : World) :
    Calls Try.prog 45 #[.int .u8 (c : Int)] w fun e w' => e = .returned (.int .u8 (dgv c : Int)) ∧ w' = w := by
  have HP := Lib.hid (sh_strings_IndexByte { data := #[48, 49, 50, 51, 52, 53, 54, 55, 56, 57, 97, 98, 99, 100, 101, 102] } (c : Int) w)
  obtain ⟨r, hr⟩ : ∃ r, r = Lib.indexByte [48, 49, 50, 51, 52, 53, 54, 55, 56, 57, 97, 98, 99, 100, 101, 102] c.toUInt8 := ⟨_, rfl⟩
  have hm : max 0 r = (dgv c : Int) := by rw [hr]; exact ix_dgv c hc
  have hd := dgv_lt c
  have HR := Lib.hid hr
  have HM := Lib.hid hm
  clear hr
  by_cases g : r < 0
  · have hz : dgv c = 0 := by omega
    have HZ := Lib.hid hz
    clear hm hz hd
    go_enter Try.func45, Try.ntmps45
    go_wp2_with fail
    refine HP.out.mono ?_
    rintro e w' ⟨rfl, rfl⟩
    rw [show Lib.indexByte ({ data := #[48, 49, 50, 51, 52, 53, 54, 55, 56, 57, 97, 98, 99, 100, 101, 102] } : ByteArray).data.toList (c : Int).toNat.toUInt8 = r from HR.out.symm]
    go_wp2_with fail
    go_ret
    rw [HZ.out]; exact ⟨by show Ending.returned (.int .u8 (max 0 r)) = .returned (.int .u8 ((0 : Nat) : Int)); rw [HM.out, HZ.out], rfl⟩
  · replace g : 0 ≤ r := by omega
    obtain ⟨k, rfl⟩ : ∃ k : Nat, r = (k : Int) := ⟨r.toNat, by omega⟩
    have hz : dgv c = k := by omega
    rw [hz] at hd
    have HZ := Lib.hid hz
    clear hm hz
    go_enter Try.func45, Try.ntmps45
    go_wp2_with fail
    refine HP.out.mono ?_
    rintro e w' ⟨rfl, rfl⟩
    rw [show Lib.indexByte ({ data := #[48, 49, 50, 51, 52, 53, 54, 55, 56, 57, 97, 98, 99, 100, 101, 102] } : ByteArray).data.toList (c : Int).toNat.toUInt8 = (k : Int) from HR.out.symm]
    go_wp2_with fail
    go_ret
    rw [HZ.out]; exact ⟨rfl, rfl⟩

/-- the byte at the head, and how many it takes -/
def plS : List UInt8 → Nat × Nat
  | c :: a :: b :: _ => if c = 92 then (dgv a.toNat * 16 + dgv b.toNat, 3) else (c.toNat, 1)
  | c :: _ => (c.toNat, 1)
  | [] => (0, 1)
/-- the value that is quoted so -/
def plF : Nat → List UInt8 → List Nat
  | 0, _ => []
  | f + 1, [] => []
  | f + 1, c :: r => (plS (c :: r)).1 :: plF f ((c :: r).drop (plS (c :: r)).2)
theorem plS_lt (l : List UInt8) : (plS l).1 < 256 := by
  unfold plS
  split
  · split
    · rename_i c a b _ _
      have := dgv_lt a.toNat
      have := dgv_lt b.toNat
      show dgv a.toNat * 16 + dgv b.toNat < 256
      omega
    · exact UInt8.toNat_lt _
  · exact UInt8.toNat_lt _
  · show (0 : Nat) < 256; omega
theorem plF_lt : ∀ (f : Nat) (l : List UInt8), ∀ x ∈ plF f l, x < 256
  | 0, _, x, h => by cases h
  | f + 1, [], x, h => by cases h
  | f + 1, c :: r, x, h => by
    rw [plF] at h
    rcases List.mem_cons.1 h with rfl | h
    · exact plS_lt _
    · exact plF_lt f _ x h
theorem plS_pos (l : List UInt8) : 1 ≤ (plS l).2 := by
  rcases l with _ | ⟨c, _ | ⟨a, _ | ⟨b, r⟩⟩⟩
  · exact Nat.le_refl _
  · exact Nat.le_refl _
  · exact Nat.le_refl _
  · show 1 ≤ (if c = 92 then (dgv a.toNat * 16 + dgv b.toNat, 3) else (c.toNat, 1)).2
    split
    · show 1 ≤ 3; omega
    · exact Nat.le_refl _
def szOf : Value → Nat
  | .string s => s.size
  | _ => 0
theorem plF_len : ∀ (f : Nat) (l : List UInt8), (plF f l).length ≤ l.length
  | 0, _ => Nat.zero_le _
  | f + 1, [] => Nat.zero_le _
  | f + 1, c :: r => by
    have h := plF_len f ((c :: r).drop (plS (c :: r)).2)
    have h2 := plS_pos (c :: r)
    rw [plF, List.length_cons]
    rw [List.length_drop] at h
    rw [List.length_cons] at h ⊢
    omega
theorem plS_whole (c : UInt8) (r : List UInt8) : plS (qu c ++ r) = (c.toNat, (qu c).length) := by
  cases hc : plainC c.toNat with
  | true =>
    have h92 : c ≠ 92 := by intro e; subst e; revert hc; decide
    rw [qu_plain hc]
    rcases r with _ | ⟨a, _ | ⟨b, t⟩⟩
    · rfl
    · rfl
    · show (if c = 92 then _ else (c.toNat, 1)) = _
      rw [if_neg h92]; rfl
  | false =>
    have hl := UInt8.toNat_lt c
    have e : ∀ n, n < 16 → (UInt8.ofNat (dg n)).toNat = dg n := fun n hn => by rw [UInt8.toNat_ofNat', Nat.mod_eq_of_lt (dg_lt n hn)]
    rw [qu_not hc]
    show (if (92 : UInt8) = 92 then (dgv (UInt8.ofNat (dg (c.toNat / 16))).toNat * 16 + dgv (UInt8.ofNat (dg (c.toNat % 16))).toNat, 3) else ((92 : UInt8).toNat, 1)) = _
    rw [if_pos rfl, e _ (by omega), e _ (by omega), dgv_dg (by omega), dgv_dg (by omega), show c.toNat / 16 * 16 + c.toNat % 16 = c.toNat by omega]
    rfl
theorem plF_whole : ∀ (v : List UInt8) (f : Nat), (v.flatMap qu).length < f → plF f (v.flatMap qu) = v.map UInt8.toNat
  | [], 0, _ => rfl
  | [], f + 1, _ => rfl
  | c :: v, 0, h => by omega
  | c :: v, f + 1, h => by
    obtain ⟨a, t, hq, _⟩ := qu_ne c
    have hs := plS_whole c (v.flatMap qu)
    rw [List.flatMap_cons] at h ⊢
    have h0 : 0 < (qu c).length := by rw [hq]; simp
    have ih := plF_whole v f (by rw [List.length_append] at h; omega)
    have hd : (qu c ++ v.flatMap qu).drop (qu c).length = v.flatMap qu := by simp
    obtain ⟨rest, hrest⟩ : ∃ rest, v.flatMap qu = rest := ⟨_, rfl⟩
    rw [hrest] at hs hd ih ⊢
    have hl : (qu c).length = (t.length + 1) := by rw [hq]; rfl
    rw [hq, List.cons_append] at hs hd ⊢
    rw [plF, hs]
    show c.toNat :: plF f ((a :: (t ++ rest)).drop (a :: t).length) = _
    rw [hd, ih]; rfl

theorem tb_drop (s : ByteArray) (k : Nat) : tb (s.extract k s.size) = (tb s).drop k := by
  show (s.extract k s.size).data.toList = _
  rw [Lib.extract_data, List.take_of_length_le (by rw [List.length_drop]; have := tb_len s; unfold tb at this; omega)]; rfl
theorem tb_at (s : ByteArray) (k : Nat) (h : k < s.size) : (tb s).drop k = (s[k]'h) :: (tb s).drop (k + 1) := by
  have h2 : k < (tb s).length := by rw [tb_len]; exact h
  rw [List.drop_eq_getElem_cons h2]; rfl

theorem or_dig {a b : Nat} (ha : a < 16) (hb : b < 16) : bits .or .u8 ((a : Int) * 16) (b : Int) = ((a * 16 + b : Nat) : Int) := by
  have h := u8_or_nat (a * 16) b (by omega) (by omega)
  rw [Int.natCast_mul] at h
  refine h.trans ?_
  rw [show a * 16 = 2 ^ 4 * a by omega, ← Nat.two_pow_add_eq_or_of_lt (by omega : b < 2 ^ 4) a]
set_option maxRecDepth 100000 in
set_option maxHeartbeats 2000000 in
theorem plain_any (s : ByteArray) (hs : s.size ≤ 1000) (w : World) :
    Calls Try.prog 40 #[.string s] w fun e w' => e = .returned (.string (bs (plF (s.size + 1) (tb s)))) ∧ Below w.heap.size w w' := by
  obtain ⟨i0, hi, hz0, hz1, hz2⟩ := info_parts info_u8
  have HO0 := Lib.hid (own_nil_bytes w w.heap.size)
  obtain ⟨R, hR⟩ : ∃ R, R = plF (s.size + 1) (tb s) := ⟨_, rfl⟩
  have HRL := Lib.hid (show R.length ≤ s.size by rw [hR, ← tb_len]; exact plF_len _ _)
  have HRB := Lib.hid (show ∀ x ∈ R, x < 256 by rw [hR]; exact plF_lt _ _)
  have HR := Lib.hid (show R = [] ++ plF (s.size + 1) (tb s) by rw [hR]; rfl)
  rw [← hR]
  clear hR
  go_enter Try.func40, Try.ntmps40
  go_wp2_with fail
  go_loopw [0, 3] (fun s0 s3 wr => ∃ (t : ByteArray) (f m c : Nat) (a : Option Addr) (out : List Nat), t.size ≤ s.size ∧ s0 = .string t ∧ s3 = .slice a m c ∧ Hid (t.size < f) ∧ Hid (R = out ++ plF f (tb t)) ∧ Hid (wr.ownsRow w.heap.size 5 1 (.slice a m c) m (bv out)) ∧ Hid (Below w.heap.size w wr)) (fun s0 _ _ => szOf s0)
  case atStart => exact ⟨s, s.size + 1, 0, 0, none, [], by omega, rfl, rfl, Lib.hid (by omega), HR, HO0, Lib.hid (Below.refl _ _)⟩
  case round =>
    clear HO0 HR
    obtain ⟨t, f, m, cp, a, out, hts, rfl, rfl, HF, HE, HO, HB⟩ := hrel
    rename World => wr
    by_cases ht0 : 0 < t.size
    · obtain ⟨c, hc⟩ : ∃ c : Nat, c = (t[0]'ht0).toNat := ⟨_, rfl⟩
      have hsk : (t[0]'ht0).toNat = c := hc.symm
      have hcl : c < 256 := by rw [hc]; exact UInt8.toNat_lt _
      have hd : tb t = (t[0]'ht0) :: (tb t).drop 1 := tb_at t 0 ht0
      obtain ⟨u, hu⟩ : ∃ u, u = t.extract 1 t.size := ⟨_, rfl⟩
      have hus : u.size = t.size - 1 := by rw [hu]; simp
      have htu : tb u = (tb t).drop 1 := by rw [hu, tb_drop]
      have hbs := HB.out.size
      have hm3 : m ≤ 1000 := by
        have h1 := HO.out.1
        have h2 := congrArg List.length HE.out
        have h3 := HRL.out
        rw [List.length_append] at h2
        rw [bv_length] at h1
        omega
      obtain ⟨f, rfl⟩ : ∃ f', f = f' + 1 := ⟨f - 1, by have := HF.out; omega⟩
      have h1i : (1 : Int) ≤ (t.size : Int) := by omega
      have hui : ((u.size : Nat) : Int) = (t.size : Int) - 1 := by omega
      rw [← htu] at hd
      have HD := Lib.hid hd
      have HC := Lib.hid hc
      have HU := Lib.hid hu
      clear htu hd hc hu
      by_cases hq : c = 92 ∧ 2 ≤ u.size
      · obtain ⟨hc92, hu2⟩ := hq
        obtain ⟨x, hx⟩ : ∃ x : Nat, x = (u[0]'(by omega)).toNat := ⟨_, rfl⟩
        obtain ⟨y, hy⟩ : ∃ y : Nat, y = (u[1]'(by omega)).toNat := ⟨_, rfl⟩
        have hx0 : (u[0]'(by omega)).toNat = x := hx.symm
        have hy0 : (u[1]'(by omega)).toNat = y := hy.symm
        have hxl : x < 256 := by rw [hx]; exact UInt8.toNat_lt _
        have hyl : y < 256 := by rw [hy]; exact UInt8.toNat_lt _
        obtain ⟨d1, hd1⟩ : ∃ d, d = dgv x := ⟨_, rfl⟩
        obtain ⟨d2, hd2⟩ : ∃ d, d = dgv y := ⟨_, rfl⟩
        have l1 : d1 < 16 := by rw [hd1]; exact dgv_lt _
        have l2 : d2 < 16 := by rw [hd2]; exact dgv_lt _
        obtain ⟨v, hv⟩ : ∃ v, v = u.extract 2 (t.size - 1) := ⟨_, rfl⟩
        have hvs : v.size = u.size - 2 := by rw [hv, ← hus]; simp
        have hE : plS (tb t) = (d1 * 16 + d2, 3) ∧ (tb t).drop 3 = tb v := by
          have e0 : tb u = (u[0]'(by omega)) :: ((u[1]'(by omega)) :: (tb u).drop 2) := ((show tb u = (tb u).drop 0 from rfl).trans (tb_at u 0 (by omega))).trans (congrArg _ (tb_at u 1 (by omega)))
          rw [HD.out, e0]
          have e92 : (t[0]'ht0) = 92 := UInt8.toNat_inj.1 (by rw [← HC.out, hc92]; rfl)
          constructor
          · show (if (t[0]'ht0) = 92 then (dgv (u[0]'(by omega)).toNat * 16 + dgv (u[1]'(by omega)).toNat, 3) else ((t[0]'ht0).toNat, 1)) = _
            rw [if_pos e92, ← hx, ← hy, ← hd1, ← hd2]
          · rw [hv, ← hus, tb_drop, e0]; rfl
        have hst : plF (f + 1) (tb t) = (d1 * 16 + d2) :: plF f (tb v) := by
          rw [HD.out] at hE ⊢
          rw [plF, hE.1, hE.2]
        have HE2 := Lib.hid (show R = (out ++ [d1 * 16 + d2]) ++ plF f (tb v) by rw [HE.out, hst]; simp)
        have hq1 : ((c : Int) == 92) = true := by rw [beq_iff_eq]; omega
        have hq2 : (2 : Int) ≤ ((t.size - 1 : Nat) : Int) := by omega
        have hbor : bits .or .u8 ((d1 : Int) * 16) (d2 : Int) = ((d1 * 16 + d2 : Nat) : Int) := or_dig l1 l2
        have hcx : d1 * 16 + d2 < 256 := by omega
        obtain ⟨z, hz⟩ : ∃ z, z = d1 * 16 + d2 := ⟨_, rfl⟩
        rw [← hz] at hbor hcx HE2
        have HOA := Lib.hid (HO.out.alloc (.cells #[.int .u8 (z : Int)] 5))
        have hui2 : (2 : Int) ≤ (u.size : Int) := by omega
        have HG1 := Lib.hid (fun w1 : World => hd1 ▸ digit_any x hxl w1)
        have HG2 := Lib.hid (fun w1 : World => hd2 ▸ digit_any y hyl w1)
        have hU := HU.out
        have HV := Lib.hid hv
        have HX := Lib.hid hd1
        have HY := Lib.hid hd2
        clear hE hst hv hx hy hd1 hd2 hU hz
        go_wp2_with fail
        rw [← HU.out]
        go_quiet ((first | (go_at_call 45; first | exact Calls.quiet_of_same (HG1.out _) | exact Calls.quiet_of_same (HG2.out _))))
        go_wp2_with (at_builtin; refine wpList_append_own_at _ rfl (.tmp 29) (.tmp 31) 58 rfl w.heap.size 5 i0 (.int .u8 0) 1 1 Try.underlying58 hi hz0 hz1 hz2 rfl (by decide) _ _ _ rfl HOA.out.drew ⟨wr.heap.size, 0, none⟩ 1 1 [.int .u8 (z : Int)] rfl rfl (one_src _ _ _) (one_oneCell rfl) (by unfold maxLen; omega) (by omega) (by simp; omega) ?_)
        intro v2 w2 ho2 hg2 _ _
        obtain ⟨g2, c2, rfl⟩ := own_some2 ho2 (by omega)
        have HB2 := Lib.hid (((below_drewN HB.out _).alloc hbs _).grown hg2 (by simp; omega) (fun k hk => (HOA.out.lt k hk).1))
        have HO2 := Lib.hid ho2
        clear ho2 hg2
        go_wp2_with fail
        rw [← HV.out]
        go_roundw
        case rel => exact ⟨v, f, m + 1, c2, _, _, by omega, rfl, rfl, Lib.hid (by have := HF.out; omega), HE2, Lib.hid (by rw [bv_append]; exact HO2.out), HB2⟩
        case measure => simp [szOf]; omega
      · have hpl : plS (tb t) = (c, 1) := by
          rw [HD.out, HC.out]
          rcases hb : tb u with _ | ⟨a, _ | ⟨b, r⟩⟩
          · rfl
          · rfl
          · have h2 : 2 ≤ u.size := by rw [← tb_len, hb]; simp
            have hne : ¬ (t[0]'ht0) = 92 := fun e => hq ⟨by rw [HC.out, e]; rfl, h2⟩
            show (if (t[0]'ht0) = 92 then _ else ((t[0]'ht0).toNat, 1)) = _
            rw [if_neg hne]
        have hst : plF (f + 1) (tb t) = c :: plF f (tb u) := by
          have e : (tb t).drop 1 = tb u := by rw [HD.out]; rfl
          rw [HD.out] at hpl ⊢
          rw [plF, hpl, ← HD.out]
          show c :: plF f ((tb t).drop 1) = _
          rw [e]
        have HE2 := Lib.hid (show R = (out ++ [c]) ++ plF f (tb u) by rw [HE.out, hst]; simp)
        have hq2 : ((c : Int) == 92) = false ∨ (((c : Int) == 92) = true ∧ (t.size : Int) - 1 < 2) := by
          rcases Nat.lt_or_ge u.size 2 with g | g
          · by_cases hc92 : c = 92
            · exact .inr ⟨by rw [beq_iff_eq]; omega, by omega⟩
            · exact .inl (by rw [beq_eq_false_iff_ne]; omega)
          · exact .inl (by rw [beq_eq_false_iff_ne]; intro e; exact hq ⟨by omega, g⟩)
        have HOA := Lib.hid (HO.out.alloc (.cells #[.int .u8 (c : Int)] 5))
        clear hq hpl hst
        rcases hq2 with hq2 | ⟨hq2, hq3⟩
        all_goals
          go_wp2_with (at_builtin; refine wpList_append_own_at _ rfl (.tmp 29) (.tmp 31) 58 rfl w.heap.size 5 i0 (.int .u8 0) 1 1 Try.underlying58 hi hz0 hz1 hz2 rfl (by decide) _ _ _ rfl HOA.out ⟨wr.heap.size, 0, none⟩ 1 1 [.int .u8 (c : Int)] rfl rfl (one_src _ _ _) (one_oneCell rfl) (by unfold maxLen; omega) (by omega) (by simp; omega) ?_)
          intro v2 w2 ho2 hg2 _ _
          obtain ⟨g2, c2, rfl⟩ := own_some2 ho2 (by omega)
          have HB2 := Lib.hid (below_own (HB.out.alloc hbs (.cells #[.int .u8 (c : Int)] 5)) HOA.out hg2 (Nat.le_refl _) (by simp; omega))
          have HO2 := Lib.hid ho2
          clear ho2 hg2
          go_wp2_with fail
          go_roundw
          case rel => exact ⟨u, f, m + 1, c2, _, _, by omega, by rw [HU.out], rfl, Lib.hid (by have := HF.out; omega), HE2, Lib.hid (by rw [bv_append]; exact HO2.out), HB2⟩
          case measure => rw [← HU.out]; simp [szOf]; omega
    · have h00 : t.size = 0 := by omega
      have hz : (t.size : Int) = 0 := by omega
      have hRo : R = out := by
        rw [HE.out]
        have : tb t = [] := List.eq_nil_of_length_eq_zero (by rw [tb_len]; exact h00)
        rw [this]
        cases f <;> simp [plF]
      have HR2 := Lib.hid hRo
      obtain ⟨a9, c9, he9, hba, _⟩ := BytesAt.ofOwn HO.out (by rw [← hRo]; exact HRB.out) (by
        have h1 := HO.out.1
        have h3 := HRL.out
        rw [bv_length, ← hRo] at h1
        omega)
      simp only [Value.slice.injEq, true_and] at he9
      obtain ⟨rfl, rfl⟩ := he9
      have hcv := hba.conv
      have HB9 := HB
      clear ht0 hba hRo h00
      go_wp2_with fail
      go_ret
      rw [HR2.out]; exact ⟨rfl, HB9.out⟩
end Go.Proofs.Ytiboghehonmpnaa
