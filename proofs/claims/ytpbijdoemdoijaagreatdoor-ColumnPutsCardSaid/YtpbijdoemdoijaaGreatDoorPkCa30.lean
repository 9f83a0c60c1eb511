/- Texts put together by packtpl2.py: PrefPl, PrefKraft. -/
import Derived.Test.YtpbijdoemdoijaaGreatDoorPkCa4
import Derived.Test.YtpbijdoemdoijaaGreatDoorPkCa21
section PkCa30_0
/- A symbol's place among those of its length; which symbols have a word. No Go in sight. -/
namespace Go.Proofs.YtpbijdoemdoijaaGreatDoor
open Go.RowKit PrefPlain
set_option linter.unusedVariables false

/-- a symbol's place among those of its length -/
def pl (L : List Int) (s : Nat) : Nat := (sy L L.length (L.getD s 0).toNat).idxOf (s : Int)
theorem pl_ok {L : List Int} {s n : Nat} (hn : 0 < n) (hs : s < L.length) (h : L.getD s 0 = (n : Int)) : pl L s < (sy L L.length n).length ∧ (sy L L.length n).getD (pl L s) 0 = (s : Int) := by
  have hm := sy_mem hn hs h
  unfold pl
  rw [h, Int.toNat_natCast]
  have hlt := List.idxOf_lt_length_of_mem hm
  refine ⟨hlt, ?_⟩
  have e : (sy L L.length n).getD ((sy L L.length n).idxOf (s : Int)) 0 = (sy L L.length n)[(sy L L.length n).idxOf (s : Int)] := by simp [hlt]
  rw [e, List.getElem_idxOf]

/-- has a symbol a word? -/
def hasW (L : List Int) (x : Int) : Prop := 0 ≤ x ∧ x < (L.length : Int) ∧ L.getD x.toNat 0 ≠ 0
end Go.Proofs.YtpbijdoemdoijaaGreatDoor
end PkCa30_0
section PkCa30_1
/- Prefix codes that fit: every word fits its length; a complete code reads any bits; codes in a row are read. -/
namespace Go.Proofs.YtpbijdoemdoijaaGreatDoor
open Go.RowKit PrefPlain BitsPlain
set_option linter.unusedVariables false

theorem kraft (c : Nat → Nat) (h0 : c 0 = 0) : ∀ n, n < 15 → (fw c (n + 1) + c (n + 1)) * 2 ^ (15 - (n + 1)) = su c (n + 2)
  | 0, _ => by simp [fw, su, h0]
  | n + 1, hn => by
    have ih := kraft c h0 n (by omega)
    rw [su, ← ih, fw_next c (by omega)]
    have e : 2 ^ (15 - (n + 1)) = 2 * 2 ^ (15 - (n + 1 + 1)) := by
      rw [show 15 - (n + 1) = (15 - (n + 1 + 1)) + 1 from by omega, Nat.pow_succ, Nat.mul_comm]
    rw [e]
    generalize 2 ^ (15 - (n + 1 + 1)) = P
    generalize fw c (n + 1) + c (n + 1) = Q
    generalize c (n + 1 + 1) = R
    rw [Nat.add_mul, Nat.mul_comm 2 Q, Nat.mul_assoc]
theorem su_mono (c : Nat → Nat) : ∀ n d, su c n ≤ su c (n + d)
  | n, 0 => Nat.le_refl _
  | n, d + 1 => Nat.le_trans (su_mono c n d) (by rw [show n + (d + 1) = (n + d) + 1 from rfl, su]; omega)
theorem su_flat (c : Nat → Nat) (m : Nat) (h : ∀ k, m < k → c k = 0) : ∀ d, su c (m + 1 + d) = su c (m + 1)
  | 0 => rfl
  | d + 1 => by rw [show m + 1 + (d + 1) = (m + 1 + d) + 1 from rfl, su, su_flat c m h d, h (m + 1 + d) (by omega)]; simp
theorem kcn_zero (L : List Int) : cn L 0 = 0 := by simp [cn, sy_zero]
theorem mo_ge {L : List Int} : ∀ {k s : Nat}, s < k → (L.getD s 0).toNat ≤ mo L k
  | 0, s, h => by omega
  | k + 1, s, h => by
    rw [mo]
    rcases Nat.lt_or_ge s k with g | g
    · have := mo_ge (L := L) g; omega
    · obtain rfl : s = k := by omega
      omega
theorem cn_high {L : List Int} {k : Nat} (h : mo L L.length < k) : cn L k = 0 := by
  unfold cn
  rw [List.length_eq_zero_iff, List.eq_nil_iff_forall_not_mem]
  intro x hx
  unfold sy at hx
  rw [if_neg (by omega)] at hx
  simp only [List.mem_map, List.mem_filter, List.mem_range, beq_iff_eq] at hx
  obtain ⟨s, ⟨hs, he⟩, rfl⟩ := hx
  have := mo_ge (L := L) hs
  rw [he] at this
  simp at this; omega
theorem cn_pos {L : List Int} {s n : Nat} (hn : 0 < n) (hs : s < L.length) (h : L.getD s 0 = (n : Int)) : 0 < cn L n := by
  have := (pl_ok hn hs h).1
  unfold cn; omega

/-- what fitting says -/
theorem fits_cases {L : List Int} (hf : fitsB (cn L) (mo L L.length) = true) : su (cn L) 16 = 32768 ∨ su (cn L) 16 = 0 ∨ (mo L L.length = 1 ∧ cn L 1 = 1) := by
  unfold fitsB at hf
  simp only [Bool.or_eq_true, Bool.and_eq_true, decide_eq_true_eq] at hf
  exact hf
theorem su_ge_pow {L : List Int} {s n : Nat} (hn : 0 < n) (hn15 : n ≤ 15) (hs : s < L.length) (h : L.getD s 0 = (n : Int)) : 0 < su (cn L) 16 := by
  have h1 := su_mono (cn L) (n + 1) (15 - n)
  rw [show n + 1 + (15 - n) = 16 from by omega, su] at h1
  have h2 := cn_pos hn hs h
  have h3 : 1 * 1 ≤ cn L n * 2 ^ (15 - n) := Nat.mul_le_mul h2 (Nat.two_pow_pos _)
  omega
/-- words fit their lengths -/
theorem word_fits {L : List Int} {s n : Nat} (hf : fitsB (cn L) (mo L L.length) = true) (hn : 0 < n) (hn15 : n ≤ 15) (hs : s < L.length) (h : L.getD s 0 = (n : Int)) : fw (cn L) n + pl L s < 2 ^ n := by
  have hp := (pl_ok hn hs h).1
  rcases fits_cases hf with g | g | ⟨g1, g2⟩
  · obtain ⟨m, rfl⟩ : ∃ m, n = m + 1 := ⟨n - 1, by omega⟩
    have hk := kraft (cn L) (kcn_zero L) m (by omega)
    have hm := su_mono (cn L) (m + 2) (14 - m)
    rw [show m + 2 + (14 - m) = 16 from by omega, g, ← hk] at hm
    have hpos := Nat.two_pow_pos (15 - (m + 1))
    have e : (2 : Nat) ^ (m + 1) * 2 ^ (15 - (m + 1)) = 32768 := by
      rw [← Nat.pow_add, show m + 1 + (15 - (m + 1)) = 15 from by omega]
    rw [← e] at hm
    have := Nat.le_of_mul_le_mul_right hm hpos
    unfold cn at this
    unfold cn
    omega
  · have := su_ge_pow hn hn15 hs h
    omega
  · have h1 := mo_ge (L := L) hs
    rw [h, Int.toNat_natCast, g1] at h1
    obtain rfl : n = 1 := by omega
    unfold cn at g2
    simp only [fw]
    rw [show (2 : Nat) ^ 1 = 2 from rfl]
    omega

/-- what a complete code finds -/
structure Found (L : List Int) (r : Int × Nat × Nat) : Prop where
  ok : r.2.1 = 0
  pos : 0 < r.2.2
  le : r.2.2 ≤ 15
  sym : ∃ s : Nat, r.1 = (s : Int) ∧ s < L.length ∧ L.getD s 0 = (r.2.2 : Int)

theorem sy_get_sym {L : List Int} {n i : Nat} (hn : 0 < n) (hi : i < (sy L L.length n).length) : ∃ s : Nat, (sy L L.length n).getD i 0 = (s : Int) ∧ s < L.length ∧ L.getD s 0 = (n : Int) := by
  have hm : (sy L L.length n).getD i 0 ∈ sy L L.length n := by
    have : (sy L L.length n).getD i 0 = (sy L L.length n)[i] := by simp [hi]
    rw [this]; exact List.getElem_mem hi
  generalize (sy L L.length n).getD i 0 = x at hm
  unfold sy at hm
  rw [if_neg (by omega)] at hm
  simp only [List.mem_map, List.mem_filter, List.mem_range, beq_iff_eq] at hm
  obtain ⟨s, ⟨hs, he⟩, rfl⟩ := hm
  exact ⟨s, rfl, hs, he⟩

theorem full_top {L : List Int} (hfull : su (cn L) 16 = 32768) (hmo : mo L L.length ≤ 15) (hM : 0 < mo L L.length) : fw (cn L) (mo L L.length) + cn L (mo L L.length) = 2 ^ mo L L.length := by
  have hfl := su_flat (cn L) (mo L L.length) (fun k hk => cn_high hk) (15 - mo L L.length)
  rw [show mo L L.length + 1 + (15 - mo L L.length) = 16 from by omega, hfull] at hfl
  generalize mo L L.length = M at *
  obtain ⟨m, rfl⟩ : ∃ m, M = m + 1 := ⟨M - 1, by omega⟩
  have hk := kraft (cn L) (kcn_zero L) m (by omega)
  rw [← hfl] at hk
  have e : (2 : Nat) ^ (m + 1) * 2 ^ (15 - (m + 1)) = 32768 := by
    rw [← Nat.pow_add, show m + 1 + (15 - (m + 1)) = 15 from by omega]
  rw [← e] at hk
  exact Nat.eq_of_mul_eq_mul_right (Nat.two_pow_pos _) hk

theorem full_find {L : List Int} (hfull : su (cn L) 16 = 32768) (hmo : mo L L.length ≤ 15) (hM : 0 < mo L L.length) (bit : Nat → Nat) (hbit : ∀ k, bit k < 2) (left : Nat) (hleft : 15 ≤ left) :
    ∀ f k W, f + k = mo L L.length → W < 2 ^ k → fw (cn L) (k + 1) ≤ 2 * W → Found L (nx L bit left f k W)
  | 0, k, W, hk, hW, hge => by
    exfalso
    obtain rfl : k = mo L L.length := by omega
    have ht := full_top hfull hmo hM
    rw [fw_next (cn L) (by omega), ht] at hge
    omega
  | f + 1, k, W, hk, hW, hge => by
    rw [nx, if_neg (by omega)]
    have hb := hbit k
    split
    · rename_i hlt
      have hd : 2 * W + bit k - fw (cn L) (k + 1) < (sy L L.length (k + 1)).length := by unfold cn at hlt hge; unfold cn; omega
      exact ⟨rfl, by simp, by simp; omega, sy_get_sym (by omega) hd⟩
    · rename_i hnl
      exact full_find hfull hmo hM bit hbit left hleft f (k + 1) _ (by omega) (by rw [Nat.pow_succ]; omega) (by rw [fw_next (cn L) (by omega)]; omega)

/-- reading any bits by a complete code -/
theorem rn_full {L : List Int} (hfull : su (cn L) 16 = 32768) (hmo : mo L L.length ≤ 15) (hM : 0 < mo L L.length) (xs : List Nat) (p : Nat) (hl : 15 ≤ 8 * xs.length - p) : Found L (rn L xs p) :=
  full_find hfull hmo hM _ (fun k => bitAt_lt _ _) _ hl _ 0 0 (by omega) (by simp) (by simp [fw])

/-- a word that stands there is read -/
theorem word_find {L : List Int} (bit : Nat → Nat) (left v n s : Nat) (hn : 0 < n) (hnM : n ≤ mo L L.length) (hv : fw (cn L) n ≤ v) (hv2 : v < fw (cn L) n + cn L n) (hvn : v < 2 ^ n) (hleft : n ≤ left)
    (hbit : ∀ i, i < n → bit i = v / 2 ^ (n - 1 - i) % 2) (hs : (sy L L.length n).getD (v - fw (cn L) n) 0 = (s : Int)) :
    ∀ f k, f + k = mo L L.length → k < n → nx L bit left f k (v / 2 ^ (n - k)) = ((s : Int), 0, n)
  | 0, k, hk, hkn => by omega
  | f + 1, k, hk, hkn => by
    have hstep : 2 * (v / 2 ^ (n - k)) + bit k = v / 2 ^ (n - (k + 1)) := by
      rw [hbit k hkn, show n - 1 - k = n - (k + 1) from by omega, show n - k = (n - (k + 1)) + 1 from by omega, Nat.pow_succ, ← Nat.div_div_eq_div_mul]
      omega
    rw [nx, if_neg (by omega), hstep]
    rcases Nat.lt_or_ge (k + 1) n with g | g
    · have hge := fw_ge (cn L) (n := k + 1) (by omega) (n - (k + 1) - 1)
      rw [show n - (k + 1) - 1 + 1 = n - (k + 1) from by omega, show k + 1 + (n - (k + 1)) = n from by omega] at hge
      have h2 : fw (cn L) (k + 1) + cn L (k + 1) ≤ v / 2 ^ (n - (k + 1)) := by
        rw [Nat.le_div_iff_mul_le (Nat.two_pow_pos _), Nat.mul_comm]
        omega
      rw [if_neg (by omega)]
      exact word_find bit left v n s hn hnM hv hv2 hvn hleft hbit hs f (k + 1) (by omega) g
    · have e : k + 1 = n := by omega
      rw [e, Nat.sub_self, Nat.pow_zero, Nat.div_one, if_pos hv2, hs]
theorem rn_word {L : List Int} {xs : List Nat} {p s n : Nat} (hf : fitsB (cn L) (mo L L.length) = true) (hn : 0 < n) (hn15 : n ≤ 15) (hs : s < L.length) (h : L.getD s 0 = (n : Int)) (hleft : p + n ≤ 8 * xs.length)
    (hbit : ∀ i, i < n → bitAt xs (p + i) = (fw (cn L) n + pl L s) / 2 ^ (n - 1 - i) % 2) : rn L xs p = ((s : Int), 0, n) := by
  have hp := pl_ok hn hs h
  have hw := word_fits hf hn hn15 hs h
  have hm := mo_ge (L := L) hs
  rw [h, Int.toNat_natCast] at hm
  have := word_find (L := L) (fun k => bitAt xs (p + k)) (8 * xs.length - p) (fw (cn L) n + pl L s) n s hn hm (by omega) (by have h5 : pl L s < cn L n := hp.1; omega) hw (by omega) hbit (by rw [Nat.add_sub_cancel_left]; exact hp.2) (mo L L.length) 0 (by omega) hn
  rw [Nat.sub_zero, Nat.div_eq_of_lt hw] at this
  exact this
end Go.Proofs.YtpbijdoemdoijaaGreatDoor
end PkCa30_1
