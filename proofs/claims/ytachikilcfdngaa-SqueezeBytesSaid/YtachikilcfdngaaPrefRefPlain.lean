/- The document's answer for prefix codes, plainly: its sum and its count; words as digits, one more, behind each other. No Go in sight. -/
import Derived.Test.YtachikilcfdngaaPrefKraft
import Derived.Test.YtachikilcfdngaaPrefWord
namespace Go.Proofs.Ytachikilcfdngaa
open Go.RowKit PrefPlain BitsPlain
set_option linter.unusedVariables false

/-- of the first k symbols: how many have words; whether the last of these has one bit -/
def wq (L : List Int) : Nat → Nat
  | 0 => 0
  | k + 1 => if 0 < L.getD k 0 then wq L k + 1 else wq L k
def on (L : List Int) : Nat → Bool
  | 0 => false
  | k + 1 => if 0 < L.getD k 0 then (L.getD k 0 == 1) else on L k
def ss (L : List Int) : Nat → Nat
  | 0 => 0
  | k + 1 => if 0 < L.getD k 0 then ss L k + 2 ^ (15 - (L.getD k 0).toNat) else ss L k
theorem wq_le (L : List Int) : ∀ k, wq L k ≤ k
  | 0 => Nat.le_refl _
  | k + 1 => by have := wq_le L k; rw [wq]; split <;> omega
theorem pow_le_15 {n : Nat} (h : n ≤ 15) : 2 ^ n ≤ 32768 := Nat.pow_le_pow_right (n := 2) (by omega) h
theorem ss_le (L : List Int) : ∀ k, ss L k ≤ 32768 * k
  | 0 => Nat.le_refl _
  | k + 1 => by
    have := ss_le L k
    have h2 := pow_le_15 (n := 15 - (L.getD k 0).toNat) (by omega)
    rw [ss]; split <;> omega

theorem su_bump (c c' : Nat → Nat) (n0 : Nat) (h : ∀ n, c' n = c n + if n = n0 then 1 else 0) : ∀ N, su c' N = su c N + if n0 < N then 2 ^ (15 - n0) else 0
  | 0 => by simp [su]
  | N + 1 => by
    have ih := su_bump c c' n0 h N
    rw [su, su, ih, h N]
    by_cases e : N = n0
    · subst e
      rw [if_neg (by omega), if_pos rfl, if_pos (by omega), Nat.add_mul]
      omega
    · rw [if_neg e]
      by_cases g : n0 < N
      · rw [if_pos g, if_pos (show n0 < N + 1 by omega), Nat.add_zero]; omega
      · rw [if_neg g, if_neg (show ¬ n0 < N + 1 by omega)]; simp only [Nat.add_zero]
theorem su_cong (c c' : Nat → Nat) (h : ∀ n, c' n = c n) : ∀ N, su c' N = su c N
  | 0 => rfl
  | N + 1 => by rw [su, su, su_cong c c' h N, h N]
def cnk (L : List Int) (k n : Nat) : Nat := (sy L k n).length
theorem cnk_next {L : List Int} {k : Nat} (n : Nat) : cnk L (k + 1) n = cnk L k n + if 0 < n ∧ L.getD k 0 = (n : Int) then 1 else 0 := by
  unfold cnk
  by_cases h : 0 < n ∧ L.getD k 0 = (n : Int)
  · rw [sy_hit h.1 h.2, if_pos h, List.length_append]; rfl
  · rw [if_neg h]
    by_cases hn : n = 0
    · subst hn; rw [sy_zero, sy_zero]; rfl
    · rw [sy_miss (fun e => h ⟨by omega, e⟩)]; rfl
structure Sums (L : List Int) (k : Nat) : Prop where
  sum : su (cnk L k) 16 = ss L k
  none : wq L k = 0 ↔ mo L k = 0
  least : cnk L k 1 ≤ wq L k
  one : wq L k = 1 → (on L k = true ↔ mo L k = 1)
  all : mo L k = 1 → wq L k = cnk L k 1
  pos : ss L k = 0 ↔ wq L k = 0
theorem sums {L : List Int} : ∀ {k : Nat}, okL L k → Sums L k
  | 0, _ => ⟨by
      have : ∀ N, su (cnk L 0) N = 0 := fun N => by
        induction N with
        | zero => rfl
        | succ N ih => rw [su, ih]; simp [cnk, sy_start]
      rw [this]; rfl, by simp [wq, mo], by simp [cnk, sy_start], by simp [wq], by simp [mo], by simp [ss, wq]⟩
  | k + 1, h => by
    have ih := sums (L := L) (k := k) (fun s hs => h s (by omega))
    have hx := h k (by omega)
    have hm : mo L (k + 1) = max (mo L k) (L.getD k 0).toNat := rfl
    by_cases h0 : 0 < L.getD k 0
    · have e1 : wq L (k + 1) = wq L k + 1 := by rw [wq, if_pos h0]
      have e2 : ss L (k + 1) = ss L k + 2 ^ (15 - (L.getD k 0).toNat) := by rw [ss, if_pos h0]
      have e3 : on L (k + 1) = (L.getD k 0 == 1) := by rw [on, if_pos h0]
      have e4 := cnk_next (L := L) (k := k) 1
      obtain ⟨x, hxe⟩ : ∃ x : Nat, L.getD k 0 = (x : Int) := ⟨(L.getD k 0).toNat, by omega⟩
      rw [hxe] at hx h0 hm e2 e3 e4
      rw [Int.toNat_natCast] at hm e2
      have hb := su_bump (cnk L k) (cnk L (k + 1)) x (fun n => by
        rw [cnk_next, hxe]
        by_cases e : n = x
        · subst e; rw [if_pos ⟨by omega, rfl⟩, if_pos rfl]
        · rw [if_neg (fun g => e (by have := g.2; omega)), if_neg e]) 16
      rw [if_pos (by omega), ih.sum, ← e2] at hb
      have hp : 0 < 2 ^ (15 - x) := Nat.two_pow_pos _
      have q1 := ih.none
      have q2 := ih.least
      have q3 := ih.all
      refine ⟨hb, by omega, by split at e4 <;> omega, fun hw => ?_, fun hw => ?_, by omega⟩
      · rw [e3, beq_iff_eq]; omega
      · have : x = 1 := by omega
        subst this
        rw [if_pos ⟨by omega, rfl⟩] at e4
        rcases Nat.eq_zero_or_pos (mo L k) with g | g
        · have := q1.2 g
          omega
        · have := q3 (by omega)
          omega
    · have hz : L.getD k 0 = 0 := by omega
      have e1 : wq L (k + 1) = wq L k := by rw [wq, if_neg h0]
      have e2 : ss L (k + 1) = ss L k := by rw [ss, if_neg h0]
      have e3 : on L (k + 1) = on L k := by rw [on, if_neg h0]
      have e4 : ∀ n, cnk L (k + 1) n = cnk L k n := fun n => by rw [cnk_next, hz, if_neg (fun g => by have := g.2; omega)]; rfl
      have hm2 : mo L (k + 1) = mo L k := by rw [hm, hz]; simp
      have hs := su_cong (cnk L k) (cnk L (k + 1)) e4 16
      exact ⟨by rw [hs, e2]; exact ih.sum, by rw [e1, hm2]; exact ih.none, by rw [e1, e4]; exact ih.least, by rw [e1, e3, hm2]; exact ih.one, by rw [e1, hm2, e4]; exact ih.all, by rw [e1, e2]; exact ih.pos⟩
/-- the document's test is the program's -/
theorem fits_said {L : List Int} (hok : okL L L.length) : fitsB (cn L) (mo L L.length) = true ↔ ¬ (0 < wq L L.length ∧ ss L L.length ≠ 32768 ∧ ¬ (wq L L.length = 1 ∧ on L L.length = true)) := by
  have h := sums hok
  have e : su (cn L) 16 = ss L L.length := h.sum
  have e1 : cn L 1 = cnk L L.length 1 := rfl
  have q1 := h.none
  have q2 := h.least
  have q3 := h.one
  have q4 := h.all
  have q5 := h.pos
  unfold fitsB
  rw [e, e1]
  simp only [Bool.or_eq_true, Bool.and_eq_true, decide_eq_true_eq]
  constructor
  · rintro (g | g | ⟨g1, g2⟩) ⟨a1, a2, a3⟩
    · exact a2 g
    · omega
    · have := q4 g1
      exact a3 ⟨by omega, (q3 (by omega)).2 g1⟩
  · intro hn
    by_cases g1 : ss L L.length = 32768
    · exact .inl g1
    · by_cases g2 : 0 < wq L L.length
      · by_cases g3 : wq L L.length = 1 ∧ on L L.length = true
        · have hm := (q3 g3.1).1 g3.2
          exact .inr (.inr ⟨hm, by have := q4 hm; omega⟩)
        · exact absurd ⟨g2, g1, g3⟩ hn
      · exact .inr (.inl (by omega))

/-- a word's digits, as characters -/
def chs (l : List Nat) : List Nat := l.map fun d => 48 + d
def txt (V m : Nat) : List Nat := chs (codeOf V m m)
theorem txt_len (V m : Nat) : (txt V m).length = m := by simp [txt, chs, codeOf]
theorem txt_get {V m i : Nat} (hi : i < m) : (txt V m)[i]? = some (48 + V / 2 ^ (m - 1 - i) % 2) := by
  simp [txt, chs, codeOf, hi]
theorem txt_getD {V m i : Nat} (hi : i < m) : (txt V m).getD i 0 = 48 + V / 2 ^ (m - 1 - i) % 2 := by
  rw [List.getD_eq_getElem?_getD, txt_get hi]; rfl
theorem txt_byte (V m : Nat) : ∀ x ∈ txt V m, x < 256 := by
  intro x hx
  simp only [txt, chs, codeOf, List.mem_map] at hx
  obtain ⟨d, ⟨i, _, rfl⟩, rfl⟩ := hx
  omega
theorem ext_getQ {l r : List Nat} {m : Nat} (hl : l.length = m) (hr : r.length = m) (h : ∀ i, i < m → l[i]? = r[i]?) : l = r := by
  apply List.ext_getElem?
  intro i
  rcases Nat.lt_or_ge i m with g | g
  · exact h i g
  · rw [List.getElem?_eq_none (by omega), List.getElem?_eq_none (by omega)]
theorem txt_zero (U m : Nat) : txt U m ++ [48] = txt (2 * U) (m + 1) := by
  refine ext_getQ (m := m + 1) (by simp [txt_len]) (txt_len _ _) (fun i hi => ?_)
  rw [txt_get hi]
  rcases Nat.lt_or_ge i m with g | g
  · rw [List.getElem?_append_left (by rw [txt_len]; exact g), txt_get g, show m + 1 - 1 - i = (m - 1 - i) + 1 from by omega, Nat.pow_succ, Nat.mul_comm (2 ^ _) 2, ← Nat.div_div_eq_div_mul]
    congr 4
    omega
  · obtain rfl : i = m := by omega
    rw [List.getElem?_append_right (by rw [txt_len]; omega), txt_len]
    simp
/-- one digit set, where those behind it are noughts -/
theorem txt_set {q j m d : Nat} (hj : j < m) (hd : d < 2) : (txt (q * 2 ^ j) m).set (m - 1 - j) (48 + d) = txt ((q / 2 * 2 + d) * 2 ^ j) m := by
  refine ext_getQ (m := m) (by simp [txt_len]) (txt_len _ _) (fun i hi => ?_)
  rw [txt_get hi, List.getElem?_set]
  by_cases e : m - 1 - j = i
  · rw [if_pos e, if_pos (by rw [txt_len]; omega), show m - 1 - i = j from by omega, Nat.mul_div_cancel _ (Nat.two_pow_pos _)]
    congr 2
    omega
  · rw [if_neg e, txt_get hi]
    congr 2
    obtain ⟨t, ht⟩ : ∃ t, t = m - 1 - i := ⟨_, rfl⟩
    rw [← ht]
    rcases Nat.lt_or_ge t j with g | g
    · obtain ⟨u, rfl⟩ : ∃ u, j = t + (u + 1) := ⟨j - t - 1, by omega⟩
      have h1 : ∀ z : Nat, z * 2 ^ (t + (u + 1)) / 2 ^ t % 2 = 0 := fun z => by
        rw [Nat.pow_add, Nat.mul_comm (2 ^ t), ← Nat.mul_assoc, Nat.mul_div_cancel _ (Nat.two_pow_pos _), Nat.pow_succ]
        rw [← Nat.mul_assoc]; omega
      rw [h1, h1]
    · obtain ⟨u, rfl⟩ : ∃ u, t = j + (u + 1) := ⟨t - j - 1, by omega⟩
      have h1 : ∀ z : Nat, z * 2 ^ j / 2 ^ (j + (u + 1)) = z / 2 / 2 ^ u := fun z => by
        rw [Nat.pow_add, ← Nat.div_div_eq_div_mul, Nat.mul_div_cancel _ (Nat.two_pow_pos _), Nat.pow_succ, Nat.mul_comm (2 ^ u) 2, ← Nat.div_div_eq_div_mul]
      rw [h1, h1]
      congr 2
      omega
theorem txt_nil : txt 0 0 = [] := rfl

/-- a symbol's place: how many of its length stand before it -/
theorem sy_pre (L : List Int) (n s : Nat) : ∀ d, ∃ r, sy L (s + d) n = sy L s n ++ r
  | 0 => ⟨[], by simp⟩
  | d + 1 => by
    obtain ⟨r, hr⟩ := sy_pre L n s d
    by_cases h : 0 < n ∧ L.getD (s + d) 0 = (n : Int)
    · exact ⟨r ++ [((s + d : Nat) : Int)], by rw [← Nat.add_assoc, sy_hit h.1 h.2, hr, List.append_assoc]⟩
    · refine ⟨r, ?_⟩
      rw [← Nat.add_assoc]
      by_cases hn : n = 0
      · subst hn; rw [sy_zero] at hr ⊢; exact hr
      · rw [sy_miss (fun e => h ⟨by omega, e⟩), hr]
theorem pl_is {L : List Int} {s n : Nat} (hn : 0 < n) (hs : s < L.length) (h : L.getD s 0 = (n : Int)) : pl L s = cnk L s n := by
  obtain ⟨p1, p2⟩ := pl_ok hn hs h
  obtain ⟨r, hr⟩ := sy_pre L n (s + 1) (L.length - (s + 1))
  rw [show s + 1 + (L.length - (s + 1)) = L.length from by omega, sy_hit hn h, List.append_assoc] at hr
  have hq : cnk L s n < (sy L L.length n).length := by rw [hr]; simp [cnk]
  have hg : (sy L L.length n).getD (cnk L s n) 0 = (s : Int) := by
    rw [hr, List.getD_eq_getElem?_getD, List.getElem?_append_right (by unfold cnk; omega)]
    simp [cnk]
  rcases Nat.lt_trichotomy (pl L s) (cnk L s n) with g | g | g
  · have := sy_lt g hq; omega
  · exact g
  · have := sy_lt g p1; omega
end Go.Proofs.Ytachikilcfdngaa
