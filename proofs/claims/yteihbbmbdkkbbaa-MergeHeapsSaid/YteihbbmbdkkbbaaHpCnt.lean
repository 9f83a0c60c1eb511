/- How often a number is among the first things; a sorted list beside it. Plain. -/
import Derived.Test.YteihbbmbdkkbbaaHpPlain
namespace Go.Proofs.Yteihbbmbdkkbbaa
namespace Hp
/-- how often a number is among the first n -/
def cnt (z : Nat → Int) (v : Int) : Nat → Nat
  | 0 => 0
  | n + 1 => cnt z v n + if z n = v then 1 else 0
theorem cnt_congr {z y : Nat → Int} {v : Int} : ∀ n, (∀ k, k < n → z k = y k) → cnt z v n = cnt y v n
  | 0, _ => rfl
  | n + 1, h => by rw [cnt, cnt, cnt_congr n (fun k hk => h k (by omega)), h n (by omega)]
theorem cnt_set {z : Nat → Int} {a v : Int} {i : Nat} : ∀ n, i < n → cnt (fun j => if j = i then a else z j) v n + (if z i = v then 1 else 0) = cnt z v n + (if a = v then 1 else 0)
  | 0, h => by omega
  | n + 1, h => by
    rcases Nat.lt_or_ge i n with g | g
    · have ih := cnt_set (z := z) (a := a) (v := v) n g
      rw [cnt, cnt, if_neg (show ¬ n = i by omega)]
      omega
    · obtain rfl : i = n := by omega
      have he : cnt (fun j => if j = i then a else z j) v i = cnt z v i := cnt_congr i (fun k hk => if_neg (by omega))
      rw [cnt, cnt, he, if_pos rfl]
      omega
theorem cnt_sw {z : Nat → Int} {v : Int} {n i k : Nat} (hi : i < n) (hk : k < n) : cnt (sw z i k) v n = cnt z v n := by
  by_cases e : i = k
  · subst e
    refine cnt_congr n (fun j _ => ?_)
    unfold sw
    by_cases e : j = i
    · rw [if_pos e, e]
    · rw [if_neg e, if_neg e]
  · have h1 := cnt_set (z := z) (a := z k) (v := v) n hi
    have h2 := cnt_set (z := fun j => if j = i then z k else z j) (a := z i) (v := v) n hk
    simp only [if_neg (fun h => e h.symm : ¬ k = i)] at h2
    have h3 : cnt (sw z i k) v n = cnt (fun j => if j = k then z i else if j = i then z k else z j) v n := rfl
    rw [h3]
    omega
theorem cnt_pos {z : Nat → Int} {n k : Nat} : k < n → 0 < cnt z (z k) n := by
  induction n with
  | zero => intro h; omega
  | succ n ih =>
    intro h
    rw [cnt]
    rcases Nat.lt_or_ge k n with g | g
    · have := ih g; omega
    · obtain rfl : k = n := by omega
      rw [if_pos rfl]; omega
theorem of_cnt {z : Nat → Int} {v : Int} {n : Nat} : 0 < cnt z v n → ∃ k, k < n ∧ z k = v := by
  induction n with
  | zero => intro h; simp [cnt] at h
  | succ n ih =>
    intro h
    rw [cnt] at h
    by_cases e : z n = v
    · exact ⟨n, by omega, e⟩
    · rw [if_neg e] at h
      obtain ⟨k, hk, he⟩ := ih (by omega)
      exact ⟨k, by omega, he⟩
/-- the same things, in a heap and in a sorted list -/
structure Same (z : Nat → Int) (n : Nat) (l : List Int) : Prop where
  ok : Ok z n
  srt : l.Pairwise (· ≤ ·)
  len : l.length = n
  cn : ∀ v, l.count v = cnt z v n
theorem Same.first {z : Nat → Int} {n : Nat} {l : List Int} (h : Same z n l) (hn : 0 < n) : z 0 = l.getD 0 0 := by
  have hl := h.len
  have hs := h.srt
  have hc := h.cn
  cases l with
  | nil => simp at hl; omega
  | cons x r =>
    show z 0 = x
    have h1 : z 0 ∈ x :: r := List.count_pos_iff.1 (by rw [hc]; exact cnt_pos hn)
    have h2 : 0 < cnt z x n := by rw [← hc]; exact List.count_pos_iff.2 (List.mem_cons_self ..)
    obtain ⟨k, hk, he⟩ := of_cnt h2
    have h3 := h.ok.least k hk
    rw [he] at h3
    rcases List.mem_cons.1 h1 with e | e
    · exact e
    · exact Int.le_antisymm h3 ((List.pairwise_cons.1 hs).1 _ e)
theorem Same.pop {z y : Nat → Int} {n : Nat} {l : List Int} (h : Same z n l) (hn : 0 < n) (hy : Ok y (n - 1)) (hc : ∀ v, cnt y v (n - 1) + (if z 0 = v then 1 else 0) = cnt z v n) : Same y (n - 1) l.tail := by
  have hf := h.first hn
  have hl := h.len
  have hs := h.srt
  have hcn := h.cn
  cases l with
  | nil => simp at hl; omega
  | cons x r =>
    have hx : z 0 = x := hf
    rw [List.length_cons] at hl
    refine ⟨hy, (List.pairwise_cons.1 hs).2, by rw [List.tail_cons]; omega, fun v => ?_⟩
    have h1 := hcn v
    have h2 := hc v
    rw [hx] at h2
    rw [List.count_cons] at h1
    rw [List.tail_cons]
    by_cases e : x = v
    · rw [if_pos e] at h2
      rw [if_pos (by rw [e]; simp)] at h1
      omega
    · rw [if_neg e] at h2
      rw [if_neg (by simp [e])] at h1
      omega
/-- a number laid where it belongs -/
theorem ins_sorted {l : List Int} {x : Int} {n : Nat} (hs : l.Pairwise (· ≤ ·)) (hn : n ≤ l.length) (hb : ∀ j, n ≤ j → j < l.length → x < l.getD j 0) (ha : 0 < n → l.getD (n - 1) 0 ≤ x) : (l.take n ++ x :: l.drop n).Pairwise (· ≤ ·) := by
  have hD : ∀ j (h : j < l.length), l.getD j 0 = l[j] := fun j h => by simp [List.getD_eq_getElem?_getD, h]
  have hP : ∀ i j (hi : i < l.length) (hj : j < l.length), i ≤ j → l[i] ≤ l[j] := fun i j hi hj hij => by
    rcases Nat.lt_or_ge i j with g | g
    · exact List.pairwise_iff_getElem.1 hs i j hi hj g
    · obtain rfl : i = j := by omega
      exact Int.le_refl _
  have hpre : ∀ u ∈ l.take n, u ≤ x := by
    intro u hu
    obtain ⟨i, hi, rfl⟩ := List.getElem_of_mem hu
    rw [List.length_take] at hi
    rw [List.getElem_take]
    have h1 := ha (by omega)
    rw [hD _ (by omega)] at h1
    exact Int.le_trans (hP i (n - 1) (by omega) (by omega) (by omega)) h1
  have hpost : ∀ u ∈ l.drop n, x ≤ u := by
    intro u hu
    obtain ⟨i, hi, rfl⟩ := List.getElem_of_mem hu
    rw [List.length_drop] at hi
    rw [List.getElem_drop]
    have h1 := hb (n + i) (by omega) (by omega)
    rw [hD _ (by omega)] at h1
    omega
  refine List.pairwise_append.2 ⟨hs.sublist (List.take_sublist _ _), List.pairwise_cons.2 ⟨hpost, hs.sublist (List.drop_sublist _ _)⟩, ?_⟩
  intro a hA b hB
  rcases List.mem_cons.1 hB with e | e
  · rw [e]; exact hpre a hA
  · exact Int.le_trans (hpre a hA) (hpost b e)
theorem Same.push {z y : Nat → Int} {n m : Nat} {l : List Int} {x : Int} (h : Same z n l) (hy : Ok y (n + 1)) (hc : ∀ v, cnt y v (n + 1) = cnt z v n + (if x = v then 1 else 0)) (hn : m ≤ n) (hb : ∀ j, m ≤ j → j < n → x < l.getD j 0) (ha : 0 < m → l.getD (m - 1) 0 ≤ x) : Same y (n + 1) (l.take m ++ x :: l.drop m) := by
  have hl := h.len
  refine ⟨hy, ins_sorted h.srt (by omega) (fun j h1 h2 => hb j h1 (by omega)) ha, ?_, fun v => ?_⟩
  · rw [List.length_append, List.length_cons, List.length_take, List.length_drop]; omega
  · rw [hc v, ← h.cn v, List.count_append, List.count_cons]
    have h1 : l.count v = (l.take m).count v + (l.drop m).count v := by rw [← List.count_append, List.take_append_drop]
    rw [h1]
    by_cases e : x = v
    · rw [if_pos e, if_pos (by rw [e]; simp)]; omega
    · rw [if_neg e, if_neg (by simp [e])]; omega
end Hp
end Go.Proofs.Yteihbbmbdkkbbaa
