/- Heaps of anything that has a rank: places turned, what is in them. Merging. Plain. -/
import Derived.Test.YtpcgjladooijmaaHpPlain
namespace Go.Proofs.Ytpcgjladooijmaa
namespace Lh
open Hp (Ok)
variable {α : Type}
/-- two places turned -/
def sw (z : Nat → α) (i k : Nat) : Nat → α := fun j => if j = k then z i else if j = i then z k else z j
theorem sw_map (f : α → Int) (z : Nat → α) (i k : Nat) : (fun j => f (sw z i k j)) = Hp.sw (fun j => f (z j)) i k := by
  funext j
  unfold sw Hp.sw
  split
  · rfl
  · split <;> rfl
/-- the first n things -/
def hl (n : Nat) (z : Nat → α) : List α := (List.range n).map z
theorem hl_len (n : Nat) (z : Nat → α) : (hl n z).length = n := by simp [hl]
theorem hl_succ (n : Nat) (z : Nat → α) : hl (n + 1) z = hl n z ++ [z n] := by simp [hl, List.range_succ]
theorem hl_congr {n : Nat} {z y : Nat → α} (h : ∀ k, k < n → z k = y k) : hl n z = hl n y := List.map_congr_left (fun k hk => h k (List.mem_range.1 hk))
theorem hl_mem {n : Nat} {z : Nat → α} {x : α} : x ∈ hl n z ↔ ∃ k, k < n ∧ z k = x := by simp [hl]
section
open Classical
noncomputable def cnt (z : Nat → α) (v : α) (n : Nat) : Nat := (hl n z).count v
theorem cnt_succ (z : Nat → α) (v : α) (n : Nat) : cnt z v (n + 1) = cnt z v n + if z n = v then 1 else 0 := by
  unfold cnt
  rw [hl_succ, List.count_append, List.count_singleton]
  by_cases e : z n = v <;> simp [e]
theorem cnt_set {z : Nat → α} {a v : α} {i : Nat} : ∀ n, i < n → cnt (fun j => if j = i then a else z j) v n + (if z i = v then 1 else 0) = cnt z v n + (if a = v then 1 else 0)
  | 0, h => by omega
  | n + 1, h => by
    rcases Nat.lt_or_ge i n with g | g
    · have ih := cnt_set (z := z) (a := a) (v := v) n g
      rw [cnt_succ, cnt_succ, if_neg (show ¬ n = i by omega)]
      omega
    · obtain rfl : i = n := by omega
      have he : cnt (fun j => if j = i then a else z j) v i = cnt z v i := by
        unfold cnt
        rw [hl_congr (fun k hk => if_neg (by omega))]
      rw [cnt_succ, cnt_succ, he, if_pos rfl]
      omega
theorem hl_sw {z : Nat → α} {n i k : Nat} (hi : i < n) (hk : k < n) : (hl n (sw z i k)).Perm (hl n z) := by
  refine List.perm_iff_count.2 fun v => ?_
  by_cases e : i = k
  · subst e
    rw [hl_congr (fun j _ => ?_)]
    unfold sw
    by_cases e : j = i
    · rw [if_pos e, e]
    · rw [if_neg e, if_neg e]
  · have h1 := cnt_set (z := z) (a := z k) (v := v) n hi
    have h2 := cnt_set (z := fun j => if j = i then z k else z j) (a := z i) (v := v) n hk
    simp only [if_neg (fun h => e h.symm : ¬ k = i)] at h2
    have h3 : (hl n (sw z i k)).count v = cnt (fun j => if j = k then z i else if j = i then z k else z j) v n := rfl
    have h4 : (hl n z).count v = cnt z v n := rfl
    rw [h3, h4]
    omega
end
end Lh
end Go.Proofs.Ytpcgjladooijmaa
