/- Records and batches, plainly: may it be one, what it weighs. -/
import Derived.Test.YtjbljplgkbnpmaaLabAt
namespace Go.Proofs.Ytjbljplgkbnpmaa.RecPlain
open Go LabPlain
set_option linter.unusedVariables false

/-- a record as it stands in memory: its labels' slice, and what they are -/
structure RecV where
  kind : Int
  time : Int
  la : Option Addr
  ln : Nat
  lc : Nat
  labs : List Lab
  text : ByteArray
  value : Int
  null : Bool
def rec0 : RecV := ⟨0, 0, none, 0, 0, [], ByteArray.empty, 0, false⟩
def RecV.cells (r : RecV) : List Value := [.int .i64 r.kind, .int .i64 r.time, .slice r.la r.ln r.lc, .string r.text, .int .i64 r.value, .bool r.null]
/-- what stands in a record is within its bounds, and short enough for its memory -/
def RecV.fits (r : RecV) : Prop :=
  (-9223372036854775808 ≤ r.kind ∧ r.kind ≤ 9223372036854775807) ∧ (-9223372036854775808 ≤ r.time ∧ r.time ≤ 9223372036854775807) ∧ (-9223372036854775808 ≤ r.value ∧ r.value ≤ 9223372036854775807) ∧ r.text.size ≤ 140737488355328 ∧ r.ln * 32 ≤ 140737488355328

/-- what stands beside the labels -/
def isBody (r : RecV) : Bool :=
  if r.kind = 1 then decide (r.text.size ≤ 200) && decide (r.value = 0) && !r.null
  else if r.kind = 2 then decide (r.text.size = 0) && decide (-1152921504606846976 ≤ r.value) && decide (r.value ≤ 1152921504606846976) && (!r.null || decide (r.value = 0))
  else false
def isRec (r : RecV) : Bool := decide (0 ≤ r.time) && decide (r.time ≤ 1099511627775) && isSet r.labs && isBody r

/-- the labels' weight, of the first k -/
def labW (l : List Lab) : Nat → Nat
  | 0 => 0
  | k + 1 => labW l k + ((l.getD k lab0).1.size + (l.getD k lab0).2.size)
def weightOf (r : RecV) : Nat := 16 + r.text.size + labW r.labs r.labs.length
/-- the records' weight, of the first k -/
def sumW (l : List RecV) : Nat → Nat
  | 0 => 0
  | k + 1 => sumW l k + weightOf (l.getD k rec0)
/-- are the first k records? -/
def allR (l : List RecV) : Nat → Bool
  | 0 => true
  | k + 1 => allR l k && isRec (l.getD k rec0)
theorem allR_no {l : List RecV} {k : Nat} (h : isRec (l.getD k rec0) = false) : ∀ d, allR l (k + 1 + d) = false
  | 0 => by simp only [allR, h, Bool.and_false]
  | d + 1 => by rw [← Nat.add_assoc, allR, allR_no h d]; rfl
theorem allR_upto {l : List RecV} : ∀ {n : Nat}, allR l n = true → ∀ i, i < n → isRec (l.getD i rec0) = true
  | 0, _, i, hi => absurd hi (Nat.not_lt_zero _)
  | n + 1, h, i, hi => by
    rw [allR, Bool.and_eq_true] at h
    rcases Nat.lt_or_ge i n with g | g
    · exact allR_upto h.1 i g
    · obtain rfl : i = n := by omega
      exact h.2
/-- the error of a batch -/
def checkOf (maker seq : Int) (l : List RecV) : Int :=
  if 64 < l.length then 14
  else if !(decide (1 ≤ maker) && decide (maker ≤ 64) && decide (1 ≤ seq) && decide (seq ≤ 1099511627775)) then 4
  else if l.length = 0 then 4
  else if !(allR l l.length) then 4
  else if 4096 < sumW l l.length then 14
  else 0

/-- a set's labels are short: at most 24 bytes each, at most four -/
theorem labW_set {l : List Lab} (h : isSet l = true) : ∀ k, k ≤ l.length → labW l k ≤ 24 * k ∧ l.length ≤ 4 := by
  unfold isSet at h
  rw [Bool.and_eq_true, decide_eq_true_eq] at h
  have hup : ∀ n, upTo l n = true → ∀ k, k < n → (l.getD k lab0).1.size ≤ 8 ∧ (l.getD k lab0).2.size ≤ 16 := by
    intro n
    induction n with
    | zero => intro _ k hk; omega
    | succ n ih =>
      intro hu k hk
      rw [upTo] at hu
      simp only [Bool.and_eq_true, decide_eq_true_eq] at hu
      rcases Nat.lt_or_ge k n with g | g
      · exact ih hu.1 k g
      · obtain rfl : k = n := by omega
        have := hu.2
        refine ⟨?_, by simp_all⟩
        have h1 : isNm (l.getD k lab0).1 = true := by simp_all
        unfold isNm at h1
        simp only [Bool.and_eq_true, decide_eq_true_eq] at h1
        omega
  intro k
  induction k with
  | zero => intro _; exact ⟨Nat.le_refl _, h.1⟩
  | succ k ih =>
    intro hk
    have h1 := ih (by omega)
    have h2 := hup _ h.2 k (by omega)
    rw [labW]
    omega
theorem weight_rec {r : RecV} (h : isRec r = true) : weightOf r ≤ 312 := by
  unfold isRec at h
  simp only [Bool.and_eq_true, decide_eq_true_eq] at h
  have h1 := labW_set h.1.2 r.labs.length (Nat.le_refl _)
  have h2 : r.text.size ≤ 200 := by
    have hb := h.2
    unfold isBody at hb
    split at hb
    · simp only [Bool.and_eq_true, decide_eq_true_eq] at hb; omega
    · split at hb
      · simp only [Bool.and_eq_true, decide_eq_true_eq] at hb; omega
      · cases hb
  unfold weightOf
  omega
theorem sumW_le {l : List RecV} : ∀ n, allR l n = true → sumW l n ≤ 312 * n
  | 0, _ => Nat.le_refl _
  | n + 1, h => by
    rw [allR, Bool.and_eq_true] at h
    have h1 := sumW_le n h.1
    have h2 := weight_rec h.2
    rw [sumW]
    omega

/-! ### in another order -/
theorem allR_all (l : List RecV) : allR l l.length = l.all isRec := by
  have h : ∀ k, k ≤ l.length → allR l k = (l.take k).all isRec := by
    intro k
    induction k with
    | zero => intro _; rfl
    | succ k ih =>
      intro hk
      have hk' : k < l.length := hk
      rw [allR, ih (by omega), List.take_add_one, List.all_append]
      simp [hk']
  rw [h _ (Nat.le_refl _), List.take_length]
theorem sumW_sum (l : List RecV) : sumW l l.length = (l.map weightOf).sum := by
  have h : ∀ k, k ≤ l.length → sumW l k = ((l.take k).map weightOf).sum := by
    intro k
    induction k with
    | zero => intro _; rfl
    | succ k ih =>
      intro hk
      have hk' : k < l.length := hk
      rw [sumW, ih (by omega), List.take_add_one, List.map_append, List.sum_append]
      simp [hk']
  rw [h _ (Nat.le_refl _), List.take_length]
theorem check_turn (maker seq : Int) (l : List RecV) (k : Nat) : checkOf maker seq (l.drop k ++ l.take k) = checkOf maker seq l := by
  have hlen : (l.drop k ++ l.take k).length = l.length := by simp; omega
  have hall : (l.drop k ++ l.take k).all isRec = l.all isRec := by
    conv => rhs; rw [← List.take_append_drop k l]
    rw [List.all_append, List.all_append, Bool.and_comm]
  have hsum : ((l.drop k ++ l.take k).map weightOf).sum = (l.map weightOf).sum := by
    conv => rhs; rw [← List.take_append_drop k l]
    rw [List.map_append, List.map_append, List.sum_append, List.sum_append, Nat.add_comm]
  unfold checkOf
  rw [allR_all, sumW_sum, allR_all, sumW_sum, hlen, hall, hsum]
end Go.Proofs.Ytjbljplgkbnpmaa.RecPlain
