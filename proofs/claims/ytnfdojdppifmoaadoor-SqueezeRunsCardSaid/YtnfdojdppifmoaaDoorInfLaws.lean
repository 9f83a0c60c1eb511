/- What is told of inflate's tree: InflateBehind, InflateLimits, plainly. -/
import Derived.Test.YtnfdojdppifmoaaDoorInfTree
namespace Go.Proofs.YtnfdojdppifmoaaDoor.InfPlain
open Go BitsPlain PrefPlain
set_option linter.unusedVariables false

/-- an error is none of OK -/
def Nz {α : Type} (t : Rd α) : Prop := ∀ xs most p o e, run xs most t p o = .error e → e ≠ 0
section
variable {α β : Type}
theorem nz_ret (a : α) : Nz (.ret a) := fun xs most p o e h => by cases h
theorem nz_fail {e : Nat} (he : e ≠ 0) : Nz (.fail e : Rd α) := fun xs most p o e' h => by rw [run] at h; cases h; exact he
theorem nz_bit {k : Nat → Rd α} (h : ∀ b, Nz (k b)) : Nz (.bit k) := fun xs most p o e h1 => by
  rw [run] at h1; split at h1
  · cases h1; decide
  · exact h _ _ _ _ _ _ h1
theorem nz_align {k : Rd α} (h : Nz k) : Nz (.align k) := fun xs most p o e h1 => by rw [run] at h1; exact h _ _ _ _ _ h1
theorem nz_put {x : Nat} {k : Rd α} (h : Nz k) : Nz (.put x k) := fun xs most p o e h1 => by
  rw [run] at h1; split at h1
  · cases h1; decide
  · exact h _ _ _ _ _ h1
theorem nz_chk {n : Nat} {k : Rd α} (h : Nz k) : Nz (.chk n k) := fun xs most p o e h1 => by
  rw [run] at h1; split at h1
  · cases h1; decide
  · exact h _ _ _ _ _ h1
theorem nz_repeat {n a : Nat} {k : Rd α} (h : Nz k) : Nz (.rep n a k) := fun xs most p o e h1 => by
  rw [run] at h1; split at h1
  · cases h1; decide
  · split at h1
    · cases h1; decide
    · exact h _ _ _ _ _ h1
theorem nz_bind {t : Rd α} {f : α → Rd β} (h : Nz t) (hf : ∀ a, Nz (f a)) : Nz (t.bind f) := fun xs most p o e h1 => by
  rw [run_bind] at h1
  split at h1
  · rename_i h2; cases h1; exact h _ _ _ _ _ h2
  · exact hf _ _ _ _ _ _ h1
theorem nz_ite {c : Prop} [Decidable c] {a b : Rd α} (ha : c → Nz a) (hb : ¬ c → Nz b) : Nz (if c then a else b) := by
  split
  · exact ha ‹_›
  · exact hb ‹_›
end
theorem nz_bitsT : ∀ n i v, Nz (bitsT n i v)
  | 0, _, _ => nz_ret _
  | n + 1, i, v => nz_bit fun b => nz_bitsT n _ _
theorem nz_bits (n : Nat) : Nz (bitsR n) := nz_bitsT _ _ _
theorem nz_nextT (L : List Int) : ∀ f k W, Nz (nextT L f k W)
  | 0, _, _ => nz_fail (by decide)
  | f + 1, k, W => nz_bit fun b => nz_ite (fun _ => nz_ret _) (fun _ => nz_nextT L f _ _)
theorem nz_next (L : List Int) : Nz (nextR L) := nz_nextT _ _ _ _
theorem nz_rep (s : Nat) (D : List Int) : Nz (repR s D) :=
  nz_bind (nz_bits _) fun a => nz_bind (nz_next D) fun d => nz_ite (fun _ => nz_fail (by decide)) (fun _ => nz_bind (nz_bits _) fun b => nz_repeat (nz_ret _))
theorem nz_sym (L D : List Int) : ∀ f, Nz (symR L D f)
  | 0 => nz_fail (by decide)
  | f + 1 => nz_bind (nz_next L) fun s => nz_ite (fun _ => nz_ret _) (fun _ => nz_ite (fun _ => nz_put (nz_sym L D f)) (fun _ => nz_ite (fun _ => nz_fail (by decide)) (fun _ => nz_bind (nz_rep _ D) fun _ => nz_sym L D f)))
theorem nz_bytes : ∀ n, Nz (bytesR n)
  | 0 => nz_ret _
  | n + 1 => nz_bind (nz_bits 8) fun x => nz_put (nz_bytes n)
theorem nz_copy : Nz copyR := nz_align (nz_bind (nz_bits 16) fun n => nz_chk (nz_bind (nz_bits 16) fun t => nz_ite (fun _ => nz_fail (by decide)) (fun _ => nz_bytes n)))
theorem nz_third : ∀ n i l, Nz (thirdR n i l)
  | 0, _, _ => nz_ret _
  | n + 1, i, l => nz_bind (nz_bits 3) fun x => nz_third n _ _
theorem nz_lens (C : List Int) (n : Nat) : ∀ f l, Nz (lensR C n f l)
  | 0, _ => nz_fail (by decide)
  | f + 1, l => nz_ite (fun _ => nz_ret _) (fun _ => nz_bind (nz_next C) fun s => nz_ite (fun _ => nz_ite (fun _ => nz_fail (by decide)) (fun _ => nz_bind (nz_bits 2) fun v => nz_ite (fun _ => nz_fail (by decide)) (fun _ => nz_lens C n f _)))
      (fun _ => nz_ite (fun _ => nz_bind (nz_bits 3) fun v => nz_ite (fun _ => nz_fail (by decide)) (fun _ => nz_lens C n f _)) (fun _ => nz_ite (fun _ => nz_bind (nz_bits 7) fun v => nz_ite (fun _ => nz_fail (by decide)) (fun _ => nz_lens C n f _)) (fun _ => nz_lens C n f _))))
theorem nz_dyn (f : Nat) : Nz (dynR f) :=
  nz_bind (nz_bits 5) fun m => nz_bind (nz_bits 5) fun n => nz_bind (nz_bits 4) fun k => nz_ite (fun _ => nz_fail (by decide)) (fun _ => nz_bind (nz_third _ _ _) fun C => nz_ite (fun h => nz_fail h) (fun _ => nz_bind (nz_lens C _ f _) fun l => nz_ite (fun _ => nz_fail (by decide)) (fun _ => nz_ite (fun h => nz_fail h) (fun _ => nz_ite (fun h => nz_fail h) (fun _ => nz_ret _)))))
theorem nz_block (f : Nat) : Nz (blockR f) :=
  nz_bind (nz_bits 1) fun last => nz_bind (nz_bits 2) fun kind => nz_ite (fun _ => nz_fail (by decide)) (fun _ => nz_ite (fun _ => nz_bind nz_copy fun _ => nz_ret _) (fun _ => nz_ite (fun _ => nz_bind (nz_sym _ _ f) fun _ => nz_ret _) (fun _ => nz_bind (nz_dyn f) fun c => nz_bind (nz_sym _ _ f) fun _ => nz_ret _)))
theorem nz_inf (f : Nat) : ∀ g, Nz (infR f g)
  | 0 => nz_fail (by decide)
  | g + 1 => nz_bind (nz_block f) fun last => nz_ite (fun _ => nz_ret _) (fun _ => nz_inf f g)

/-- what Inflate answers -/
def inf (F : Nat) (xs : List Nat) (most : Nat) : List Nat × Nat × Nat := match run xs most (infR F F) 0 [] with | .ok (_, q, r) => (r, (q + 7) / 8, 0) | .error e => ([], 0, e)
theorem inf_ok {F : Nat} {xs : List Nat} {most : Nat} (h : (inf F xs most).2.2 = 0) : ∃ q r, run xs most (infR F F) 0 [] = .ok ((), q, r) ∧ inf F xs most = (r, (q + 7) / 8, 0) := by
  unfold inf at h ⊢
  split at h
  · rename_i u q r hr
    exact ⟨q, r, hr, rfl⟩
  · rename_i e he
    exact absurd h (nz_inf F F _ _ _ _ _ he)
theorem inf_no {F : Nat} {xs : List Nat} {most : Nat} (h : (inf F xs most).2.2 ≠ 0) : (inf F xs most).1 = [] ∧ (inf F xs most).2.1 = 0 := by
  unfold inf at h ⊢
  split at h
  · exact absurd rfl h
  · rename_i e he
    exact ⟨rfl, rfl⟩
theorem inf_first {F : Nat} {xs : List Nat} {most q : Nat} {r : List Nat} (h : run xs most (infR F F) 0 [] = .ok ((), q, r)) : 1 ≤ q ∧ q ≤ 8 * xs.length := by
  refine ⟨?_, (run_end _ (by omega) (by simp) h).1⟩
  cases F with
  | zero => cases h
  | succ g =>
    rw [infR, blockR, run_bind, run_bind, run_bits _ _ _ _ _ (by omega)] at h
    by_cases hl : 8 * xs.length < 0 + 1
    · rw [if_pos hl] at h; cases h
    · rw [if_neg hl] at h
      simp only at h
      split at h
      · cases h
      · rename_i h2
        have h3 := run_le _ h2
        have h4 := run_le _ h
        omega
theorem bitAt_take {xs more : List Nat} {n i : Nat} (hn : n ≤ xs.length) (hi : i < 8 * n) : bitAt (xs.take n ++ more) i = bitAt xs i := by
  unfold bitAt
  have h8 : i / 8 < n := by omega
  have : (xs.take n ++ more).getD (i / 8) 0 = xs.getD (i / 8) 0 := by
    rw [List.getD_eq_getElem?_getD, List.getD_eq_getElem?_getD, List.getElem?_append_left (by rw [List.length_take]; omega), List.getElem?_take, if_pos h8]
  rw [this]
/-- InflateBehind, plainly -/
theorem inf_behind {F : Nat} {xs : List Nat} {most : Nat} (h : (inf F xs most).2.2 = 0) :
    1 ≤ (inf F xs most).2.1 ∧ (inf F xs most).2.1 ≤ xs.length ∧ (∀ more, inf F (xs.take (inf F xs most).2.1 ++ more) most = inf F xs most) ∧ inf F (xs.take ((inf F xs most).2.1 - 1)) most = ([], 0, 3) := by
  obtain ⟨q, r, hr, he⟩ := inf_ok h
  obtain ⟨hq1, hq2⟩ := inf_first hr
  rw [he]
  have hn : (q + 7) / 8 ≤ xs.length := by omega
  refine ⟨by show 1 ≤ (q + 7) / 8; omega, hn, fun more => ?_, ?_⟩
  · have := run_behind (ys := xs.take ((q + 7) / 8) ++ more) _ hr (fun i hi => bitAt_take hn (by omega)) (by rw [List.length_append, List.length_take]; omega)
    unfold inf
    rw [this]
  · have hl : (xs.take ((q + 7) / 8 - 1)).length = (q + 7) / 8 - 1 := by rw [List.length_take]; omega
    have := run_short (ys := xs.take ((q + 7) / 8 - 1)) _ hr (fun i hi => by
      have := bitAt_take (more := []) (xs := xs) (n := (q + 7) / 8 - 1) (i := i) (by omega) (by omega)
      rw [List.append_nil] at this
      exact this) (by omega) (by omega)
    unfold inf
    show (match run (xs.take ((q + 7) / 8 - 1)) most (infR F F) 0 [] with | .ok (_, q, r) => (r, (q + 7) / 8, 0) | .error e => ([], 0, e)) = ([], 0, 3)
    rw [this]
/-- InflateLimits, plainly -/
theorem inf_limits {F : Nat} {xs : List Nat} {most : Nat} (h : (inf F xs most).2.2 = 0) :
    (∀ m, (inf F xs most).1.length ≤ m → inf F xs m = inf F xs most) ∧ (∀ m, m < (inf F xs most).1.length → inf F xs m = ([], 0, 5)) := by
  obtain ⟨q, r, hr, he⟩ := inf_ok h
  rw [he]
  refine ⟨fun m hm => ?_, fun m hm => ?_⟩
  · have := run_more (m := m) (wf_inf F F) hr hm
    unfold inf
    rw [this]
  · have := run_less (m := m) _ hr hm (by simp)
    unfold inf
    rw [this]
end Go.Proofs.YtnfdojdppifmoaaDoor.InfPlain
