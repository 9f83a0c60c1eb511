/- Texts put together by packtpl2.py: InfRd. -/
import Derived.Test.YtpbijdoemdoijaaGreatDoorPkCa3
section PkCa20_0
/- Readers of bits that bring bytes out, as trees: what is told of any of them: what stands behind doesn't count, what is missing is told, and how a limit counts. No Go in sight. -/
namespace Go.Proofs.YtpbijdoemdoijaaGreatDoor.InfPlain
open Go BitsPlain
set_option linter.unusedVariables false

/-- a reader: a bit; up to the next byte; a byte out; n bytes again from `ahead` before; is there room for n? -/
inductive Rd (α : Type) where
  | ret (a : α)
  | fail (e : Nat)
  | bit (k : Nat → Rd α)
  | align (k : Rd α)
  | put (x : Nat) (k : Rd α)
  | rep (n ahead : Nat) (k : Rd α)
  | chk (n : Nat) (k : Rd α)

/-- n bytes again, from `ahead` before the end -/
def repn (o : List Nat) (ahead : Nat) : Nat → List Nat
  | 0 => o
  | n + 1 => repn (o ++ [o.getD (o.length - ahead) 0]) ahead n
theorem repn_len (ahead : Nat) : ∀ n o, (repn o ahead n).length = o.length + n
  | 0, o => rfl
  | n + 1, o => by rw [repn, repn_len ahead n]; simp; omega

/-- what comes of it: over bytes, with a limit, from a place, with what is out -/
def run {α : Type} (xs : List Nat) (most : Nat) : Rd α → Nat → List Nat → Except Nat (α × Nat × List Nat)
  | .ret a, p, o => .ok (a, p, o)
  | .fail e, _, _ => .error e
  | .bit k, p, o => if 8 * xs.length ≤ p then .error 3 else run xs most (k (bitAt xs p)) (p + 1) o
  | .align k, p, o => run xs most k ((p + 7) / 8 * 8) o
  | .put x k, p, o => if most < o.length + 1 then .error 5 else run xs most k p (o ++ [x])
  | .rep n a k, p, o => if o.length < a then .error 4 else if most < o.length + n then .error 5 else run xs most k p (repn o a n)
  | .chk n k, p, o => if most < o.length + n then .error 5 else run xs most k p o

/-- one behind the other -/
def Rd.bind {α β : Type} : Rd α → (α → Rd β) → Rd β
  | .ret a, f => f a
  | .fail e, _ => .fail e
  | .bit k, f => .bit fun b => (k b).bind f
  | .align k, f => .align (k.bind f)
  | .put x k, f => .put x (k.bind f)
  | .rep n a k, f => .rep n a (k.bind f)
  | .chk n k, f => .chk n (k.bind f)

theorem run_bind {α β : Type} (xs : List Nat) (most : Nat) (f : α → Rd β) : ∀ (t : Rd α) (p : Nat) (o : List Nat),
    run xs most (t.bind f) p o = match run xs most t p o with | .error e => .error e | .ok (a, q, r) => run xs most (f a) q r := by
  intro t
  induction t with
  | ret a => intro p o; rfl
  | fail e => intro p o; rfl
  | bit k ih => intro p o; rw [Rd.bind, run, run]; split; rfl; exact ih _ _ _
  | align k ih => intro p o; rw [Rd.bind, run, run]; exact ih _ _
  | put x k ih => intro p o; rw [Rd.bind, run, run]; split; rfl; exact ih _ _
  | rep n a k ih =>
    intro p o; rw [Rd.bind, run, run]; split
    · rfl
    · split
      · rfl
      · exact ih _ _
  | chk n k ih => intro p o; rw [Rd.bind, run, run]; split; rfl; exact ih _ _

variable {α : Type} {xs ys : List Nat} {most : Nat}

theorem run_le : ∀ (t : Rd α) {p : Nat} {o : List Nat} {a : α} {q : Nat} {r : List Nat}, run xs most t p o = .ok (a, q, r) → p ≤ q ∧ o.length ≤ r.length := by
  intro t
  induction t with
  | ret a => intro p o a q r h; rw [run] at h; cases h; exact ⟨Nat.le_refl _, Nat.le_refl _⟩
  | fail e => intro p o a q r h; cases h
  | bit k ih => intro p o a q r h; rw [run] at h; split at h; cases h; have := ih _ h; exact ⟨by omega, this.2⟩
  | align k ih => intro p o a q r h; rw [run] at h; have := ih h; exact ⟨by omega, this.2⟩
  | put x k ih => intro p o a q r h; rw [run] at h; split at h; cases h; have := ih h; simp at this; exact ⟨this.1, by omega⟩
  | rep n a k ih =>
    intro p o a q r h; rw [run] at h; split at h; cases h; split at h; cases h
    have := ih h; rw [repn_len] at this; exact ⟨this.1, by omega⟩
  | chk n k ih => intro p o a q r h; rw [run] at h; split at h; cases h; exact ih h
theorem run_end : ∀ (t : Rd α) {p : Nat} {o : List Nat} {a : α} {q : Nat} {r : List Nat}, p ≤ 8 * xs.length → o.length ≤ most → run xs most t p o = .ok (a, q, r) → q ≤ 8 * xs.length ∧ r.length ≤ most := by
  intro t
  induction t with
  | ret a => intro p o a q r hp ho h; rw [run] at h; cases h; exact ⟨hp, ho⟩
  | fail e => intro p o a q r hp ho h; cases h
  | bit k ih => intro p o a q r hp ho h; rw [run] at h; split at h; cases h; exact ih _ (by omega) ho h
  | align k ih => intro p o a q r hp ho h; rw [run] at h; exact ih (by omega) ho h
  | put x k ih => intro p o a q r hp ho h; rw [run] at h; split at h; cases h; exact ih hp (by simp; omega) h
  | rep n a k ih =>
    intro p o a q r hp ho h; rw [run] at h; split at h; cases h; split at h; cases h
    exact ih hp (by rw [repn_len]; omega) h
  | chk n k ih => intro p o a q r hp ho h; rw [run] at h; split at h; cases h; exact ih hp ho h

/-- what stands behind the last bit that is read doesn't count -/
theorem run_behind : ∀ (t : Rd α) {p : Nat} {o : List Nat} {a : α} {q : Nat} {r : List Nat}, run xs most t p o = .ok (a, q, r) → (∀ i, i < q → bitAt ys i = bitAt xs i) → q ≤ 8 * ys.length → run ys most t p o = .ok (a, q, r) := by
  intro t
  induction t with
  | ret a => intro p o a q r h _ _; exact h
  | fail e => intro p o a q r h; cases h
  | bit k ih =>
    intro p o a q r h hb hq; rw [run] at h; split at h; cases h
    have := run_le _ h
    rw [run, if_neg (by omega), hb p (by omega)]; exact ih _ h hb hq
  | align k ih => intro p o a q r h hb hq; rw [run] at h ⊢; exact ih h hb hq
  | put x k ih => intro p o a q r h hb hq; rw [run] at h ⊢; split at h; cases h; rw [if_neg (by assumption)]; exact ih h hb hq
  | rep n a k ih =>
    intro p o a q r h hb hq; rw [run] at h ⊢; split at h; cases h; split at h; cases h
    rw [if_neg (by assumption), if_neg (by assumption)]; exact ih h hb hq
  | chk n k ih => intro p o a q r h hb hq; rw [run] at h ⊢; split at h; cases h; rw [if_neg (by assumption)]; exact ih h hb hq
/-- where bits are missing it ends too soon -/
theorem run_short : ∀ (t : Rd α) {p : Nat} {o : List Nat} {a : α} {q : Nat} {r : List Nat}, run xs most t p o = .ok (a, q, r) → (∀ i, i < 8 * ys.length → bitAt ys i = bitAt xs i) → p ≤ 8 * ys.length → 8 * ys.length < q → run ys most t p o = .error 3 := by
  intro t
  induction t with
  | ret a => intro p o a q r h _ hp hq; rw [run] at h; cases h; omega
  | fail e => intro p o a q r h; cases h
  | bit k ih =>
    intro p o a q r h hb hp hq; rw [run] at h ⊢; split at h; cases h
    by_cases hl : 8 * ys.length ≤ p
    · rw [if_pos hl]
    · rw [if_neg hl, hb p (by omega)]; exact ih _ h hb (by omega) hq
  | align k ih => intro p o a q r h hb hp hq; rw [run] at h ⊢; exact ih h hb (by omega) hq
  | put x k ih => intro p o a q r h hb hp hq; rw [run] at h ⊢; split at h; cases h; rw [if_neg (by assumption)]; exact ih h hb hp hq
  | rep n a k ih =>
    intro p o a q r h hb hp hq; rw [run] at h ⊢; split at h; cases h; split at h; cases h
    rw [if_neg (by assumption), if_neg (by assumption)]; exact ih h hb hp hq
  | chk n k ih => intro p o a q r h hb hp hq; rw [run] at h ⊢; split at h; cases h; rw [if_neg (by assumption)]; exact ih h hb hp hq

/-- where room is asked for n bytes, n bytes come out -/
inductive Wf {α : Type} : Rd α → Prop
  | ret (a : α) : Wf (.ret a)
  | fail (e : Nat) : Wf (.fail e)
  | bit (k : Nat → Rd α) : (∀ b, Wf (k b)) → Wf (.bit k)
  | align (k : Rd α) : Wf k → Wf (.align k)
  | put (x : Nat) (k : Rd α) : Wf k → Wf (.put x k)
  | rep (n a : Nat) (k : Rd α) : Wf k → Wf (.rep n a k)
  | chk (n : Nat) (k : Rd α) : Wf k → (∀ xs most p o a q r, run xs most k p o = .ok (a, q, r) → o.length + n ≤ r.length) → Wf (.chk n k)
theorem Wf.bind {β : Type} {t : Rd α} (h : Wf t) {f : α → Rd β} (hf : ∀ a, Wf (f a)) : Wf (t.bind f) := by
  induction h with
  | ret a => exact hf a
  | fail e => exact .fail e
  | bit k _ ih => exact .bit _ ih
  | align k _ ih => exact .align _ ih
  | put x k _ ih => exact .put _ _ ih
  | rep n a k _ ih => exact .rep _ _ _ ih
  | chk n k _ hg ih =>
    refine .chk _ _ ih (fun xs most p o a q r h => ?_)
    rw [run_bind] at h
    split at h
    · cases h
    · rename_i h2
      have h3 := hg _ _ _ _ _ _ _ h2
      have h4 := run_le _ h
      omega
/-- a limit that what comes out keeps: the same -/
theorem run_more {m : Nat} : ∀ {t : Rd α}, Wf t → ∀ {p : Nat} {o : List Nat} {a : α} {q : Nat} {r : List Nat}, run xs most t p o = .ok (a, q, r) → r.length ≤ m → run xs m t p o = .ok (a, q, r) := by
  intro t hw
  induction hw with
  | ret a => intro p o a q r h _; exact h
  | fail e => intro p o a q r h; cases h
  | bit k _ ih => intro p o a q r h hm; rw [run] at h ⊢; split at h; cases h; rw [if_neg (by assumption)]; exact ih _ h hm
  | align k _ ih => intro p o a q r h hm; rw [run] at h ⊢; exact ih h hm
  | put x k _ ih =>
    intro p o a q r h hm; rw [run] at h ⊢; split at h; cases h
    have := run_le _ h
    simp at this
    rw [if_neg (by omega)]; exact ih h hm
  | rep n a k _ ih =>
    intro p o a q r h hm; rw [run] at h ⊢; split at h; cases h; split at h; cases h
    have := run_le _ h
    rw [repn_len] at this
    rw [if_neg (by assumption), if_neg (by omega)]; exact ih h hm
  | chk n k _ hg ih =>
    intro p o a q r h hm; rw [run] at h ⊢; split at h; cases h
    have := hg _ _ _ _ _ _ _ h
    rw [if_neg (by omega)]; exact ih h hm
/-- a limit that it breaks: too long -/
theorem run_less {m : Nat} : ∀ (t : Rd α) {p : Nat} {o : List Nat} {a : α} {q : Nat} {r : List Nat}, run xs most t p o = .ok (a, q, r) → m < r.length → o.length ≤ m → run xs m t p o = .error 5 := by
  intro t
  induction t with
  | ret a => intro p o a q r h hm ho; rw [run] at h; cases h; omega
  | fail e => intro p o a q r h; cases h
  | bit k ih => intro p o a q r h hm ho; rw [run] at h ⊢; split at h; cases h; rw [if_neg (by assumption)]; exact ih _ h hm ho
  | align k ih => intro p o a q r h hm ho; rw [run] at h ⊢; exact ih h hm ho
  | put x k ih =>
    intro p o a q r h hm ho; rw [run] at h ⊢; split at h; cases h
    by_cases hl : m < o.length + 1
    · rw [if_pos hl]
    · rw [if_neg hl]; exact ih h hm (by simp; omega)
  | rep n a k ih =>
    intro p o a q r h hm ho; rw [run] at h ⊢; split at h; cases h; split at h; cases h
    rw [if_neg (by assumption)]
    by_cases hl : m < o.length + n
    · rw [if_pos hl]
    · rw [if_neg hl]; exact ih h hm (by rw [repn_len]; omega)
  | chk n k ih =>
    intro p o a q r h hm ho; rw [run] at h ⊢; split at h; cases h
    by_cases hl : m < o.length + n
    · rw [if_pos hl]
    · rw [if_neg hl]; exact ih h hm ho
end Go.Proofs.YtpbijdoemdoijaaGreatDoor.InfPlain
end PkCa20_0
