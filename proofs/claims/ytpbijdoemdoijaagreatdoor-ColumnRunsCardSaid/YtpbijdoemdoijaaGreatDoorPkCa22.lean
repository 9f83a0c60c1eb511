/- Texts put together by packtpl2.py: InfTree, InfLaws, PrefMk2, InfObj. -/
import Derived.Test.YtpbijdoemdoijaaGreatDoorPkCa20
import Derived.Test.YtpbijdoemdoijaaGreatDoorPkCa21
section PkCa22_0
/- What inflate reads, as a tree: bits, words of a code, lengths and distances, blocks. No Go in sight, but for what prefix's Next reads (nx). -/
namespace Go.Proofs.YtpbijdoemdoijaaGreatDoor.InfPlain
open Go BitsPlain PrefPlain
set_option linter.unusedVariables false

/-- a number of n bits, of which i are read and say v -/
def bitsT : Nat → Nat → Nat → Rd Nat
  | 0, _, v => .ret v
  | n + 1, i, v => .bit fun b => bitsT n (i + 1) (v + b * 2 ^ i)
theorem run_bitsT (xs : List Nat) (most p : Nat) (o : List Nat) : ∀ n i, p + i ≤ 8 * xs.length →
    run xs most (bitsT n i (num xs p i)) (p + i) o = if 8 * xs.length < p + i + n then .error 3 else .ok (num xs p (i + n), p + i + n, o)
  | 0, i, h => by rw [bitsT, run, if_neg (by omega)]; rfl
  | n + 1, i, h => by
    rw [bitsT, run]
    by_cases hl : 8 * xs.length ≤ p + i
    · rw [if_pos hl, if_pos (by omega)]
    · rw [if_neg hl]
      have e : num xs p i + bitAt xs (p + i) * 2 ^ i = num xs p (i + 1) := rfl
      rw [e, Nat.add_assoc p i 1, run_bitsT xs most p o n (i + 1) (by omega)]
      rw [show p + (i + 1) + n = p + i + (n + 1) from by omega, show i + 1 + n = i + (n + 1) from by omega]
/-- n bits -/
def bitsR (n : Nat) : Rd Nat := bitsT n 0 0
theorem run_bits (xs : List Nat) (most p n : Nat) (o : List Nat) (h : p ≤ 8 * xs.length) : run xs most (bitsR n) p o = if 8 * xs.length < p + n then .error 3 else .ok (num xs p n, p + n, o) := by
  have := run_bitsT xs most p o n 0 h
  simpa [bitsR, num] using this
theorem wf_bitsT : ∀ n i v, Wf (bitsT n i v)
  | 0, _, _ => .ret _
  | n + 1, i, v => .bit _ fun b => wf_bitsT n _ _

/-- a word of a code -/
def nextT (L : List Int) : Nat → Nat → Nat → Rd Int
  | 0, _, _ => .fail 4
  | f + 1, k, W => .bit fun b => if 2 * W + b < fw (cn L) (k + 1) + cn L (k + 1) then .ret ((sy L L.length (k + 1)).getD (2 * W + b - fw (cn L) (k + 1)) 0) else nextT L f (k + 1) (2 * W + b)
def nextR (L : List Int) : Rd Int := nextT L (mo L L.length) 0 0
theorem run_nextT (L : List Int) (xs : List Nat) (most p : Nat) (o : List Nat) (hp : p ≤ 8 * xs.length) : ∀ f k W, p + k ≤ 8 * xs.length →
    run xs most (nextT L f k W) (p + k) o = if (nx L (fun j => bitAt xs (p + j)) (8 * xs.length - p) f k W).2.1 = 0 then .ok ((nx L (fun j => bitAt xs (p + j)) (8 * xs.length - p) f k W).1, p + (nx L (fun j => bitAt xs (p + j)) (8 * xs.length - p) f k W).2.2, o) else .error (nx L (fun j => bitAt xs (p + j)) (8 * xs.length - p) f k W).2.1
  | 0, k, W, h => by rw [nextT, run, nx, if_neg (by simp)]
  | f + 1, k, W, h => by
    rw [nextT, run]
    by_cases hl : 8 * xs.length ≤ p + k
    · have e : nx L (fun j => bitAt xs (p + j)) (8 * xs.length - p) (f + 1) k W = (0, 3, k) := by rw [nx, if_pos (by omega)]
      rw [if_pos hl, e]
      rfl
    · rw [if_neg hl]
      by_cases hw : 2 * W + bitAt xs (p + k) < fw (cn L) (k + 1) + cn L (k + 1)
      · have e : nx L (fun j => bitAt xs (p + j)) (8 * xs.length - p) (f + 1) k W = ((sy L L.length (k + 1)).getD (2 * W + bitAt xs (p + k) - fw (cn L) (k + 1)) 0, 0, k + 1) := by
          rw [nx, if_neg (by omega), if_pos hw]
        rw [if_pos hw, e, run]
        rfl
      · have e : nx L (fun j => bitAt xs (p + j)) (8 * xs.length - p) (f + 1) k W = nx L (fun j => bitAt xs (p + j)) (8 * xs.length - p) f (k + 1) (2 * W + bitAt xs (p + k)) := by
          rw [nx, if_neg (by omega), if_neg hw]
        rw [if_neg hw, e]
        have := run_nextT L xs most p o hp f (k + 1) (2 * W + bitAt xs (p + k)) (by omega)
        rw [← Nat.add_assoc] at this
        exact this
theorem run_next (L : List Int) (xs : List Nat) (most p : Nat) (o : List Nat) (hp : p ≤ 8 * xs.length) :
    run xs most (nextR L) p o = if (rn L xs p).2.1 = 0 then .ok ((rn L xs p).1, p + (rn L xs p).2.2, o) else .error (rn L xs p).2.1 :=
  run_nextT L xs most p o hp _ 0 0 (by omega)
theorem wf_nextT (L : List Int) : ∀ f k W, Wf (nextT L f k W)
  | 0, _, _ => .fail _
  | f + 1, k, W => .bit _ fun b => by split; exact .ret _; exact wf_nextT L f _ _

/-- the least length of a symbol, and how many bits more; of a distance -/
def lenOf (s : Nat) : Nat × Nat := if s < 8 then (s + 3, 0) else if s = 28 then (258, 0) else (3 + (4 + s % 4) * 2 ^ (s / 4 - 1), s / 4 - 1)
def disOf (d : Nat) : Nat × Nat := if d < 2 then (d + 1, 0) else (1 + (2 + d % 2) * 2 ^ (d / 2 - 1), d / 2 - 1)

/-- a repetition -/
def repR (s : Nat) (D : List Int) : Rd Unit :=
  (bitsR (lenOf s).2).bind fun a => (nextR D).bind fun d => if 30 ≤ d then .fail 4 else (bitsR (disOf d.toNat).2).bind fun b => .rep ((lenOf s).1 + a) ((disOf d.toNat).1 + b) (.ret ())
/-- letters and distances up to the block's end -/
def symR (L D : List Int) : Nat → Rd Unit
  | 0 => .fail 99
  | f + 1 => (nextR L).bind fun s => if s = 256 then .ret () else if s < 256 then .put s.toNat (symR L D f) else if 286 ≤ s then .fail 4 else (repR (s - 257).toNat D).bind fun _ => symR L D f
/-- bytes as they are -/
def bytesR : Nat → Rd Unit
  | 0 => .ret ()
  | n + 1 => (bitsR 8).bind fun x => .put x (bytesR n)
def copyR : Rd Unit := .align ((bitsR 16).bind fun n => .chk n ((bitsR 16).bind fun t => if t ≠ n ^^^ 65535 then .fail 4 else bytesR n))

/-- the lengths of the codes of kind 1 -/
def fixL : List Int := List.replicate 144 8 ++ List.replicate 112 9 ++ List.replicate 24 7 ++ List.replicate 8 8
def fixD : List Int := List.replicate 32 5
/-- the order of the third code's lengths -/
def ordr : List Nat := [16, 17, 18, 0, 8, 7, 9, 6, 10, 5, 11, 4, 12, 3, 13, 2, 14, 1, 15]
/-- the third code's lengths, from the i-th on: n of them -/
def thirdR : Nat → Nat → List Int → Rd (List Int)
  | 0, _, l => .ret l
  | n + 1, i, l => (bitsR 3).bind fun x => thirdR n (i + 1) (l.set (ordr.getD i 0) (x : Int))
/-- n lengths in one row -/
def lensR (C : List Int) (n : Nat) : Nat → List Int → Rd (List Int)
  | 0, _ => .fail 99
  | f + 1, l =>
    if n ≤ l.length then .ret l
    else (nextR C).bind fun s =>
      if s = 16 then (if l.length = 0 then .fail 4 else (bitsR 2).bind fun v => if n < l.length + (v + 3) then .fail 4 else lensR C n f (l ++ List.replicate (v + 3) (l.getD (l.length - 1) 0)))
      else if s = 17 then (bitsR 3).bind fun v => if n < l.length + (v + 3) then .fail 4 else lensR C n f (l ++ List.replicate (v + 3) 0)
      else if s = 18 then (bitsR 7).bind fun v => if n < l.length + (v + 11) then .fail 4 else lensR C n f (l ++ List.replicate (v + 11) 0)
      else lensR C n f (l ++ [s])
/-- the codes of kind 2 -/
def dynR (f : Nat) : Rd (List Int × List Int) :=
  (bitsR 5).bind fun m => (bitsR 5).bind fun n => (bitsR 4).bind fun k =>
    if 286 < m + 257 ∨ 30 < n + 1 then .fail 4
    else (thirdR (k + 4) 0 (List.replicate 19 0)).bind fun C =>
      if mk C ≠ 0 then .fail (mk C)
      else (lensR C (m + 257 + (n + 1)) f []).bind fun l =>
        if l.getD 256 0 = 0 then .fail 4
        else if mk (l.take (m + 257)) ≠ 0 then .fail (mk (l.take (m + 257)))
        else if mk (l.drop (m + 257)) ≠ 0 then .fail (mk (l.drop (m + 257)))
        else .ret (l.take (m + 257), l.drop (m + 257))
/-- one block: is it the last one? -/
def blockR (f : Nat) : Rd Nat :=
  (bitsR 1).bind fun last => (bitsR 2).bind fun kind =>
    if kind = 3 then .fail 4
    else if kind = 0 then copyR.bind fun _ => .ret last
    else if kind = 1 then (symR fixL fixD f).bind fun _ => .ret last
    else (dynR f).bind fun c => (symR c.1 c.2 f).bind fun _ => .ret last
/-- blocks up to the last one -/
def infR (f : Nat) : Nat → Rd Unit
  | 0 => .fail 99
  | g + 1 => (blockR f).bind fun last => if last = 1 then .ret () else infR f g

theorem wf_bits (n : Nat) : Wf (bitsR n) := wf_bitsT _ _ _
theorem wf_next (L : List Int) : Wf (nextR L) := wf_nextT _ _ _ _
theorem wf_ite {α : Type} {c : Prop} [Decidable c] {a b : Rd α} (ha : Wf a) (hb : Wf b) : Wf (if c then a else b) := by split; exact ha; exact hb
theorem wf_rep (s : Nat) (D : List Int) : Wf (repR s D) :=
  (wf_bits _).bind fun a => (wf_next D).bind fun d => wf_ite (.fail _) ((wf_bits _).bind fun b => .rep _ _ _ (.ret _))
theorem wf_sym (L D : List Int) : ∀ f, Wf (symR L D f)
  | 0 => .fail _
  | f + 1 => (wf_next L).bind fun s => wf_ite (.ret _) (wf_ite (.put _ _ (wf_sym L D f)) (wf_ite (.fail _) ((wf_rep _ D).bind fun _ => wf_sym L D f)))
theorem wf_bytes : ∀ n, Wf (bytesR n)
  | 0 => .ret _
  | n + 1 => (wf_bits 8).bind fun x => .put _ _ (wf_bytes n)
theorem bytes_grow : ∀ (n : Nat) (xs : List Nat) (most p : Nat) (o : List Nat) (a : Unit) (q : Nat) (r : List Nat), run xs most (bytesR n) p o = .ok (a, q, r) → r.length = o.length + n
  | 0, xs, most, p, o, a, q, r, h => by rw [bytesR, run] at h; cases h; rfl
  | n + 1, xs, most, p, o, a, q, r, h => by
    rw [bytesR, run_bind] at h
    split at h
    · cases h
    · rename_i x p1 o1 h1
      rw [run] at h
      split at h
      · cases h
      · have h2 := bytes_grow n xs most p1 (o1 ++ [x]) a q r h
        have h3 : o1.length = o.length := by
          have : ∀ n i v p o (x : Nat) p1 o1, run xs most (bitsT n i v) p o = .ok (x, p1, o1) → o1 = o := by
            intro n
            induction n with
            | zero => intro i v p o x p1 o1 h; rw [bitsT, run] at h; cases h; rfl
            | succ n ih => intro i v p o x p1 o1 h; rw [bitsT, run] at h; split at h; cases h; exact ih _ _ _ _ _ _ _ h
          rw [this _ _ _ _ _ _ _ _ h1]
        simp at h2
        omega
theorem wf_copy : Wf copyR := by
  refine .align _ ((wf_bits 16).bind fun n => .chk _ _ ((wf_bits 16).bind fun t => wf_ite (.fail _) (wf_bytes n)) (fun xs most p o a q r h => ?_))
  rw [run_bind] at h
  split at h
  · cases h
  · rename_i h2
    have h3 := run_le _ h2
    split at h
    · cases h
    · have := bytes_grow _ _ _ _ _ _ _ _ h
      omega
theorem wf_third : ∀ n i l, Wf (thirdR n i l)
  | 0, _, _ => .ret _
  | n + 1, i, l => (wf_bits 3).bind fun x => wf_third n _ _
theorem wf_lens (C : List Int) (n : Nat) : ∀ f l, Wf (lensR C n f l)
  | 0, _ => .fail _
  | f + 1, l => wf_ite (.ret _) ((wf_next C).bind fun s => wf_ite (wf_ite (.fail _) ((wf_bits 2).bind fun v => wf_ite (.fail _) (wf_lens C n f _)))
      (wf_ite ((wf_bits 3).bind fun v => wf_ite (.fail _) (wf_lens C n f _)) (wf_ite ((wf_bits 7).bind fun v => wf_ite (.fail _) (wf_lens C n f _)) (wf_lens C n f _))))
theorem wf_dyn (f : Nat) : Wf (dynR f) :=
  (wf_bits 5).bind fun m => (wf_bits 5).bind fun n => (wf_bits 4).bind fun k => wf_ite (.fail _) ((wf_third _ _ _).bind fun C => wf_ite (.fail _) ((wf_lens C _ f _).bind fun l => wf_ite (.fail _) (wf_ite (.fail _) (wf_ite (.fail _) (.ret _)))))
theorem wf_block (f : Nat) : Wf (blockR f) :=
  (wf_bits 1).bind fun last => (wf_bits 2).bind fun kind => wf_ite (.fail _) (wf_ite (wf_copy.bind fun _ => .ret _) (wf_ite ((wf_sym _ _ f).bind fun _ => .ret _) ((wf_dyn f).bind fun c => (wf_sym _ _ f).bind fun _ => .ret _)))
theorem wf_inf (f : Nat) : ∀ g, Wf (infR f g)
  | 0 => .fail _
  | g + 1 => (wf_block f).bind fun last => wf_ite (.ret _) (wf_inf f g)
end Go.Proofs.YtpbijdoemdoijaaGreatDoor.InfPlain
end PkCa22_0
section PkCa22_1
/- What is told of inflate's tree: InflateBehind, InflateLimits, plainly. -/
namespace Go.Proofs.YtpbijdoemdoijaaGreatDoor.InfPlain
open Go BitsPlain PrefPlain
set_option linter.unusedVariables false

/-- an error is none of OK -/
def Nz {α : Type} (t : Rd α) : Prop := ∀ xs most p o e, run xs most t p o = .error e → e ≠ 0
section
variable {α β : Type}
theorem nz_ret (a : α) : Nz (.ret a) := fun xs most p o e h => by cases h
theorem nz_fail {e : Nat} (he : e ≠ 0) : Nz (.fail e : Rd α) := fun xs most p o e' h => by rw [run] at h; cases h; exact he
theorem nz_bit {k : Nat → Rd α} (h : ∀ b, Nz (k b)) : Nz (.bit k) := fun xs most p o e h1 => by
  rw [run] at h1; split at h1
  · cases h1; decide
  · exact h _ _ _ _ _ _ h1
theorem nz_align {k : Rd α} (h : Nz k) : Nz (.align k) := fun xs most p o e h1 => by rw [run] at h1; exact h _ _ _ _ _ h1
theorem nz_put {x : Nat} {k : Rd α} (h : Nz k) : Nz (.put x k) := fun xs most p o e h1 => by
  rw [run] at h1; split at h1
  · cases h1; decide
  · exact h _ _ _ _ _ h1
theorem nz_chk {n : Nat} {k : Rd α} (h : Nz k) : Nz (.chk n k) := fun xs most p o e h1 => by
  rw [run] at h1; split at h1
  · cases h1; decide
  · exact h _ _ _ _ _ h1
theorem nz_repeat {n a : Nat} {k : Rd α} (h : Nz k) : Nz (.rep n a k) := fun xs most p o e h1 => by
  rw [run] at h1; split at h1
  · cases h1; decide
  · split at h1
    · cases h1; decide
    · exact h _ _ _ _ _ h1
theorem nz_bind {t : Rd α} {f : α → Rd β} (h : Nz t) (hf : ∀ a, Nz (f a)) : Nz (t.bind f) := fun xs most p o e h1 => by
  rw [run_bind] at h1
  split at h1
  · rename_i h2; cases h1; exact h _ _ _ _ _ h2
  · exact hf _ _ _ _ _ _ h1
theorem nz_ite {c : Prop} [Decidable c] {a b : Rd α} (ha : c → Nz a) (hb : ¬ c → Nz b) : Nz (if c then a else b) := by
  split
  · exact ha ‹_›
  · exact hb ‹_›
end
theorem nz_bitsT : ∀ n i v, Nz (bitsT n i v)
  | 0, _, _ => nz_ret _
  | n + 1, i, v => nz_bit fun b => nz_bitsT n _ _
theorem nz_bits (n : Nat) : Nz (bitsR n) := nz_bitsT _ _ _
theorem nz_nextT (L : List Int) : ∀ f k W, Nz (nextT L f k W)
  | 0, _, _ => nz_fail (by decide)
  | f + 1, k, W => nz_bit fun b => nz_ite (fun _ => nz_ret _) (fun _ => nz_nextT L f _ _)
theorem nz_next (L : List Int) : Nz (nextR L) := nz_nextT _ _ _ _
theorem nz_rep (s : Nat) (D : List Int) : Nz (repR s D) :=
  nz_bind (nz_bits _) fun a => nz_bind (nz_next D) fun d => nz_ite (fun _ => nz_fail (by decide)) (fun _ => nz_bind (nz_bits _) fun b => nz_repeat (nz_ret _))
theorem nz_sym (L D : List Int) : ∀ f, Nz (symR L D f)
  | 0 => nz_fail (by decide)
  | f + 1 => nz_bind (nz_next L) fun s => nz_ite (fun _ => nz_ret _) (fun _ => nz_ite (fun _ => nz_put (nz_sym L D f)) (fun _ => nz_ite (fun _ => nz_fail (by decide)) (fun _ => nz_bind (nz_rep _ D) fun _ => nz_sym L D f)))
theorem nz_bytes : ∀ n, Nz (bytesR n)
  | 0 => nz_ret _
  | n + 1 => nz_bind (nz_bits 8) fun x => nz_put (nz_bytes n)
theorem nz_copy : Nz copyR := nz_align (nz_bind (nz_bits 16) fun n => nz_chk (nz_bind (nz_bits 16) fun t => nz_ite (fun _ => nz_fail (by decide)) (fun _ => nz_bytes n)))
theorem nz_third : ∀ n i l, Nz (thirdR n i l)
  | 0, _, _ => nz_ret _
  | n + 1, i, l => nz_bind (nz_bits 3) fun x => nz_third n _ _
theorem nz_lens (C : List Int) (n : Nat) : ∀ f l, Nz (lensR C n f l)
  | 0, _ => nz_fail (by decide)
  | f + 1, l => nz_ite (fun _ => nz_ret _) (fun _ => nz_bind (nz_next C) fun s => nz_ite (fun _ => nz_ite (fun _ => nz_fail (by decide)) (fun _ => nz_bind (nz_bits 2) fun v => nz_ite (fun _ => nz_fail (by decide)) (fun _ => nz_lens C n f _)))
      (fun _ => nz_ite (fun _ => nz_bind (nz_bits 3) fun v => nz_ite (fun _ => nz_fail (by decide)) (fun _ => nz_lens C n f _)) (fun _ => nz_ite (fun _ => nz_bind (nz_bits 7) fun v => nz_ite (fun _ => nz_fail (by decide)) (fun _ => nz_lens C n f _)) (fun _ => nz_lens C n f _))))
theorem nz_dyn (f : Nat) : Nz (dynR f) :=
  nz_bind (nz_bits 5) fun m => nz_bind (nz_bits 5) fun n => nz_bind (nz_bits 4) fun k => nz_ite (fun _ => nz_fail (by decide)) (fun _ => nz_bind (nz_third _ _ _) fun C => nz_ite (fun h => nz_fail h) (fun _ => nz_bind (nz_lens C _ f _) fun l => nz_ite (fun _ => nz_fail (by decide)) (fun _ => nz_ite (fun h => nz_fail h) (fun _ => nz_ite (fun h => nz_fail h) (fun _ => nz_ret _)))))
theorem nz_block (f : Nat) : Nz (blockR f) :=
  nz_bind (nz_bits 1) fun last => nz_bind (nz_bits 2) fun kind => nz_ite (fun _ => nz_fail (by decide)) (fun _ => nz_ite (fun _ => nz_bind nz_copy fun _ => nz_ret _) (fun _ => nz_ite (fun _ => nz_bind (nz_sym _ _ f) fun _ => nz_ret _) (fun _ => nz_bind (nz_dyn f) fun c => nz_bind (nz_sym _ _ f) fun _ => nz_ret _)))
theorem nz_inf (f : Nat) : ∀ g, Nz (infR f g)
  | 0 => nz_fail (by decide)
  | g + 1 => nz_bind (nz_block f) fun last => nz_ite (fun _ => nz_ret _) (fun _ => nz_inf f g)

/-- what Inflate answers -/
def inf (F : Nat) (xs : List Nat) (most : Nat) : List Nat × Nat × Nat := match run xs most (infR F F) 0 [] with | .ok (_, q, r) => (r, (q + 7) / 8, 0) | .error e => ([], 0, e)
theorem inf_ok {F : Nat} {xs : List Nat} {most : Nat} (h : (inf F xs most).2.2 = 0) : ∃ q r, run xs most (infR F F) 0 [] = .ok ((), q, r) ∧ inf F xs most = (r, (q + 7) / 8, 0) := by
  unfold inf at h ⊢
  split at h
  · rename_i u q r hr
    exact ⟨q, r, hr, rfl⟩
  · rename_i e he
    exact absurd h (nz_inf F F _ _ _ _ _ he)
theorem inf_no {F : Nat} {xs : List Nat} {most : Nat} (h : (inf F xs most).2.2 ≠ 0) : (inf F xs most).1 = [] ∧ (inf F xs most).2.1 = 0 := by
  unfold inf at h ⊢
  split at h
  · exact absurd rfl h
  · rename_i e he
    exact ⟨rfl, rfl⟩
theorem inf_first {F : Nat} {xs : List Nat} {most q : Nat} {r : List Nat} (h : run xs most (infR F F) 0 [] = .ok ((), q, r)) : 1 ≤ q ∧ q ≤ 8 * xs.length := by
  refine ⟨?_, (run_end _ (by omega) (by simp) h).1⟩
  cases F with
  | zero => cases h
  | succ g =>
    rw [infR, blockR, run_bind, run_bind, run_bits _ _ _ _ _ (by omega)] at h
    by_cases hl : 8 * xs.length < 0 + 1
    · rw [if_pos hl] at h; cases h
    · rw [if_neg hl] at h
      simp only at h
      split at h
      · cases h
      · rename_i h2
        have h3 := run_le _ h2
        have h4 := run_le _ h
        omega
theorem bitAt_take {xs more : List Nat} {n i : Nat} (hn : n ≤ xs.length) (hi : i < 8 * n) : bitAt (xs.take n ++ more) i = bitAt xs i := by
  unfold bitAt
  have h8 : i / 8 < n := by omega
  have : (xs.take n ++ more).getD (i / 8) 0 = xs.getD (i / 8) 0 := by
    rw [List.getD_eq_getElem?_getD, List.getD_eq_getElem?_getD, List.getElem?_append_left (by rw [List.length_take]; omega), List.getElem?_take, if_pos h8]
  rw [this]
/-- InflateBehind, plainly -/
theorem inf_behind {F : Nat} {xs : List Nat} {most : Nat} (h : (inf F xs most).2.2 = 0) :
    1 ≤ (inf F xs most).2.1 ∧ (inf F xs most).2.1 ≤ xs.length ∧ (∀ more, inf F (xs.take (inf F xs most).2.1 ++ more) most = inf F xs most) ∧ inf F (xs.take ((inf F xs most).2.1 - 1)) most = ([], 0, 3) := by
  obtain ⟨q, r, hr, he⟩ := inf_ok h
  obtain ⟨hq1, hq2⟩ := inf_first hr
  rw [he]
  have hn : (q + 7) / 8 ≤ xs.length := by omega
  refine ⟨by show 1 ≤ (q + 7) / 8; omega, hn, fun more => ?_, ?_⟩
  · have := run_behind (ys := xs.take ((q + 7) / 8) ++ more) _ hr (fun i hi => bitAt_take hn (by omega)) (by rw [List.length_append, List.length_take]; omega)
    unfold inf
    rw [this]
  · have hl : (xs.take ((q + 7) / 8 - 1)).length = (q + 7) / 8 - 1 := by rw [List.length_take]; omega
    have := run_short (ys := xs.take ((q + 7) / 8 - 1)) _ hr (fun i hi => by
      have := bitAt_take (more := []) (xs := xs) (n := (q + 7) / 8 - 1) (i := i) (by omega) (by omega)
      rw [List.append_nil] at this
      exact this) (by omega) (by omega)
    unfold inf
    show (match run (xs.take ((q + 7) / 8 - 1)) most (infR F F) 0 [] with | .ok (_, q, r) => (r, (q + 7) / 8, 0) | .error e => ([], 0, e)) = ([], 0, 3)
    rw [this]
/-- InflateLimits, plainly -/
theorem inf_limits {F : Nat} {xs : List Nat} {most : Nat} (h : (inf F xs most).2.2 = 0) :
    (∀ m, (inf F xs most).1.length ≤ m → inf F xs m = inf F xs most) ∧ (∀ m, m < (inf F xs most).1.length → inf F xs m = ([], 0, 5)) := by
  obtain ⟨q, r, hr, he⟩ := inf_ok h
  rw [he]
  refine ⟨fun m hm => ?_, fun m hm => ?_⟩
  · have := run_more (m := m) (wf_inf F F) hr hm
    unfold inf
    rw [this]
  · have := run_less (m := m) _ hr hm (by simp)
    unfold inf
    rw [this]
end Go.Proofs.YtpbijdoemdoijaaGreatDoor.InfPlain
end PkCa22_1
section PkCa22_2
/- Package prefix's Make: the table lies wholly in new memory. (Written by genmk2.py out of XPrefMk.) -/
namespace Go.Proofs.YtpbijdoemdoijaaGreatDoor
open Go.RowKit PrefPlain
set_option linter.unusedVariables false

/-- a table that lies wholly from block b0 on: what leaves that as it is leaves the table -/
def TabUp (b0 : Nat) (w : World) (B : Nat) (L : List Int) : Prop := ∀ w' : World, w.heap.size ≤ w'.heap.size → (∀ k, b0 ≤ k → k < w.heap.size → w'.heap[k]? = w.heap[k]?) → TabAt w' B L
theorem tabUp_of {b0 : Nat} {w : World} {B : Nat} {L : List Int} {a : Option Addr} {n c : Nat} {V : Nat → Value} (hT : TabBlk w B (.slice a n c) (fw (cn L)) V (mo L L.length)) (hI : IntsAt .i64 w a n c L) (hS : Syms w B V L L.length)
    (hok : okL L L.length) (hsh : L.length ≤ 320) (hB : b0 ≤ B) (hfr : ∀ b off s, a = some ⟨b, off, s⟩ → b0 ≤ b) : TabUp b0 w B L := by
  intro w' hsz hk
  refine ⟨⟨a, n, c, V, hT.other (hk B hB hT.lt), ?_, ?_⟩, hok, hsh⟩
  · exact ⟨hI.len, hI.cap, hI.wf, hI.capm, hI.nl, fun hn => by
      obtain ⟨b, off, ha, hlt, hc⟩ := hI.cells hn
      exact ⟨b, off, ha, Nat.lt_of_lt_of_le hlt hsz, fun i hi => (World.cell?_of_block (w := w) (hk b (hfr b off _ ha) hlt)).trans (hc i hi)⟩⟩
  · refine ⟨fun i hi => ?_, hS.apart⟩
    have ho := hS.own i hi
    refine ⟨ho.1, ?_⟩
    rcases ho.2 with h0 | ⟨g, cap, cur, he, hg, hh, rest⟩
    · exact .inl h0
    · exact .inr ⟨g, cap, cur, he, hg, (hk g (by omega) (Array.getElem?_eq_some_iff.1 hh).1).trans hh, rest⟩
theorem TabUp.at {b0 : Nat} {w : World} {B : Nat} {L : List Int} (h : TabUp b0 w B L) : TabAt w B L := h w (Nat.le_refl _) (fun _ _ _ => rfl)

set_option maxRecDepth 100000 in
set_option maxHeartbeats 4000000 in
theorem make2_any {w : World} {a : Option Addr} {n c : Nat} {L : List Int} (h : IntsAt .i64 w a n c L) :
    Calls Tryz.prog 204 #[.slice a n c] w fun e w' => ∃ p, e = .returned (.tuple #[.pointer p, .int .i64 ((mk L : Nat) : Int)]) ∧ Below w.heap.size w w' ∧ (mk L ≠ 0 → p = none) ∧ (mk L = 0 → ∃ B, p = some ⟨B, 0, none⟩ ∧ w.heap.size ≤ B ∧ TabUp w.heap.size w' B L) := by
  obtain ⟨i0, hi, hz0, hz1, hz2⟩ := info_parts info_int
  have hlen := h.len
  have hcap := h.cap
  have hcm := h.capm
  have HH := Lib.hid h
  have HL := Lib.hid hlen
  clear h hlen
  by_cases hbig : (320 : Int) < (n : Int)
  · have HM := Lib.hid (show mk L = 5 by unfold mk; rw [if_pos (by rw [HL.out]; omega)])
    go_enter Tryz.func204, Tryz.ntmps204
    go_wp2_with fail
    go_ret2
    rw [HM.out]
    exact ⟨none, rfl, Below.refl _ _, fun _ => rfl, fun h => by cases h⟩
  · have hn : n ≤ 320 := by omega
    have HC := Lib.hid (cloneInt HH.out (by omega))
    have hbig2 : (n : Int) ≤ 320 := by omega
    clear hbig
    go_enter Tryz.func204, Tryz.ntmps204
    go_wp2_with fail
    refine HC.out.mono ?_
    rintro e w1 ⟨v1, rfl, ho1, hb1⟩
    obtain ⟨a1, c1, rfl, hi1, hfr1⟩ := IntsAt.ofOwn ho1 HH.out.wf
    have HFR1 := Lib.hid hfr1
    clear hfr1
    go_wp2_with fail
    generalize hwb : w1.alloc (Obj.cells _ _) = wb
    obtain ⟨B, hB⟩ : ∃ B, B = w1.heap.size := ⟨_, rfl⟩
    rw [← hB]
    have hT0 : TabBlk wb B (.slice a1 n c1) (fun _ => 0) (fun _ => .slice none 0 0) (mo L 0) := by
      rw [← hwb, hB]
      exact ⟨_, heap_alloc_new w1 _, rfl, rfl, (by intro i hi; have h16 := lt16 i hi; rcases h16 with rfl | rfl | rfl | rfl | rfl | rfl | rfl | rfl | rfl | rfl | rfl | rfl | rfl | rfl | rfl | rfl <;> rfl), (by intro i hi; have h16 := lt16 i hi; rcases h16 with rfl | rfl | rfl | rfl | rfl | rfl | rfl | rfl | rfl | rfl | rfl | rfl | rfl | rfl | rfl | rfl <;> rfl), rfl⟩
    have hS0 : Syms wb B (fun _ => .slice none 0 0) L 0 := ⟨fun i hi => by rw [sy_start]; exact World.ownsRow_nil _ _ _ _, fun i j _ _ _ => .inl rfl⟩
    have hb0 : Below B w1 wb := by rw [← hwb]; exact (Below.refl _ _).alloc (by omega) _
    have HB0 := Lib.hid hb0
    have HB1 := Lib.hid hb1
    have HI1 := Lib.hid hi1
    have HB := Lib.hid hB
    have hO0 : okL L 0 := fun s hs => absurd hs (Nat.not_lt_zero _)
    clear hwb hB hb0 hb1 ho1 hi1
    go_loopw [18] (fun s18 wr => ∃ (k : Nat) (V : Nat → Value), k ≤ n ∧ s18 = .int .i64 k ∧ okL L k ∧ TabBlk wr B (.slice a1 n c1) (fun _ => 0) V (mo L k) ∧ Syms wr B V L k ∧ Hid (Below B w1 wr)) (fun s18 _ => n - (intOf s18).toNat)
    case atStart => exact ⟨0, _, by omega, rfl, hO0, hT0, hS0, HB0⟩
    case round =>
      clear hO0 hT0 hS0
      obtain ⟨k, V, hk, rfl, hok, hT, hS, HBW⟩ := hrel
      rename World => wr
      have hbw : Below w.heap.size w wr := (HB1.out.trans (HBW.out.mono (by have := HB.out; have := HB1.out.size; omega)))
      have HBL := Lib.hid hbw
      by_cases hkn : k < n
      · obtain ⟨b, off, rfl, hlt, hcell⟩ := (HH.out.kept hbw).cells (by omega)
        have hck := hcell k hkn
        obtain ⟨x, hx⟩ : ∃ x, x = L.getD k 0 := ⟨_, rfl⟩
        rw [← hx] at hck
        by_cases hx0 : x < 0
        · have HN := Lib.hid (show mk L = 1 by unfold mk; rw [if_neg (by rw [HL.out]; omega), if_pos (allOk_no (k := k) (by rw [HL.out]; exact hkn) (by rw [← hx]; omega))])
          clear hcell hx hT hS hok hbw
          go_wp2_with fail
          go_ret2
          rw [HN.out]
          exact ⟨none, rfl, HBL.out, fun _ => rfl, fun h => by cases h⟩
        · by_cases hx15 : 15 < x
          · have HN := Lib.hid (show mk L = 1 by unfold mk; rw [if_neg (by rw [HL.out]; omega), if_pos (allOk_no (k := k) (by rw [HL.out]; exact hkn) (by rw [← hx]; omega))])
            have hx0' : 0 ≤ x := by omega
            clear hx0 hcell hx hT hS hok hbw
            go_wp2_with fail
            go_ret2
            rw [HN.out]
            exact ⟨none, rfl, HBL.out, fun _ => rfl, fun h => by cases h⟩
          · by_cases hxz : x = 0
            · subst hxz
              have hS' := hS.miss hx.symm
              have hT' : TabBlk wr B (.slice a1 n c1) (fun _ => 0) V (mo L (k + 1)) := by
                have : mo L (k + 1) = mo L k := by rw [mo, ← hx]; simp
                rw [this]; exact hT
              have hok' : okL L (k + 1) := okL_succ hok (by rw [← hx]; omega)
              have HS' := Lib.hid hS'
              have HT' := Lib.hid hT'
              have HOK' := Lib.hid hok'
              clear hcell hx hT hS hok hbw hx0 hx15 hS' hT' hok'
              go_wp2_with fail
              go_roundw
              case rel => exact ⟨k + 1, V, by omega, by go_num, HOK'.out, HT'.out, HS'.out, HBW⟩
              case measure => simp [intOf]; omega
            · obtain ⟨m, rfl⟩ : ∃ m : Nat, x = (m : Int) := ⟨x.toNat, by omega⟩
              have hm1 : 0 < m := by omega
              have hm16 : m < 16 := by omega
              have hmi : (m : Int) < 16 := by omega
              obtain ⟨am, cm, hVm, hiV, _⟩ := IntsAt.ofOwn (hS.own m hm16) (fun z hz => wf_int (by have := sy_bound z hz; omega))
              have hcv := hT.cV m hm16
              rw [hVm] at hcv
              have hfv := hT.fr (17 + m)
              have hcm := hT.cM
              have hfm := hT.fr 33
              have hso := hS.own m hm16
              rw [hVm] at hso
              obtain ⟨q, hq⟩ : ∃ q, q = (sy L k m).length := ⟨_, rfl⟩
              rw [← hq] at hso hcv
              have hq2 : q ≤ 320 := by rw [hq]; exact Nat.le_trans (sy_len L k m) (by omega)
              have HSO := Lib.hid hso
              have HT := Lib.hid hT
              have HS := Lib.hid hS
              have HV := Lib.hid hVm
              have HX := Lib.hid hx
              have HOK := Lib.hid hok
              have HQ := Lib.hid hq
              have hBl := hT.lt
              clear hcell hx hiV hVm hT hS hso hok hbw hq hx0 hx15 hxz
              go_wp2_with fail
              go_region_law (first | (refine step_append_own_at rfl (.tmp 38) (.tmp 40) 77 rfl (B + 1) 3 i0 (.int .i64 0) 1 8 Tryz.underlying77 hi hz0 hz1 hz2 rfl (by decide) _ _ _ rfl ((HSO.out.alloc (.cells #[.int .i64 (k : Int)] 3)).drew) ⟨wr.heap.size, 0, none⟩ 1 1 [.int .i64 (k : Int)] rfl rfl (one_src _ _ _) (one_oneCell rfl) (by unfold maxLen; omega) (by omega) (by simp; omega) ?_; intro v4 w4 ho4 hg4 hat4; obtain ⟨g4, c4, rfl⟩ := own_some ho4 (by omega); have hT4 := Lib.hid (HT.out.other (w' := w4) (step_blk hg4 hBl (own_low HSO.out))); have hcv4 := hT4.out.cV m hm16; have hfv4 := hT4.out.fr (17 + m)))
              all_goals
                generalize hw5 : World.setCell _ _ _ = w5
                have hT5 := hT4.out.setV m hm16 (.slice (some ⟨g4, 0, none⟩) (q + 1) c4)
                rw [hw5] at hT5
                have hcM5 := hT5.cM
                have hfM5 := hT5.fr 33
                have HW5 := Lib.hid hw5
                have HT5 := Lib.hid hT5
                have HO4 := Lib.hid ho4
                have HG4 := Lib.hid hg4
                have HA4 := Lib.hid hat4
                clear hw5 hT5 ho4 hg4 hat4 hcv4 hfv4 hcv hfv hcm hfm
                go_wp2_with fail
                generalize hw6 : World.setCell _ _ _ = w6
                rw [max_cast] at hw6
                have hT6 := HT5.out.setM (max (mo L k) m)
                rw [hw6] at hT6
                have hmo : mo L (k + 1) = max (mo L k) m := by rw [mo, ← HX.out]; rfl
                rw [← hmo] at hT6
                have ho4 := HO4.out
                have hg4 := HG4.out
                have hvq : Value.slice am q cm = V m := by rw [HV.out, ← HQ.out]
                rw [hvq] at hg4
                have hat4 := HA4.out
                rw [hvq] at hat4
                have hS4 := HS.out.step hm16 hm1 HX.out.symm HQ.out ho4 hg4 hat4
                have hS6 : Syms w6 B (fun i => if i = m then .slice (some ⟨g4, 0, none⟩) (q + 1) c4 else V i) L (k + 1) := hS4.same (by
                  rw [← hw6, ← HW5.out]; exact two_sets _ _ _ _)
                have hB6 : Below B w1 w6 := by
                  rw [← hw6, ← HW5.out]
                  exact ((((HBW.out.alloc (by omega) _).drew).grown hg4 (by simp; omega) (fun j hj => by have := ((HS.out.own m hm16).lt j hj).1; omega)).setCell (Nat.le_refl _) _).setCell (Nat.le_refl _) _
                have hok6 : okL L (k + 1) := okL_succ HOK.out (by rw [← HX.out]; omega)
                clear hw6 hmo ho4 hg4 hat4 hS4 hvq
                go_roundw
                case rel => exact ⟨k + 1, _, by omega, by go_num, hok6, hT6, hS6, Lib.hid hB6⟩
                case measure => simp [intOf]; omega
      · obtain rfl : k = n := by omega
        have hLk : L.length = k := HL.out
        have hVc : ∀ i, i < 16 → ∃ a c, V i = .slice a (cn L i) c := fun i hi => by
          obtain ⟨a, c, he, _, _⟩ := IntsAt.ofOwn (hS.own i hi) (fun z hz => wf_int (by have := sy_bound z hz; omega))
          exact ⟨a, c, by rw [he]; unfold cn; rw [hLk]⟩
        have hcn := cn_le L (by omega)
        have HF := Lib.hid (fits_any hT hVc hcn)
        have hall : allOk L = true := allOk_of (by rw [hLk]; exact hok)
        have hmk : mk L = if fitsB (cn L) (mo L k) = false then 4 else 0 := by
          unfold mk; rw [if_neg (by omega), if_neg (by rw [hall]; simp), hLk]
        have HMK := Lib.hid hmk
        have HS := Lib.hid hS
        have HT := Lib.hid hT
        have HOK := Lib.hid hok
        have HVC := Lib.hid hVc
        have HCN := Lib.hid hcn
        have HLK := Lib.hid hLk
        clear hT hS hok hVc hcn hall hmk hbw hLk
        go_wp2_with fail
        refine HF.out.mono ?_
        rintro e w2 ⟨rfl, rfl⟩
        cases hfb : fitsB (cn L) (mo L k) with
        | false =>
          have HM := Lib.hid (show mk L = 4 by rw [HMK.out, hfb]; rfl)
          clear hfb
          go_wp2_with fail
          go_ret2
          rw [HM.out]
          exact ⟨none, rfl, HBL.out, fun _ => rfl, fun h => by cases h⟩
        | true =>
          have HM := Lib.hid (show mk L = 0 by rw [HMK.out, hfb]; rfl)
          have hF0 : (fun i => if i < 1 then fw (cn L) i else 0) = fun (_ : Nat) => 0 := by
            funext i
            split
            · obtain rfl : i = 0 := by omega
              rfl
            · rfl
          have hT1 : TabBlk wr B (.slice a1 k c1) (fun i => if i < 1 then fw (cn L) i else 0) V (mo L k) := by rw [hF0]; exact HT.out
          have HS1 := HS
          clear hfb hF0 HT HS
          go_wp2_with fail
          go_loopw [7, 8] (fun s7 s8 wq => ∃ j : Nat, 1 ≤ j ∧ j ≤ 16 ∧ s8 = .int .i64 j ∧ s7 = .int .u32 ((wd (cn L) j : Nat) : Int) ∧ TabBlk wq B (.slice a1 k c1) (fun i => if i < j then fw (cn L) i else 0) V (mo L k) ∧ Syms wq B V L k ∧ Hid (Below B w1 wq)) (fun _ s8 _ => 16 - (intOf s8).toNat)
          case atStart => exact ⟨1, by omega, by omega, rfl, rfl, hT1, HS1.out, HBW⟩
          case round =>
            clear hT1 HS1
            obtain ⟨j, hj1, hj16, rfl, rfl, hT, hS, HBQ⟩ := hrel
            rename World => wq
            by_cases hj : j ≤ 15
            · have h2 := wd_two (cn L) hj1
              have h26 := fw_26 (cn L) HCN.out hj
              have hs := wd_succ (cn L) hj1
              have hcj := HCN.out j
              obtain ⟨aj, cj, hVj⟩ := HVC.out j (by omega)
              have c1' := hT.cF j (by omega)
              have f1' := hT.fr (1 + j)
              have c2' := hT.cV j (by omega)
              rw [hVj] at c2'
              have hTn := hT.setF j (by omega) (fw (cn L) j)
              have hfe : (fun i => if i = j then fw (cn L) j else if i < j then fw (cn L) i else 0) = fun i => if i < j + 1 then fw (cn L) i else 0 := by
                funext i
                by_cases e : i = j
                · subst e; rw [if_pos rfl, if_pos (by omega)]
                · rw [if_neg e]
                  by_cases g : i < j
                  · rw [if_pos g, if_pos (by omega)]
                  · rw [if_neg g, if_neg (by omega)]
              rw [hfe] at hTn
              have hBl := hT.lt
              obtain ⟨u, hu⟩ : ∃ u, u = wd (cn L) j := ⟨_, rfl⟩
              obtain ⟨f, hf⟩ : ∃ f, f = fw (cn L) j := ⟨_, rfl⟩
              obtain ⟨cj', hcj'⟩ : ∃ x, x = cn L j := ⟨_, rfl⟩
              rw [← hu, ← hf] at h2
              rw [← hf] at h26 hTn
              rw [← hf, ← hcj'] at hs
              rw [← hcj'] at hcj c2'
              rw [if_neg (by omega)] at c1'
              rw [← hu]
              have hfu : (u : Int) * 2 = (f : Int) := by omega
              have hjb : (j : Int) < 16 := by omega
              have HTN := Lib.hid hTn
              have HSN := Lib.hid hs
              have HS2 := Lib.hid hS
              have hub : u ≤ 13107200 := by omega
              clear hT hS hVj hfe hTn hu hf hcj' hs h2
              go_wp2_with fail
              generalize hwq : World.setCell _ _ _ = wq2
              have hTn := HTN.out
              rw [hwq] at hTn
              have hSn : Syms wq2 B V L k := HS2.out.same (fun i hi _ => by rw [← hwq]; exact heap_setCell_other _ _ _ _ hi)
              have hBn : Below B w1 wq2 := by rw [← hwq]; exact HBQ.out.setCell (Nat.le_refl _) _
              clear hwq
              go_roundw
              case rel => exact ⟨j + 1, by omega, by omega, by go_num, by rw [HSN.out]; go_num, hTn, hSn, Lib.hid hBn⟩
              case measure => simp [intOf]; omega
            · obtain rfl : j = 16 := by omega
              have hfin : TabBlk wq B (.slice a1 k c1) (fw (cn L)) V (mo L k) := by
                obtain ⟨cs, g1, g2, g3, g4, g5, g6⟩ := hT.blk
                exact ⟨cs, g1, g2, g3, fun i hi => by have := g4 i hi; rw [if_pos hi] at this; exact this, g5, g6⟩
              have hwB : w.heap.size ≤ B := by have := HB.out; have := HB1.out.size; omega
              have hBw : Below w.heap.size w wq := HB1.out.trans (HBQ.out.mono (by have := HB.out; have := HB1.out.size; omega))
              have hI : IntsAt .i64 wq a1 k c1 L := HI1.out.keep HBQ.out (by have := HB.out; omega)
              have HT9 := Lib.hid (show TabUp w.heap.size wq B L from tabUp_of (by rw [HLK.out]; exact hfin) hI (by rw [HLK.out]; exact hS) (by rw [HLK.out]; exact HOK.out) (by rw [HLK.out]; omega) hwB HFR1.out)
              have HBW9 := Lib.hid hBw
              clear hT hS hfin hBw hI
              go_wp2_with fail
              go_ret2
              rw [HM.out]
              exact ⟨some ⟨B, 0, none⟩, rfl, HBW9.out, fun h => absurd rfl h, fun _ => ⟨B, rfl, hwB, HT9.out⟩⟩
end Go.Proofs.YtpbijdoemdoijaaGreatDoor
end PkCa22_2
section PkCa22_3
/- Package inflate: an inflater in memory; room, length, distance, walked. (Written by geninf.py.) -/
namespace Go.Proofs.YtpbijdoemdoijaaGreatDoor
open Go.RowKit PrefPlain BitsPlain InfPlain
set_option linter.unusedVariables false

/-- an inflater's own block: its reader, what is out, the limit, the codes of kind 1 -/
structure InBlk (w : World) (B R : Nat) (v : Value) (most : Nat) (fl fd : Option Addr) : Prop where
  blk : w.heap[B]? = some (.cells #[.pointer (some ⟨R, 0, none⟩), v, .int .i64 (most : Int), .pointer fl, .pointer fd] 189 (0, 0))
section
variable {w : World} {B R : Nat} {v : Value} {most : Nat} {fl fd : Option Addr}
theorem InBlk.c0 (h : InBlk w B R v most fl fd) : w.cell? ⟨B, 0, none⟩ = some (.pointer (some ⟨R, 0, none⟩)) := by rw [cell_of_row w B 0 _ _ (0, 0) h.blk]; rfl
theorem InBlk.c1 (h : InBlk w B R v most fl fd) : w.cell? ⟨B, 1, none⟩ = some v := by rw [cell_of_row w B 1 _ _ (0, 0) h.blk]; rfl
theorem InBlk.c2 (h : InBlk w B R v most fl fd) : w.cell? ⟨B, 2, none⟩ = some (.int .i64 (most : Int)) := by rw [cell_of_row w B 2 _ _ (0, 0) h.blk]; rfl
theorem InBlk.c3 (h : InBlk w B R v most fl fd) : w.cell? ⟨B, 3, none⟩ = some (.pointer fl) := by rw [cell_of_row w B 3 _ _ (0, 0) h.blk]; rfl
theorem InBlk.c4 (h : InBlk w B R v most fl fd) : w.cell? ⟨B, 4, none⟩ = some (.pointer fd) := by rw [cell_of_row w B 4 _ _ (0, 0) h.blk]; rfl
theorem InBlk.f (h : InBlk w B R v most fl fd) (j : Nat) : w.frozen? ⟨B, j, none⟩ = false := frozen_of_row w B j _ _ h.blk
theorem InBlk.lt (h : InBlk w B R v most fl fd) : B < w.heap.size := (Array.getElem?_eq_some_iff.1 h.blk).1
theorem InBlk.other {w' : World} (h : InBlk w B R v most fl fd) (he : w'.heap[B]? = w.heap[B]?) : InBlk w' B R v most fl fd := ⟨he.trans h.blk⟩
end

set_option maxHeartbeats 1000000 in
theorem room_any {w : World} {B R : Nat} {most n c : Nat} {a : Option Addr} {fl fd : Option Addr} (h : InBlk w B R (.slice a n c) most fl fd) (hn : n ≤ most) (hm : most ≤ 65536) (k : Nat) (hk : k ≤ 4294967296) :
    Calls Tryz.prog 194 #[.pointer (some ⟨B, 0, none⟩), .int .i64 (k : Int)] w fun e w' => e = .returned (.bool (decide (n + k ≤ most))) ∧ ∃ q, w' = w.drewN q := by
  have c1 := h.c1
  have c2 := h.c2
  have e1 : IntKind.i64.wrap ((most : Int) - (n : Int)) = (most : Int) - (n : Int) := IntWalk.i64_in _ (by omega)
  have hd : decide ((k : Int) ≤ (most : Int) - (n : Int)) = decide (n + k ≤ most) := by
    rw [Bool.eq_iff_iff, decide_eq_true_eq, decide_eq_true_eq]; omega
  have HD := Lib.hid hd
  clear h hd
  go_enter Tryz.func194, Tryz.ntmps194
  go_wp2_with fail
  go_quiet (fail)
  go_wp2_with fail
  go_ret
  exact ⟨by rw [← HD.out]; rfl, _, rfl⟩
theorem lt_29 (s : Nat) (h : s < 29) : s = 0 ∨ s = 1 ∨ s = 2 ∨ s = 3 ∨ s = 4 ∨ s = 5 ∨ s = 6 ∨ s = 7 ∨ s = 8 ∨ s = 9 ∨ s = 10 ∨ s = 11 ∨ s = 12 ∨ s = 13 ∨ s = 14 ∨ s = 15 ∨ s = 16 ∨ s = 17 ∨ s = 18 ∨ s = 19 ∨ s = 20 ∨ s = 21 ∨ s = 22 ∨ s = 23 ∨ s = 24 ∨ s = 25 ∨ s = 26 ∨ s = 27 ∨ s = 28 := by omega

set_option maxHeartbeats 4000000 in
theorem length_any (s : Nat) (hs : s < 29) (w : World) :
    Calls Tryz.prog 206 #[.int .i64 (s : Int)] w fun e w' => e = .returned (.tuple #[.int .i64 (((lenOf s).1 : Nat) : Int), .int .i64 (((lenOf s).2 : Nat) : Int)]) ∧ w = w' := by
  rcases lt_29 s hs with rfl | rfl | rfl | rfl | rfl | rfl | rfl | rfl | rfl | rfl | rfl | rfl | rfl | rfl | rfl | rfl | rfl | rfl | rfl | rfl | rfl | rfl | rfl | rfl | rfl | rfl | rfl | rfl | rfl
  all_goals
    go_enter Tryz.func206, Tryz.ntmps206
    go_wp2_with fail
    go_ret2
    exact ⟨rfl, rfl⟩
theorem lt_30 (s : Nat) (h : s < 30) : s = 0 ∨ s = 1 ∨ s = 2 ∨ s = 3 ∨ s = 4 ∨ s = 5 ∨ s = 6 ∨ s = 7 ∨ s = 8 ∨ s = 9 ∨ s = 10 ∨ s = 11 ∨ s = 12 ∨ s = 13 ∨ s = 14 ∨ s = 15 ∨ s = 16 ∨ s = 17 ∨ s = 18 ∨ s = 19 ∨ s = 20 ∨ s = 21 ∨ s = 22 ∨ s = 23 ∨ s = 24 ∨ s = 25 ∨ s = 26 ∨ s = 27 ∨ s = 28 ∨ s = 29 := by omega

set_option maxHeartbeats 4000000 in
theorem distance_any (s : Nat) (hs : s < 30) (w : World) :
    Calls Tryz.prog 207 #[.int .i64 (s : Int)] w fun e w' => e = .returned (.tuple #[.int .i64 (((disOf s).1 : Nat) : Int), .int .i64 (((disOf s).2 : Nat) : Int)]) ∧ w = w' := by
  rcases lt_30 s hs with rfl | rfl | rfl | rfl | rfl | rfl | rfl | rfl | rfl | rfl | rfl | rfl | rfl | rfl | rfl | rfl | rfl | rfl | rfl | rfl | rfl | rfl | rfl | rfl | rfl | rfl | rfl | rfl | rfl | rfl
  all_goals
    go_enter Tryz.func207, Tryz.ntmps207
    go_wp2_with fail
    go_ret2
    exact ⟨rfl, rfl⟩
end Go.Proofs.YtpbijdoemdoijaaGreatDoor
end PkCa22_3
