/- What inflate reads, as a tree: bits, words of a code, lengths and distances, blocks. No Go in sight, but for what prefix's Next reads (nx). -/
import Derived.Test.YtnfdojdppifmoaaDoorInfRd
import Derived.Test.YtnfdojdppifmoaaDoorPrefNext
namespace Go.Proofs.YtnfdojdppifmoaaDoor.InfPlain
open Go BitsPlain PrefPlain
set_option linter.unusedVariables false

/-- a number of n bits, of which i are read and say v -/
def bitsT : Nat → Nat → Nat → Rd Nat
  | 0, _, v => .ret v
  | n + 1, i, v => .bit fun b => bitsT n (i + 1) (v + b * 2 ^ i)
theorem run_bitsT (xs : List Nat) (most p : Nat) (o : List Nat) : ∀ n i, p + i ≤ 8 * xs.length →
    run xs most (bitsT n i (num xs p i)) (p + i) o = if 8 * xs.length < p + i + n then .error 3 else .ok (num xs p (i + n), p + i + n, o)
  | 0, i, h => by rw [bitsT, run, if_neg (by omega)]; rfl
  | n + 1, i, h => by
    rw [bitsT, run]
    by_cases hl : 8 * xs.length ≤ p + i
    · rw [if_pos hl, if_pos (by omega)]
    · rw [if_neg hl]
      have e : num xs p i + bitAt xs (p + i) * 2 ^ i = num xs p (i + 1) := rfl
      rw [e, Nat.add_assoc p i 1, run_bitsT xs most p o n (i + 1) (by omega)]
      rw [show p + (i + 1) + n = p + i + (n + 1) from by omega, show i + 1 + n = i + (n + 1) from by omega]
/-- n bits -/
def bitsR (n : Nat) : Rd Nat := bitsT n 0 0
theorem run_bits (xs : List Nat) (most p n : Nat) (o : List Nat) (h : p ≤ 8 * xs.length) : run xs most (bitsR n) p o = if 8 * xs.length < p + n then .error 3 else .ok (num xs p n, p + n, o) := by
  have := run_bitsT xs most p o n 0 h
  simpa [bitsR, num] using this
theorem wf_bitsT : ∀ n i v, Wf (bitsT n i v)
  | 0, _, _ => .ret _
  | n + 1, i, v => .bit _ fun b => wf_bitsT n _ _

/-- a word of a code -/
def nextT (L : List Int) : Nat → Nat → Nat → Rd Int
  | 0, _, _ => .fail 4
  | f + 1, k, W => .bit fun b => if 2 * W + b < fw (cn L) (k + 1) + cn L (k + 1) then .ret ((sy L L.length (k + 1)).getD (2 * W + b - fw (cn L) (k + 1)) 0) else nextT L f (k + 1) (2 * W + b)
def nextR (L : List Int) : Rd Int := nextT L (mo L L.length) 0 0
theorem run_nextT (L : List Int) (xs : List Nat) (most p : Nat) (o : List Nat) (hp : p ≤ 8 * xs.length) : ∀ f k W, p + k ≤ 8 * xs.length →
    run xs most (nextT L f k W) (p + k) o = if (nx L (fun j => bitAt xs (p + j)) (8 * xs.length - p) f k W).2.1 = 0 then .ok ((nx L (fun j => bitAt xs (p + j)) (8 * xs.length - p) f k W).1, p + (nx L (fun j => bitAt xs (p + j)) (8 * xs.length - p) f k W).2.2, o) else .error (nx L (fun j => bitAt xs (p + j)) (8 * xs.length - p) f k W).2.1
  | 0, k, W, h => by rw [nextT, run, nx, if_neg (by simp)]
  | f + 1, k, W, h => by
    rw [nextT, run]
    by_cases hl : 8 * xs.length ≤ p + k
    · have e : nx L (fun j => bitAt xs (p + j)) (8 * xs.length - p) (f + 1) k W = (0, 3, k) := by rw [nx, if_pos (by omega)]
      rw [if_pos hl, e]
      rfl
    · rw [if_neg hl]
      by_cases hw : 2 * W + bitAt xs (p + k) < fw (cn L) (k + 1) + cn L (k + 1)
      · have e : nx L (fun j => bitAt xs (p + j)) (8 * xs.length - p) (f + 1) k W = ((sy L L.length (k + 1)).getD (2 * W + bitAt xs (p + k) - fw (cn L) (k + 1)) 0, 0, k + 1) := by
          rw [nx, if_neg (by omega), if_pos hw]
        rw [if_pos hw, e, run]
        rfl
      · have e : nx L (fun j => bitAt xs (p + j)) (8 * xs.length - p) (f + 1) k W = nx L (fun j => bitAt xs (p + j)) (8 * xs.length - p) f (k + 1) (2 * W + bitAt xs (p + k)) := by
          rw [nx, if_neg (by omega), if_neg hw]
        rw [if_neg hw, e]
        have := run_nextT L xs most p o hp f (k + 1) (2 * W + bitAt xs (p + k)) (by omega)
        rw [← Nat.add_assoc] at this
        exact this
theorem run_next (L : List Int) (xs : List Nat) (most p : Nat) (o : List Nat) (hp : p ≤ 8 * xs.length) :
    run xs most (nextR L) p o = if (rn L xs p).2.1 = 0 then .ok ((rn L xs p).1, p + (rn L xs p).2.2, o) else .error (rn L xs p).2.1 :=
  run_nextT L xs most p o hp _ 0 0 (by omega)
theorem wf_nextT (L : List Int) : ∀ f k W, Wf (nextT L f k W)
  | 0, _, _ => .fail _
  | f + 1, k, W => .bit _ fun b => by split; exact .ret _; exact wf_nextT L f _ _

/-- the least length of a symbol, and how many bits more; of a distance -/
def lenOf (s : Nat) : Nat × Nat := if s < 8 then (s + 3, 0) else if s = 28 then (258, 0) else (3 + (4 + s % 4) * 2 ^ (s / 4 - 1), s / 4 - 1)
def disOf (d : Nat) : Nat × Nat := if d < 2 then (d + 1, 0) else (1 + (2 + d % 2) * 2 ^ (d / 2 - 1), d / 2 - 1)

/-- a repetition -/
def repR (s : Nat) (D : List Int) : Rd Unit :=
  (bitsR (lenOf s).2).bind fun a => (nextR D).bind fun d => if 30 ≤ d then .fail 4 else (bitsR (disOf d.toNat).2).bind fun b => .rep ((lenOf s).1 + a) ((disOf d.toNat).1 + b) (.ret ())
/-- letters and distances up to the block's end -/
def symR (L D : List Int) : Nat → Rd Unit
  | 0 => .fail 99
  | f + 1 => (nextR L).bind fun s => if s = 256 then .ret () else if s < 256 then .put s.toNat (symR L D f) else if 286 ≤ s then .fail 4 else (repR (s - 257).toNat D).bind fun _ => symR L D f
/-- bytes as they are -/
def bytesR : Nat → Rd Unit
  | 0 => .ret ()
  | n + 1 => (bitsR 8).bind fun x => .put x (bytesR n)
def copyR : Rd Unit := .align ((bitsR 16).bind fun n => .chk n ((bitsR 16).bind fun t => if t ≠ n ^^^ 65535 then .fail 4 else bytesR n))

/-- the lengths of the codes of kind 1 -/
def fixL : List Int := List.replicate 144 8 ++ List.replicate 112 9 ++ List.replicate 24 7 ++ List.replicate 8 8
def fixD : List Int := List.replicate 32 5
/-- the order of the third code's lengths -/
def ordr : List Nat := [16, 17, 18, 0, 8, 7, 9, 6, 10, 5, 11, 4, 12, 3, 13, 2, 14, 1, 15]
/-- the third code's lengths, from the i-th on: n of them -/
def thirdR : Nat → Nat → List Int → Rd (List Int)
  | 0, _, l => .ret l
  | n + 1, i, l => (bitsR 3).bind fun x => thirdR n (i + 1) (l.set (ordr.getD i 0) (x : Int))
/-- n lengths in one row -/
def lensR (C : List Int) (n : Nat) : Nat → List Int → Rd (List Int)
  | 0, _ => .fail 99
  | f + 1, l =>
    if n ≤ l.length then .ret l
    else (nextR C).bind fun s =>
      if s = 16 then (if l.length = 0 then .fail 4 else (bitsR 2).bind fun v => if n < l.length + (v + 3) then .fail 4 else lensR C n f (l ++ List.replicate (v + 3) (l.getD (l.length - 1) 0)))
      else if s = 17 then (bitsR 3).bind fun v => if n < l.length + (v + 3) then .fail 4 else lensR C n f (l ++ List.replicate (v + 3) 0)
      else if s = 18 then (bitsR 7).bind fun v => if n < l.length + (v + 11) then .fail 4 else lensR C n f (l ++ List.replicate (v + 11) 0)
      else lensR C n f (l ++ [s])
/-- the codes of kind 2 -/
def dynR (f : Nat) : Rd (List Int × List Int) :=
  (bitsR 5).bind fun m => (bitsR 5).bind fun n => (bitsR 4).bind fun k =>
    if 286 < m + 257 ∨ 30 < n + 1 then .fail 4
    else (thirdR (k + 4) 0 (List.replicate 19 0)).bind fun C =>
      if mk C ≠ 0 then .fail (mk C)
      else (lensR C (m + 257 + (n + 1)) f []).bind fun l =>
        if l.getD 256 0 = 0 then .fail 4
        else if mk (l.take (m + 257)) ≠ 0 then .fail (mk (l.take (m + 257)))
        else if mk (l.drop (m + 257)) ≠ 0 then .fail (mk (l.drop (m + 257)))
        else .ret (l.take (m + 257), l.drop (m + 257))
/-- one block: is it the last one? -/
def blockR (f : Nat) : Rd Nat :=
  (bitsR 1).bind fun last => (bitsR 2).bind fun kind =>
    if kind = 3 then .fail 4
    else if kind = 0 then copyR.bind fun _ => .ret last
    else if kind = 1 then (symR fixL fixD f).bind fun _ => .ret last
    else (dynR f).bind fun c => (symR c.1 c.2 f).bind fun _ => .ret last
/-- blocks up to the last one -/
def infR (f : Nat) : Nat → Rd Unit
  | 0 => .fail 99
  | g + 1 => (blockR f).bind fun last => if last = 1 then .ret () else infR f g

theorem wf_bits (n : Nat) : Wf (bitsR n) := wf_bitsT _ _ _
theorem wf_next (L : List Int) : Wf (nextR L) := wf_nextT _ _ _ _
theorem wf_ite {α : Type} {c : Prop} [Decidable c] {a b : Rd α} (ha : Wf a) (hb : Wf b) : Wf (if c then a else b) := by split; exact ha; exact hb
theorem wf_rep (s : Nat) (D : List Int) : Wf (repR s D) :=
  (wf_bits _).bind fun a => (wf_next D).bind fun d => wf_ite (.fail _) ((wf_bits _).bind fun b => .rep _ _ _ (.ret _))
theorem wf_sym (L D : List Int) : ∀ f, Wf (symR L D f)
  | 0 => .fail _
  | f + 1 => (wf_next L).bind fun s => wf_ite (.ret _) (wf_ite (.put _ _ (wf_sym L D f)) (wf_ite (.fail _) ((wf_rep _ D).bind fun _ => wf_sym L D f)))
theorem wf_bytes : ∀ n, Wf (bytesR n)
  | 0 => .ret _
  | n + 1 => (wf_bits 8).bind fun x => .put _ _ (wf_bytes n)
theorem bytes_grow : ∀ (n : Nat) (xs : List Nat) (most p : Nat) (o : List Nat) (a : Unit) (q : Nat) (r : List Nat), run xs most (bytesR n) p o = .ok (a, q, r) → r.length = o.length + n
  | 0, xs, most, p, o, a, q, r, h => by rw [bytesR, run] at h; cases h; rfl
  | n + 1, xs, most, p, o, a, q, r, h => by
    rw [bytesR, run_bind] at h
    split at h
    · cases h
    · rename_i x p1 o1 h1
      rw [run] at h
      split at h
      · cases h
      · have h2 := bytes_grow n xs most p1 (o1 ++ [x]) a q r h
        have h3 : o1.length = o.length := by
          have : ∀ n i v p o (x : Nat) p1 o1, run xs most (bitsT n i v) p o = .ok (x, p1, o1) → o1 = o := by
            intro n
            induction n with
            | zero => intro i v p o x p1 o1 h; rw [bitsT, run] at h; cases h; rfl
            | succ n ih => intro i v p o x p1 o1 h; rw [bitsT, run] at h; split at h; cases h; exact ih _ _ _ _ _ _ _ h
          rw [this _ _ _ _ _ _ _ _ h1]
        simp at h2
        omega
theorem wf_copy : Wf copyR := by
  refine .align _ ((wf_bits 16).bind fun n => .chk _ _ ((wf_bits 16).bind fun t => wf_ite (.fail _) (wf_bytes n)) (fun xs most p o a q r h => ?_))
  rw [run_bind] at h
  split at h
  · cases h
  · rename_i h2
    have h3 := run_le _ h2
    split at h
    · cases h
    · have := bytes_grow _ _ _ _ _ _ _ _ h
      omega
theorem wf_third : ∀ n i l, Wf (thirdR n i l)
  | 0, _, _ => .ret _
  | n + 1, i, l => (wf_bits 3).bind fun x => wf_third n _ _
theorem wf_lens (C : List Int) (n : Nat) : ∀ f l, Wf (lensR C n f l)
  | 0, _ => .fail _
  | f + 1, l => wf_ite (.ret _) ((wf_next C).bind fun s => wf_ite (wf_ite (.fail _) ((wf_bits 2).bind fun v => wf_ite (.fail _) (wf_lens C n f _)))
      (wf_ite ((wf_bits 3).bind fun v => wf_ite (.fail _) (wf_lens C n f _)) (wf_ite ((wf_bits 7).bind fun v => wf_ite (.fail _) (wf_lens C n f _)) (wf_lens C n f _))))
theorem wf_dyn (f : Nat) : Wf (dynR f) :=
  (wf_bits 5).bind fun m => (wf_bits 5).bind fun n => (wf_bits 4).bind fun k => wf_ite (.fail _) ((wf_third _ _ _).bind fun C => wf_ite (.fail _) ((wf_lens C _ f _).bind fun l => wf_ite (.fail _) (wf_ite (.fail _) (wf_ite (.fail _) (.ret _)))))
theorem wf_block (f : Nat) : Wf (blockR f) :=
  (wf_bits 1).bind fun last => (wf_bits 2).bind fun kind => wf_ite (.fail _) (wf_ite (wf_copy.bind fun _ => .ret _) (wf_ite ((wf_sym _ _ f).bind fun _ => .ret _) ((wf_dyn f).bind fun c => (wf_sym _ _ f).bind fun _ => .ret _)))
theorem wf_inf (f : Nat) : ∀ g, Wf (infR f g)
  | 0 => .fail _
  | g + 1 => (wf_block f).bind fun last => wf_ite (.ret _) (wf_inf f g)
end Go.Proofs.YtnfdojdppifmoaaDoor.InfPlain
