/- A slice of tokens, as a walk is told of it; what the tokens of bytes keep. -/
import Derived.Test.YtachikilcfdngaaSqLen
namespace Go.Proofs.Ytachikilcfdngaa
open Go.RowKit BitsPlain
set_option linter.unusedVariables false

def t0 : Nat × Nat × Nat := (0, 0, 0)
structure TksAt (w : World) (a : Option Addr) (n c : Nat) (l : List (Nat × Nat × Nat)) : Prop where
  len : l.length = n
  cap : n ≤ c
  capm : c ≤ 9223372036854775807
  nl : a = none → c = 0
  cells : 0 < n → ∃ g off, a = some ⟨g, off, none⟩ ∧ g < w.heap.size ∧ ∀ i, i < n → w.cell? ⟨g, off + i * 3, none⟩ = some (.int .i64 ((l.getD i t0).1 : Int)) ∧ w.cell? ⟨g, off + i * 3 + 1, none⟩ = some (.int .i64 ((l.getD i t0).2.1 : Int)) ∧ w.cell? ⟨g, off + i * 3 + 2, none⟩ = some (.int .u8 ((l.getD i t0).2.2 : Int))
theorem TksAt.keep {w w' : World} {a : Option Addr} {n c : Nat} {l : List (Nat × Nat × Nat)} (h : TksAt w a n c l) {B : Nat} (hb : Below B w w') (hB : w.heap.size ≤ B) : TksAt w' a n c l :=
  ⟨h.len, h.cap, h.capm, h.nl, fun hn => by
    obtain ⟨b, off, ha, hlt, hc⟩ := h.cells hn
    exact ⟨b, off, ha, Nat.lt_of_lt_of_le hlt hb.size, fun i hi => ⟨(hb.cell (p := ⟨b, off + i * 3, none⟩) (Nat.lt_of_lt_of_le hlt hB)).trans (hc i hi).1, (hb.cell (p := ⟨b, off + i * 3 + 1, none⟩) (Nat.lt_of_lt_of_le hlt hB)).trans (hc i hi).2.1, (hb.cell (p := ⟨b, off + i * 3 + 2, none⟩) (Nat.lt_of_lt_of_le hlt hB)).trans (hc i hi).2.2⟩⟩⟩
theorem TksAt.kept {w w' : World} {a : Option Addr} {n c : Nat} {l : List (Nat × Nat × Nat)} (h : TksAt w a n c l) (hb : Below w.heap.size w w') : TksAt w' a n c l := h.keep hb (Nat.le_refl _)
theorem tcs_at : ∀ (l : List (Nat × Nat × Nat)) (i : Nat), i < l.length → (tcs l)[i * 3]? = some (.int .i64 ((l.getD i t0).1 : Int)) ∧ (tcs l)[i * 3 + 1]? = some (.int .i64 ((l.getD i t0).2.1 : Int)) ∧ (tcs l)[i * 3 + 2]? = some (.int .u8 ((l.getD i t0).2.2 : Int))
  | x :: r, 0, h => ⟨rfl, rfl, rfl⟩
  | x :: r, i + 1, h => by
    have ih := tcs_at r i (by simp at h; omega)
    have e : tcs (x :: r) = (tc x).toList ++ tcs r := rfl
    have e3 : (tc x).toList.length = 3 := rfl
    have k : ∀ j, (tcs (x :: r))[(i + 1) * 3 + j]? = (tcs r)[i * 3 + j]? := fun j => by
      rw [e, List.getElem?_append_right (by rw [e3]; omega), e3]
      congr 1
      omega
    have g : (x :: r).getD (i + 1) t0 = r.getD i t0 := rfl
    rw [g]
    exact ⟨(k 0).trans ih.1, (k 1).trans ih.2.1, (k 2).trans ih.2.2⟩
theorem TksAt.ofOwn {w : World} {base n : Nat} {e : TypeId} {v : Value} {l : List (Nat × Nat × Nat)} (h : w.ownsRow base e 3 v n (tcs l)) (hn : l.length = n) : ∃ a c, v = .slice a n c ∧ TksAt w a n c l := by
  rcases h.2 with ⟨rfl, h0⟩ | ⟨g, cap, cur, rfl, hg, hh, hnc, hcap, hsz, htake⟩
  · subst h0
    exact ⟨none, 0, rfl, hn, Nat.zero_le _, by omega, fun _ => rfl, fun h => absurd h (Nat.lt_irrefl 0)⟩
  · refine ⟨_, cap, rfl, hn, hnc, by unfold maxLen at hcap; exact hcap, (fun e => by cases e), fun hp => ⟨g, 0, rfl, (Array.getElem?_eq_some_iff.1 hh).1, fun i hi => ?_⟩⟩
    have h2 := tcs_at l i (by omega)
    have hcu : ∀ j, j < n * 3 → w.cell? ⟨g, 0 + j, none⟩ = (tcs l)[j]? := by
      intro j hj
      rw [Nat.zero_add, cell_of_row w _ _ _ _ (0, 0) hh, ← htake, List.getElem?_take_of_lt hj, Array.getElem?_toList]
    rw [show 0 + i * 3 + 1 = 0 + (i * 3 + 1) from by omega, show 0 + i * 3 + 2 = 0 + (i * 3 + 2) from by omega, hcu _ (by omega), hcu _ (by omega), hcu _ (by omega)]
    exact h2

/-- a byte, or a stretch -/
def TokOk (t : Nat × Nat × Nat) : Prop := (t.1 = 0 ∧ t.2.1 = 0 ∧ t.2.2 < 256) ∨ (3 ≤ t.1 ∧ t.1 ≤ 258 ∧ 1 ≤ t.2.1 ∧ t.2.1 ≤ 32768 ∧ t.2.2 = 0)
theorem tokAt_says {b : List Nat} (hb : ∀ x ∈ b, x < 256) {p : Nat} (hp : p < b.length) : (tokAt b p = (0, 0, b.getD p 0) ∧ b.getD p 0 < 256) ∨ (∃ n d, tokAt b p = (n, d, 0) ∧ 3 ≤ n ∧ n ≤ 258 ∧ 1 ≤ d ∧ d ≤ 32768 ∧ d ≤ p ∧ p + n ≤ b.length ∧ ∀ k, k < n → b.getD (p - d + k) 0 = b.getD (p + k) 0) := by
  have hx : b.getD p 0 < 256 := by
    have e1 : b.getD p 0 = b[p] := by simp [hp]
    rw [e1]
    exact hb _ (List.getElem_mem hp)
  have hl := bestD_le (b := b) (i := p) (d := min p 32768)
  unfold tokAt
  simp only
  rcases bestD_says (b := b) (i := p) (d := min p 32768) with h | ⟨h1, h2, h3, h4⟩
  · rw [h, if_pos rfl]; exact Or.inl ⟨rfl, hx⟩
  · rw [if_neg (by omega)]
    unfold most at hl
    refine Or.inr ⟨_, _, rfl, h1, by omega, h2, by omega, by omega, by omega, fun k hk => ?_⟩
    exact like_eq (by rw [← h4]; exact hk)
theorem toksFrom_ok {b : List Nat} (hb : ∀ x ∈ b, x < 256) : ∀ {f p : Nat}, ∀ t ∈ toksFrom b f p, TokOk t
  | 0, p, t, h => by simp [toksFrom] at h
  | f + 1, p, t, h => by
    simp only [toksFrom] at h
    split at h
    · rename_i hp
      rcases List.mem_cons.1 h with rfl | h
      · rcases tokAt_says hb hp with ⟨e, hx⟩ | ⟨n, d, e, h1, h2, h3, h4, _⟩
        · rw [e]; exact Or.inl ⟨rfl, rfl, hx⟩
        · rw [e]; exact Or.inr ⟨h1, h2, h3, h4, rfl⟩
      · exact toksFrom_ok hb t h
    · cases h
theorem toks_ok {b : List Nat} (hb : ∀ x ∈ b, x < 256) : ∀ t ∈ toks b, TokOk t := toksFrom_ok hb
theorem tok_mem {l : List (Nat × Nat × Nat)} {i : Nat} (h : i < l.length) : l.getD i t0 ∈ l := by
  have : l.getD i t0 = l[i] := by simp [h]
  rw [this]; exact List.getElem_mem h

/-- a token's bits -/
def tbits (t : Nat × Nat × Nat) : List Nat := if t.1 = 0 then lcode t.2.2 else lcode (257 + (lenS t.1).1) ++ bitsOf (lenS t.1).2.1 (lenS t.1).2.2 ++ codeOf (distS t.2.1).1 5 5 ++ bitsOf (distS t.2.1).2.1 (distS t.2.1).2.2
def fixTo (l : List (Nat × Nat × Nat)) (i : Nat) : List Nat := bitsOf 1 1 ++ bitsOf 1 2 ++ (l.take i).flatMap tbits
def fxB (l : List (Nat × Nat × Nat)) : List Nat := fixTo l l.length ++ lcode 256
theorem fixTo_step {l : List (Nat × Nat × Nat)} {i : Nat} (h : i < l.length) : fixTo l (i + 1) = fixTo l i ++ tbits (l.getD i t0) := by
  have e : l.take (i + 1) = l.take i ++ [l.getD i t0] := by
    rw [List.take_add_one, List.getElem?_eq_getElem h]
    simp [h]
  unfold fixTo
  rw [e]
  simp
theorem fixTo_le (l : List (Nat × Nat × Nat)) (i : Nat) : (fixTo l i).length ≤ (fixTo l l.length).length := by
  have e : l.take l.length = l.take i ++ l.drop i := by rw [List.take_length, List.take_append_drop]
  unfold fixTo
  rw [e]
  simp only [List.flatMap_append, List.length_append]
  omega
theorem lcode_len (s : Nat) : (lcode s).length ≤ 9 := by
  unfold lcode
  rw [codeOf_length]
  unfold lw
  split <;> (try split) <;> (try split) <;> simp
theorem lenS_ok {n : Nat} (h3 : 3 ≤ n) (h : n ≤ 258) : (lenS n).1 ≤ 28 ∧ (lenS n).2.1 < 32 ∧ (lenS n).2.2 ≤ 5 := by
  unfold lenS
  split
  · simp
  · have g := xOf_gt 8 (n - 3) 16 0 (by simp; omega)
    have h5 : lx 8 (n - 3) ≤ 5 := xOf_most 8 (n - 3) 5 (by simp; omega) 16 0 (by omega)
    have e : xOf 8 (n - 3) 16 0 = lx 8 (n - 3) := rfl
    rw [e] at g
    obtain ⟨x, hx⟩ : ∃ x, x = lx 8 (n - 3) := ⟨_, rfl⟩
    rw [← hx] at g h5 ⊢
    have hd : (n - 3) / 2 ^ x < 8 := (Nat.div_lt_iff_lt_mul (Nat.two_pow_pos x)).2 g
    have hr : (n - 3) % 2 ^ x < 2 ^ x := Nat.mod_lt _ (Nat.two_pow_pos x)
    have hp : 2 ^ x ≤ 2 ^ 5 := Nat.pow_le_pow_right (by omega) h5
    refine ⟨?_, by simp only; omega, h5⟩
    simp only
    rcases Nat.lt_or_ge x 5 with g5 | g5
    · omega
    · obtain rfl : x = 5 := by omega
      omega
theorem distS_ok {n : Nat} (h1 : 1 ≤ n) (h : n ≤ 32768) : (distS n).1 ≤ 29 ∧ (distS n).2.1 < 8192 ∧ (distS n).2.2 ≤ 13 := by
  unfold distS
  have g := xOf_gt 4 (n - 1) 16 0 (by simp; omega)
  have h5 : lx 4 (n - 1) ≤ 13 := xOf_most 4 (n - 1) 13 (by simp; omega) 16 0 (by omega)
  have e : xOf 4 (n - 1) 16 0 = lx 4 (n - 1) := rfl
  rw [e] at g
  obtain ⟨x, hx⟩ : ∃ x, x = lx 4 (n - 1) := ⟨_, rfl⟩
  rw [← hx] at g h5 ⊢
  have hd : (n - 1) / 2 ^ x < 4 := (Nat.div_lt_iff_lt_mul (Nat.two_pow_pos x)).2 g
  have hr : (n - 1) % 2 ^ x < 2 ^ x := Nat.mod_lt _ (Nat.two_pow_pos x)
  have hp : 2 ^ x ≤ 2 ^ 13 := Nat.pow_le_pow_right (by omega) h5
  refine ⟨?_, by simp only; omega, h5⟩
  simp only
  rcases Nat.lt_or_ge x 13 with g5 | g5
  · omega
  · obtain rfl : x = 13 := by omega
    omega
/-- eleven bits for each byte, no more -/
theorem tbits_len {t : Nat × Nat × Nat} (h : TokOk t) : (tbits t).length ≤ 11 * max 1 t.1 := by
  unfold tbits
  rcases h with ⟨h1, h2, h3⟩ | ⟨h1, h2, h3, h4, h5⟩
  · rw [if_pos h1]
    have := lcode_len t.2.2
    omega
  · rw [if_neg (by omega)]
    have := lcode_len (257 + (lenS t.1).1)
    have := lenS_ok h1 h2
    have := distS_ok h3 h4
    simp only [List.length_append, bitsOf_length, codeOf_length]
    have h0 : (lcode (257 + (lenS t.1).1)).length ≤ 8 := by
      unfold lcode
      rw [codeOf_length]
      unfold lw
      rw [if_neg (by omega), if_neg (by omega)]
      split <;> simp
    rcases Nat.lt_or_ge t.1 11 with g | g
    · have e : (lenS t.1).2.2 = 0 := by
        unfold lenS
        rw [if_neg (by omega)]
        have : lx 8 (t.1 - 3) ≤ 0 := xOf_most 8 (t.1 - 3) 0 (by simp; omega) 16 0 (by omega)
        simp only
        omega
      omega
    · omega
theorem flat_len {b : List Nat} (hb : ∀ x ∈ b, x < 256) : ∀ {f p : Nat}, b.length - p ≤ f → ((toksFrom b f p).flatMap tbits).length ≤ 11 * (b.length - p)
  | 0, p, h => by simp [toksFrom]
  | f + 1, p, h => by
    simp only [toksFrom]
    split
    · rename_i hp
      have h1 := tok_pos hp
      have ih := flat_len hb (f := f) (p := p + max 1 (tokAt b p).1) (by omega)
      have h2 : TokOk (tokAt b p) := by
        rcases tokAt_says hb hp with ⟨e, hx⟩ | ⟨n, d, e, g1, g2, g3, g4, _⟩
        · rw [e]; exact Or.inl ⟨rfl, rfl, hx⟩
        · rw [e]; exact Or.inr ⟨g1, g2, g3, g4, rfl⟩
      have h3 := tbits_len h2
      simp only [List.flatMap_cons, List.length_append]
      omega
    · simp
theorem fxB_len {b : List Nat} (hb : ∀ x ∈ b, x < 256) : (fxB (toks b)).length ≤ 11 * b.length + 12 := by
  have h := flat_len hb (f := b.length) (p := 0) (by omega)
  have h9 := lcode_len 256
  have e : (toks b).take (toks b).length = toks b := List.take_length
  unfold fxB fixTo
  rw [e]
  simp only [List.length_append, bitsOf_length]
  unfold toks
  omega
end Go.Proofs.Ytachikilcfdngaa
