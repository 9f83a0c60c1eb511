/- Blocks in order, put together by twos: what slices.SortStableFunc holds on its way. Plain. -/
import Derived.Test.YtjbljplgkbnpmaaStab
namespace Go.Proofs.Ytjbljplgkbnpmaa.Stab
set_option linter.unusedVariables false

variable {α : Type}

theorem blk_of {q B i : Nat} (h1 : q * B ≤ i) (h2 : i < q * B + B) : i / B = q :=
  Nat.div_eq_of_lt_le h1 (by rw [Nat.add_one_mul]; exact h2)
theorem of_blk {q B i : Nat} (hB : 0 < B) (h : i / B = q) : q * B ≤ i ∧ i < q * B + B := by
  subst h
  constructor
  · exact Nat.div_mul_le_self i B
  · have := Nat.div_add_mod i B
    have h2 := Nat.mod_lt i hB
    rw [Nat.mul_comm] at this
    omega
theorem mem_wide {u t : Nat → α} {a b a' b' : Nat} (h : ∀ x, Mem u a b x ↔ Mem t a b x) (hk : ∀ k, k < a ∨ b ≤ k → u k = t k) (h1 : a' ≤ a) (h2 : a ≤ b) (h3 : b ≤ b') : ∀ x, Mem u a' b' x ↔ Mem t a' b' x := fun x => by
  rw [mem_cut u a' a b' h1 (by omega), mem_cut t a' a b' h1 (by omega), mem_cut u a b b' h2 h3, mem_cut t a b b' h2 h3, h x, mem_congr (f := t) (g := u) (a := a') (b := a) (fun k _ hk2 => hk k (.inl hk2)), mem_congr (f := t) (g := u) (a := b) (b := b') (fun k hk2 _ => hk k (.inr hk2))]
/-- below a blocks of C in order, from a on blocks of B; each thing in the block where it stood -/
structure Part (lt : α → α → Bool) (t u : Nat → α × Nat) (B C a n : Nat) : Prop where
  srtC : ∀ i k, i < k → k < a → k < n → i / C = k / C → Tag lt (u i) (u k)
  srtB : ∀ i k, a ≤ i → i < k → k < n → i / B = k / B → Tag lt (u i) (u k)
  ageC : ∀ i, i < a → i < n → (u i).2 / C = i / C
  ageB : ∀ i, a ≤ i → i < n → (u i).2 / B = i / B
  mem : ∀ x, Mem u 0 n x ↔ Mem t 0 n x
theorem Part.start {lt : α → α → Bool} {t : Nat → α × Nat} {C n : Nat} (ht : ∀ k, (t k).2 = k) : Part lt t t 1 C 0 n where
  srtC i k _ h := by omega
  srtB i k _ h _ e := by rw [Nat.div_one, Nat.div_one] at e; omega
  ageC i h := by omega
  ageB i _ _ := by rw [ht]
  mem _ := Iff.rfl
theorem Part.step {lt : α → α → Bool} {t u v : Nat → α × Nat} {B s C a b n q : Nat} (h : Part lt t u B C a n) (hC : C = B * s) (hC0 : 0 < C) (ha : a = q * C) (hab : a ≤ b) (hbn : b ≤ n) (hba : b ≤ a + C) (hb : a + C ≤ b ∨ n ≤ b)
    (hs : Srt (Tag lt) v a b) (hm : ∀ x, Mem v a b x ↔ Mem u a b x) (ho : ∀ k, k < a ∨ b ≤ k → v k = u k) : Part lt t v B C (a + C) n where
  srtC i k hik hk hkn e := by
    by_cases hka : k < a
    · rw [ho i (.inl (by omega)), ho k (.inl hka)]; exact h.srtC i k hik hka hkn e
    · have hq : k / C = q := blk_of (by omega) (by omega)
      have hi := of_blk hC0 (e.trans hq)
      exact hs i k (by omega) hik (by omega)
  srtB i k hi hik hkn e := by
    rw [ho i (.inr (by omega)), ho k (.inr (by omega))]; exact h.srtB i k (by omega) hik hkn e
  ageC i hi hin := by
    by_cases hia : i < a
    · rw [ho i (.inl hia)]; exact h.ageC i hia hin
    · obtain ⟨k, hk1, hk2, hk3⟩ := (hm (v i)).1 ⟨i, by omega, by omega, rfl⟩
      rw [← hk3]
      have h1 := h.ageB k hk1 (by omega)
      have h2 : (u k).2 / C = k / C := by rw [hC, ← Nat.div_div_eq_div_mul, ← Nat.div_div_eq_div_mul, h1]
      rw [h2, blk_of (q := q) (B := C) (i := k) (by omega) (by omega), blk_of (q := q) (B := C) (i := i) (by omega) (by omega)]
  ageB i hi hin := by rw [ho i (.inr (by omega))]; exact h.ageB i (by omega) hin
  mem x := (mem_wide hm ho (Nat.zero_le _) hab hbn x).trans (h.mem x)
/-- all blocks of C: where twice as great ones begin -/
theorem Part.next {lt : α → α → Bool} {t u : Nat → α × Nat} {B C a n : Nat} (h : Part lt t u B C a n) (han : n ≤ a) (D : Nat) : Part lt t u C D 0 n where
  srtC i k _ h := by omega
  srtB i k _ hik hkn e := h.srtC i k hik (by omega) hkn e
  ageC i h := by omega
  ageB i _ hin := h.ageC i (by omega) hin
  mem := h.mem
/-- the first block of C is of two blocks of B, each in order -/
theorem Part.two {lt : α → α → Bool} {t u : Nat → α × Nat} {B C a m b n q : Nat} (h : Part lt t u B C a n) (hC : C = B * 2) (hB0 : 0 < B) (ha : a = q * C) (hm : m = a + B) (hmb : m < b) (hbn : b ≤ n) (hba : b ≤ a + C) :
    Srt (Tag lt) u a m ∧ Srt (Tag lt) u m b ∧ ∀ i j, a ≤ i → i < m → m ≤ j → j < b → (u i).2 < (u j).2 := by
  have e1 : ∀ i, a ≤ i → i < m → i / B = q * 2 := fun i h1 h2 => by
    have : q * 2 * B = a := by rw [ha, hC, Nat.mul_assoc, Nat.mul_comm 2 B]
    exact blk_of (by omega) (by omega)
  have e2 : ∀ i, m ≤ i → i < b → i / B = q * 2 + 1 := fun i h1 h2 => by
    have : (q * 2 + 1) * B = m := by rw [Nat.add_mul, Nat.one_mul, hm, ha, hC, Nat.mul_assoc, Nat.mul_comm 2 B]
    exact blk_of (by omega) (by omega)
  refine ⟨fun i j h1 h2 h3 => h.srtB i j h1 h2 (by omega) ((e1 i h1 (by omega)).trans (e1 j (by omega) h3).symm), fun i j h1 h2 h3 => h.srtB i j (by omega) h2 (by omega) ((e2 i h1 (by omega)).trans (e2 j (by omega) h3).symm), fun i j h1 h2 h3 h4 => ?_⟩
  have a1 := h.ageB i h1 (by omega)
  have a2 := h.ageB j (by omega) (by omega)
  rw [e1 i h1 h2] at a1
  rw [e2 j h3 h4] at a2
  have b1 := of_blk hB0 a1
  have b2 := of_blk hB0 a2
  have : (q * 2 + 1) * B = q * 2 * B + B := by rw [Nat.add_mul, Nat.one_mul]
  omega
/-- one block of B at most is left -/
theorem Part.rest {lt : α → α → Bool} {t u : Nat → α × Nat} {B C a n q : Nat} (h : Part lt t u B C a n) (hC : C = B * 2) (hB0 : 0 < B) (ha : a = q * C) (han : a ≤ n) (hn : n ≤ a + B) : Part lt t u B C (a + C) n := by
  have e1 : ∀ i, a ≤ i → i < n → i / B = q * 2 := fun i h1 h2 => by
    have : q * 2 * B = a := by rw [ha, hC, Nat.mul_assoc, Nat.mul_comm 2 B]
    exact blk_of (by omega) (by omega)
  exact h.step hC (by omega) ha han (Nat.le_refl _) (by omega) (.inr (Nat.le_refl _)) (fun i j h1 h2 h3 => h.srtB i j h1 h2 h3 ((e1 i h1 (by omega)).trans (e1 j (by omega) h3).symm)) (fun _ => Iff.rfl) (fun _ _ => rfl)
theorem Part.done {lt : α → α → Bool} {f : Nat → α} {u : Nat → α × Nat} {B C n : Nat} (h : Part lt (fun k => (f k, k)) u B C 0 n) (hn : n ≤ B) : Stable lt f (fun k => (u k).1) n :=
  ⟨u, fun _ _ => rfl, fun i j _ h2 h3 => h.srtB i j (Nat.zero_le _) h2 h3 (by rw [Nat.div_eq_of_lt (by omega), Nat.div_eq_of_lt (by omega)]), fun x => (h.mem x).trans ⟨fun ⟨i, _, h2, e⟩ => ⟨i, h2, e.symm⟩, fun ⟨i, h2, e⟩ => ⟨i, Nat.zero_le _, h2, e.symm⟩⟩⟩
end Go.Proofs.Ytjbljplgkbnpmaa.Stab
