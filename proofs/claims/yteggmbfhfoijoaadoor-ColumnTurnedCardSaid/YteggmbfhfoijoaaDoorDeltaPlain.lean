/- Rows of integers as bytes: what Turn, Encode, Decode and Best compute, on lists. No Go in sight. -/
import Derived.Test.YteggmbfhfoijoaaDoorNI
namespace Go.Proofs.YteggmbfhfoijoaaDoor.DeltaPlain
open Go Go.Proofs.YteggmbfhfoijoaaDoor Go.Proofs.YteggmbfhfoijoaaDoor.NumsPlain
set_option linter.unusedVariables false

/-- what a way makes of the integer at a place -/
def tn (l : List Int) (way : Int) (i : Nat) : Int :=
  if way ≤ 0 ∨ i = 0 then l.getD i 0
  else if way = 1 ∨ i = 1 then l.getD i 0 - l.getD (i - 1) 0
  else l.getD i 0 - 2 * l.getD (i - 1) 0 + l.getD (i - 2) 0
def tl (l : List Int) (way : Int) : List Int := (List.range l.length).map (tn l way)
theorem tl_length (l : List Int) (way : Int) : (tl l way).length = l.length := by simp [tl]
theorem tl_get (l : List Int) (way : Int) (i : Nat) (h : i < l.length) : (tl l way).getD i 0 = tn l way i := by simp [tl, h]

def inB (x : Int) : Bool := decide (-1152921504606846976 ≤ x) && decide (x ≤ 1152921504606846976)
theorem inB_iff (x : Int) : inB x = true ↔ -1152921504606846976 ≤ x ∧ x ≤ 1152921504606846976 := by simp [inB]
theorem inB_no (x : Int) : inB x = false ↔ x < -1152921504606846976 ∨ 1152921504606846976 < x := by
  rw [← Bool.not_eq_true, inB_iff]; omega
def known (way : Int) : Bool := decide (0 ≤ way) && decide (way ≤ 2)
theorem known_iff (way : Int) : known way = true ↔ 0 ≤ way ∧ way ≤ 2 := by simp [known]
theorem known_no (way : Int) : known way = false ↔ way < 0 ∨ 2 < way := by rw [← Bool.not_eq_true, known_iff]; omega
def chk (l : List Int) (way : Int) : Nat := if known way = false then 1 else if 2048 < l.length then 5 else if l.all inB then 0 else 2

theorem chk_ok {l : List Int} {way : Int} (h : chk l way = 0) : 0 ≤ way ∧ way ≤ 2 ∧ l.length ≤ 2048 ∧ ∀ x ∈ l, -1152921504606846976 ≤ x ∧ x ≤ 1152921504606846976 := by
  unfold chk at h
  split at h
  · cases h
  · rename_i hk
    split at h
    · cases h
    · split at h
      · rename_i ha
        have hk' := (known_iff way).1 (by simpa using hk)
        exact ⟨hk'.1, hk'.2, by omega, fun x hx => (inB_iff x).1 (List.all_eq_true.1 ha x hx)⟩
      · cases h

theorem getD_mem_or {l : List Int} {P : Int → Prop} (h : ∀ x ∈ l, P x) (h0 : P 0) (i : Nat) : P (l.getD i 0) := by
  rcases Nat.lt_or_ge i l.length with g | g
  · have : l.getD i 0 = l[i] := by simp [g]
    rw [this]; exact h _ (List.getElem_mem g)
  · have : l.getD i 0 = 0 := by simp [g]
    rw [this]; exact h0

theorem tn_bound {l : List Int} (h : ∀ x ∈ l, -1152921504606846976 ≤ x ∧ x ≤ 1152921504606846976) (way : Int) (i : Nat) : -4611686018427387904 ≤ tn l way i ∧ tn l way i ≤ 4611686018427387904 := by
  have h0 := getD_mem_or h (by omega) i
  have h1 := getD_mem_or h (by omega) (i - 1)
  have h2 := getD_mem_or h (by omega) (i - 2)
  unfold tn
  split
  · omega
  · split <;> omega
theorem tl_bound {l : List Int} (h : ∀ x ∈ l, -1152921504606846976 ≤ x ∧ x ≤ 1152921504606846976) (way : Int) : ∀ x ∈ tl l way, -4611686018427387904 ≤ x ∧ x ≤ 4611686018427387904 := by
  intro x hx
  simp only [tl, List.mem_map] at hx
  obtain ⟨i, _, rfl⟩ := hx
  exact tn_bound h way i

/-- a number's bytes -/
def pz (x : Int) : List Nat := pu (zig x)
def enc (l : List Int) (way : Int) : List Nat := pu l.length ++ (tl l way).flatMap pz

theorem pz_len {x : Int} (h : -4611686018427387904 ≤ x ∧ x ≤ 4611686018427387904) : (pz x).length ≤ 10 := pu_ten (zig_lt (by omega) (by omega))
theorem flat_len {ts : List Int} (h : ∀ x ∈ ts, -4611686018427387904 ≤ x ∧ x ≤ 4611686018427387904) : (ts.flatMap pz).length ≤ 10 * ts.length := by
  induction ts with
  | nil => simp
  | cons t ts ih =>
    have h1 := pz_len (h t List.mem_cons_self)
    have h2 := ih (fun x hx => h x (List.mem_cons_of_mem _ hx))
    simp only [List.flatMap_cons, List.length_append, List.length_cons]
    omega
theorem flat_byte {ts : List Int} (h : ∀ x ∈ ts, -4611686018427387904 ≤ x ∧ x ≤ 4611686018427387904) : ∀ y ∈ ts.flatMap pz, y < 256 := by
  intro y hy
  simp only [List.mem_flatMap] at hy
  obtain ⟨t, ht, hy⟩ := hy
  have := h t ht
  exact pu_bytes (zig_lt (by omega) (by omega)) y hy
theorem enc_byte {l : List Int} {way : Int} (h : ∀ x ∈ l, -1152921504606846976 ≤ x ∧ x ≤ 1152921504606846976) (hl : l.length ≤ 2048) : ∀ y ∈ enc l way, y < 256 := by
  intro y hy
  rcases List.mem_append.1 hy with g | g
  · exact pu_bytes (by omega) y g
  · exact flat_byte (tl_bound h way) y g

/-- the integer behind these, if what the way makes of it is nought -/
def fore (acc : List Int) (way : Int) : Int :=
  if way ≤ 0 ∨ acc.length = 0 then 0
  else if way = 1 ∨ acc.length = 1 then acc.getD (acc.length - 1) 0
  else 2 * acc.getD (acc.length - 1) 0 - acc.getD (acc.length - 2) 0
theorem fore_bound {acc : List Int} (h : ∀ x ∈ acc, -1152921504606846976 ≤ x ∧ x ≤ 1152921504606846976) (way : Int) : -3458764513820540928 ≤ fore acc way ∧ fore acc way ≤ 3458764513820540928 := by
  have h1 := getD_mem_or h (by omega) (acc.length - 1)
  have h2 := getD_mem_or h (by omega) (acc.length - 2)
  unfold fore
  split
  · omega
  · split <;> omega

/-- the numbers of bytes, one behind the other: the row, the bytes behind it, the error -/
def dls (way : Int) : Nat → List Nat → List Int → List Int × List Nat × Nat
  | 0, ys, acc => (acc, ys, 0)
  | c + 1, ys, acc =>
    if (uu 0 0 ys).2.2 ≠ 0 then ([], [], (uu 0 0 ys).2.2)
    else if inB (fore acc way + zag (uu 0 0 ys).1) = false then ([], [], 2)
    else dls way c (ys.drop (uu 0 0 ys).2.1) (acc ++ [fore acc way + zag (uu 0 0 ys).1])

def dec (xs : List Nat) (way : Int) : List Int × Nat :=
  if known way = false then ([], 1)
  else if (uu 0 0 xs).2.2 ≠ 0 then ([], (uu 0 0 xs).2.2)
  else if 2048 < (uu 0 0 xs).1 then ([], 5)
  else if (dls way (uu 0 0 xs).1 (xs.drop (uu 0 0 xs).2.1) []).2.2 ≠ 0 then ([], (dls way (uu 0 0 xs).1 (xs.drop (uu 0 0 xs).2.1) []).2.2)
  else if (dls way (uu 0 0 xs).1 (xs.drop (uu 0 0 xs).2.1) []).2.1 ≠ [] then ([], 5)
  else ((dls way (uu 0 0 xs).1 (xs.drop (uu 0 0 xs).2.1) []).1, 0)

theorem fore_tn {l : List Int} {way : Int} {j : Nat} (hj : j < l.length) (h0 : 0 ≤ way) (h2 : way ≤ 2) : fore (l.take j) way + tn l way j = l.getD j 0 := by
  have hl : (l.take j).length = j := by simp; omega
  have g : ∀ i, i < j → (l.take j).getD i 0 = l.getD i 0 := by
    intro i hi
    simp [hi]
  unfold fore tn
  rw [hl]
  split
  · omega
  · rename_i h
    have hj0 : 0 < j := by omega
    split
    · rw [g (j - 1) (by omega)]; omega
    · rw [g (j - 1) (by omega), g (j - 2) (by omega)]; omega

theorem take_next {l : List Int} {j : Nat} (hj : j < l.length) : l.take j ++ [l.getD j 0] = l.take (j + 1) := by
  rw [List.take_add_one, List.getElem?_eq_getElem hj]; simp [hj]

theorem tl_drop {l : List Int} {way : Int} {j : Nat} (hj : j < l.length) : (tl l way).drop j = tn l way j :: (tl l way).drop (j + 1) := by
  have h : j < (tl l way).length := by rw [tl_length]; exact hj
  rw [List.drop_eq_getElem_cons h]
  simp [tl]

theorem uu_pz {x : Int} (h : -4611686018427387904 ≤ x ∧ x ≤ 4611686018427387904) (rest : List Nat) : uu 0 0 (pz x ++ rest) = (zig x, (pz x).length, 0) := uu_back (zig_lt (by omega) (by omega)) rest

/-- a row comes back from its numbers -/
theorem dls_back {l : List Int} {way : Int} (h0 : 0 ≤ way) (h2 : way ≤ 2) (hb : ∀ x ∈ l, -1152921504606846976 ≤ x ∧ x ≤ 1152921504606846976) (rest : List Nat) :
    ∀ c j, j + c = l.length → dls way c (((tl l way).drop j).flatMap pz ++ rest) (l.take j) = (l, rest, 0)
  | 0, j, hj => by
    obtain rfl : j = l.length := by omega
    rw [List.drop_eq_nil_of_le (by rw [tl_length]; exact Nat.le_refl _), List.take_of_length_le (Nat.le_refl _)]
    rfl
  | c + 1, j, hj => by
    have hjl : j < l.length := by omega
    have ih := dls_back h0 h2 hb rest c (j + 1) (by omega)
    rw [tl_drop hjl, List.flatMap_cons, List.append_assoc]
    have hu := uu_pz (tn_bound hb way j) (((tl l way).drop (j + 1)).flatMap pz ++ rest)
    have hin : inB (l.getD j 0) = true := (inB_iff _).2 (getD_mem_or hb (by omega) j)
    simp only [dls, hu, zag_zig, fore_tn hjl h0 h2, hin]
    rw [if_neg (by simp), if_neg (by simp), take_next hjl, List.drop_left]
    exact ih

theorem enc_pos (l : List Int) (way : Int) : 1 ≤ (enc l way).length := by
  have := pu_pos l.length
  simp only [enc, List.length_append]; omega

theorem dec_back {l : List Int} {way : Int} (h : chk l way = 0) (rest : List Nat) : dec (enc l way ++ rest) way = if rest = [] then (l, 0) else ([], 5) := by
  obtain ⟨h0, h2, hl, hb⟩ := chk_ok h
  have hu := uu_back (n := l.length) (by omega) ((tl l way).flatMap pz ++ rest)
  have hd := dls_back h0 h2 hb rest l.length 0 (by omega)
  rw [List.drop_zero, List.take_zero] at hd
  have hk : known way = true := (known_iff way).2 ⟨h0, h2⟩
  unfold dec enc
  rw [List.append_assoc, hu, hk]
  simp only [List.drop_left, hd]
  rw [if_neg (by simp), if_neg (by simp), if_neg (by omega), if_neg (by simp)]
  by_cases hr : rest = []
  · rw [if_pos hr, if_neg (by simpa using hr)]
  · rw [if_neg hr, if_pos hr]

/-- a number cut short -/
theorem uu_short : ∀ (k acc i n m : Nat), k + i = 9 → n < 128 ^ (k + 1) → m < (pu n).length → uu acc i ((pu n).take m) = (0, 0, 3)
  | 0, acc, i, n, m, hki, h, hm => by
    have h1 : n < 128 := by simpa using h
    rw [pu_small h1] at hm ⊢
    obtain rfl : m = 0 := by simpa using hm
    rfl
  | k + 1, acc, i, n, m, hki, h, hm => by
    by_cases hs : n < 128
    · rw [pu_small hs] at hm ⊢
      obtain rfl : m = 0 := by simpa using hm
      rfl
    · rw [pu_big (by omega)] at hm ⊢
      cases m with
      | zero => rfl
      | succ m =>
        have h2 : n / 128 < 128 ^ (k + 1) := by
          rw [Nat.div_lt_iff_lt_mul (by omega)]
          rw [Nat.pow_succ 128 (k + 1)] at h
          exact h
        simp only [List.take_succ_cons, uu]
        rw [if_neg (by omega), if_pos (by omega)]
        exact uu_short k _ (i + 1) (n / 128) m (by omega) h2 (by simpa using hm)

theorem uu_cut {n m : Nat} (h : n < 18446744073709551616) (hm : m < (pu n).length) (rest : List Nat) : uu 0 0 ((pu n ++ rest).take m) = (0, 0, 3) := by
  rw [List.take_append_of_le_length (by omega)]
  exact uu_short 9 0 0 n m rfl (Nat.lt_of_lt_of_le h (by decide)) hm

theorem take_drop_app {A B : List Nat} {m : Nat} (h : A.length ≤ m) : ((A ++ B).take m) = A ++ B.take (m - A.length) := by
  rw [List.take_append, List.take_of_length_le h]

theorem dls_short {l : List Int} {way : Int} (h0 : 0 ≤ way) (h2 : way ≤ 2) (hb : ∀ x ∈ l, -1152921504606846976 ≤ x ∧ x ≤ 1152921504606846976) :
    ∀ c j m, j + c = l.length → m < (((tl l way).drop j).flatMap pz).length → (dls way c ((((tl l way).drop j).flatMap pz).take m) (l.take j)).2.2 = 3
  | 0, j, m, hj, hm => by
    obtain rfl : j = l.length := by omega
    rw [List.drop_eq_nil_of_le (by rw [tl_length]; exact Nat.le_refl _)] at hm
    simp at hm
  | c + 1, j, m, hj, hm => by
    have hjl : j < l.length := by omega
    have hbn := tn_bound hb way j
    have hz := zig_lt (m := tn l way j) (by omega) (by omega)
    rw [tl_drop hjl, List.flatMap_cons] at hm ⊢
    rcases Nat.lt_or_ge m (pz (tn l way j)).length with g | g
    · have hu := uu_cut hz g (((tl l way).drop (j + 1)).flatMap pz)
      rw [show pu (zig (tn l way j)) = pz (tn l way j) from rfl] at hu
      simp only [dls, hu]
      rw [if_pos (by simp)]
    · rw [take_drop_app g]
      have hu := uu_pz hbn ((((tl l way).drop (j + 1)).flatMap pz).take (m - (pz (tn l way j)).length))
      have hin : inB (l.getD j 0) = true := (inB_iff _).2 (getD_mem_or hb (by omega) j)
      simp only [dls, hu, zag_zig, fore_tn hjl h0 h2, hin]
      rw [if_neg (by simp), if_neg (by simp), take_next hjl, List.drop_left]
      exact dls_short h0 h2 hb c (j + 1) _ (by omega) (by simp only [List.length_append] at hm; omega)

theorem dec_short {l : List Int} {way : Int} (h : chk l way = 0) {m : Nat} (hm : m < (enc l way).length) : dec ((enc l way).take m) way = ([], 3) := by
  obtain ⟨h0, h2, hl, hb⟩ := chk_ok h
  have hk : known way = true := (known_iff way).2 ⟨h0, h2⟩
  unfold dec enc
  unfold enc at hm
  rw [hk]
  rcases Nat.lt_or_ge m (pu l.length).length with g | g
  · have hu := uu_cut (n := l.length) (by omega) g ((tl l way).flatMap pz)
    rw [hu, if_neg (by simp), if_pos (by simp)]
  · rw [take_drop_app g]
    have hu := uu_back (n := l.length) (by omega) (((tl l way).flatMap pz).take (m - (pu l.length).length))
    have hd := dls_short h0 h2 hb l.length 0 (m - (pu l.length).length) (by omega) (by rw [List.drop_zero]; simp only [List.length_append] at hm; omega)
    rw [List.drop_zero, List.take_zero] at hd
    rw [hu]
    simp only [List.drop_left]
    rw [if_neg (by simp), if_neg (by simp), if_neg (by omega), hd, if_pos (by decide)]

end Go.Proofs.YteggmbfhfoijoaaDoor.DeltaPlain
