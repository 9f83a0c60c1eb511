/- Texts put together by packtpl2.py: DeltaPlain, DeltaTurn. -/
import Derived.Test.YtpbijdoemdoijaaGreatDoorPkCa8
import Derived.Test.YtpbijdoemdoijaaGreatDoorPkCa16
import Derived.BigRegion
section PkCa32_0
/- Rows of integers as bytes: what Turn, Encode, Decode and Best compute, on lists. No Go in sight. -/
namespace Go.Proofs.YtpbijdoemdoijaaGreatDoor.DeltaPlain
open Go Go.Proofs.YtpbijdoemdoijaaGreatDoor Go.Proofs.YtpbijdoemdoijaaGreatDoor.NumsPlain
set_option linter.unusedVariables false

/-- what a way makes of the integer at a place -/
def tn (l : List Int) (way : Int) (i : Nat) : Int :=
  if way ≤ 0 ∨ i = 0 then l.getD i 0
  else if way = 1 ∨ i = 1 then l.getD i 0 - l.getD (i - 1) 0
  else l.getD i 0 - 2 * l.getD (i - 1) 0 + l.getD (i - 2) 0
def tl (l : List Int) (way : Int) : List Int := (List.range l.length).map (tn l way)
theorem tl_length (l : List Int) (way : Int) : (tl l way).length = l.length := by simp [tl]
theorem tl_get (l : List Int) (way : Int) (i : Nat) (h : i < l.length) : (tl l way).getD i 0 = tn l way i := by simp [tl, h]

def inB (x : Int) : Bool := decide (-1152921504606846976 ≤ x) && decide (x ≤ 1152921504606846976)
theorem inB_iff (x : Int) : inB x = true ↔ -1152921504606846976 ≤ x ∧ x ≤ 1152921504606846976 := by simp [inB]
theorem inB_no (x : Int) : inB x = false ↔ x < -1152921504606846976 ∨ 1152921504606846976 < x := by
  rw [← Bool.not_eq_true, inB_iff]; omega
def known (way : Int) : Bool := decide (0 ≤ way) && decide (way ≤ 2)
theorem known_iff (way : Int) : known way = true ↔ 0 ≤ way ∧ way ≤ 2 := by simp [known]
theorem known_no (way : Int) : known way = false ↔ way < 0 ∨ 2 < way := by rw [← Bool.not_eq_true, known_iff]; omega
def chk (l : List Int) (way : Int) : Nat := if known way = false then 1 else if 2048 < l.length then 5 else if l.all inB then 0 else 2

theorem chk_ok {l : List Int} {way : Int} (h : chk l way = 0) : 0 ≤ way ∧ way ≤ 2 ∧ l.length ≤ 2048 ∧ ∀ x ∈ l, -1152921504606846976 ≤ x ∧ x ≤ 1152921504606846976 := by
  unfold chk at h
  split at h
  · cases h
  · rename_i hk
    split at h
    · cases h
    · split at h
      · rename_i ha
        have hk' := (known_iff way).1 (by simpa using hk)
        exact ⟨hk'.1, hk'.2, by omega, fun x hx => (inB_iff x).1 (List.all_eq_true.1 ha x hx)⟩
      · cases h

theorem getD_mem_or {l : List Int} {P : Int → Prop} (h : ∀ x ∈ l, P x) (h0 : P 0) (i : Nat) : P (l.getD i 0) := by
  rcases Nat.lt_or_ge i l.length with g | g
  · have : l.getD i 0 = l[i] := by simp [g]
    rw [this]; exact h _ (List.getElem_mem g)
  · have : l.getD i 0 = 0 := by simp [g]
    rw [this]; exact h0

theorem tn_bound {l : List Int} (h : ∀ x ∈ l, -1152921504606846976 ≤ x ∧ x ≤ 1152921504606846976) (way : Int) (i : Nat) : -4611686018427387904 ≤ tn l way i ∧ tn l way i ≤ 4611686018427387904 := by
  have h0 := getD_mem_or h (by omega) i
  have h1 := getD_mem_or h (by omega) (i - 1)
  have h2 := getD_mem_or h (by omega) (i - 2)
  unfold tn
  split
  · omega
  · split <;> omega
theorem tl_bound {l : List Int} (h : ∀ x ∈ l, -1152921504606846976 ≤ x ∧ x ≤ 1152921504606846976) (way : Int) : ∀ x ∈ tl l way, -4611686018427387904 ≤ x ∧ x ≤ 4611686018427387904 := by
  intro x hx
  simp only [tl, List.mem_map] at hx
  obtain ⟨i, _, rfl⟩ := hx
  exact tn_bound h way i

/-- a number's bytes -/
def pz (x : Int) : List Nat := pu (zig x)
def enc (l : List Int) (way : Int) : List Nat := pu l.length ++ (tl l way).flatMap pz

theorem pz_len {x : Int} (h : -4611686018427387904 ≤ x ∧ x ≤ 4611686018427387904) : (pz x).length ≤ 10 := pu_ten (zig_lt (by omega) (by omega))
theorem flat_len {ts : List Int} (h : ∀ x ∈ ts, -4611686018427387904 ≤ x ∧ x ≤ 4611686018427387904) : (ts.flatMap pz).length ≤ 10 * ts.length := by
  induction ts with
  | nil => simp
  | cons t ts ih =>
    have h1 := pz_len (h t List.mem_cons_self)
    have h2 := ih (fun x hx => h x (List.mem_cons_of_mem _ hx))
    simp only [List.flatMap_cons, List.length_append, List.length_cons]
    omega
theorem flat_byte {ts : List Int} (h : ∀ x ∈ ts, -4611686018427387904 ≤ x ∧ x ≤ 4611686018427387904) : ∀ y ∈ ts.flatMap pz, y < 256 := by
  intro y hy
  simp only [List.mem_flatMap] at hy
  obtain ⟨t, ht, hy⟩ := hy
  have := h t ht
  exact pu_bytes (zig_lt (by omega) (by omega)) y hy
theorem enc_byte {l : List Int} {way : Int} (h : ∀ x ∈ l, -1152921504606846976 ≤ x ∧ x ≤ 1152921504606846976) (hl : l.length ≤ 2048) : ∀ y ∈ enc l way, y < 256 := by
  intro y hy
  rcases List.mem_append.1 hy with g | g
  · exact pu_bytes (by omega) y g
  · exact flat_byte (tl_bound h way) y g

/-- the integer behind these, if what the way makes of it is nought -/
def fore (acc : List Int) (way : Int) : Int :=
  if way ≤ 0 ∨ acc.length = 0 then 0
  else if way = 1 ∨ acc.length = 1 then acc.getD (acc.length - 1) 0
  else 2 * acc.getD (acc.length - 1) 0 - acc.getD (acc.length - 2) 0
theorem fore_bound {acc : List Int} (h : ∀ x ∈ acc, -1152921504606846976 ≤ x ∧ x ≤ 1152921504606846976) (way : Int) : -3458764513820540928 ≤ fore acc way ∧ fore acc way ≤ 3458764513820540928 := by
  have h1 := getD_mem_or h (by omega) (acc.length - 1)
  have h2 := getD_mem_or h (by omega) (acc.length - 2)
  unfold fore
  split
  · omega
  · split <;> omega

/-- the numbers of bytes, one behind the other: the row, the bytes behind it, the error -/
def dls (way : Int) : Nat → List Nat → List Int → List Int × List Nat × Nat
  | 0, ys, acc => (acc, ys, 0)
  | c + 1, ys, acc =>
    if (uu 0 0 ys).2.2 ≠ 0 then ([], [], (uu 0 0 ys).2.2)
    else if inB (fore acc way + zag (uu 0 0 ys).1) = false then ([], [], 2)
    else dls way c (ys.drop (uu 0 0 ys).2.1) (acc ++ [fore acc way + zag (uu 0 0 ys).1])

def dec (xs : List Nat) (way : Int) : List Int × Nat :=
  if known way = false then ([], 1)
  else if (uu 0 0 xs).2.2 ≠ 0 then ([], (uu 0 0 xs).2.2)
  else if 2048 < (uu 0 0 xs).1 then ([], 5)
  else if (dls way (uu 0 0 xs).1 (xs.drop (uu 0 0 xs).2.1) []).2.2 ≠ 0 then ([], (dls way (uu 0 0 xs).1 (xs.drop (uu 0 0 xs).2.1) []).2.2)
  else if (dls way (uu 0 0 xs).1 (xs.drop (uu 0 0 xs).2.1) []).2.1 ≠ [] then ([], 5)
  else ((dls way (uu 0 0 xs).1 (xs.drop (uu 0 0 xs).2.1) []).1, 0)

theorem fore_tn {l : List Int} {way : Int} {j : Nat} (hj : j < l.length) (h0 : 0 ≤ way) (h2 : way ≤ 2) : fore (l.take j) way + tn l way j = l.getD j 0 := by
  have hl : (l.take j).length = j := by simp; omega
  have g : ∀ i, i < j → (l.take j).getD i 0 = l.getD i 0 := by
    intro i hi
    simp [hi]
  unfold fore tn
  rw [hl]
  split
  · omega
  · rename_i h
    have hj0 : 0 < j := by omega
    split
    · rw [g (j - 1) (by omega)]; omega
    · rw [g (j - 1) (by omega), g (j - 2) (by omega)]; omega

theorem take_next {l : List Int} {j : Nat} (hj : j < l.length) : l.take j ++ [l.getD j 0] = l.take (j + 1) := by
  rw [List.take_add_one, List.getElem?_eq_getElem hj]; simp [hj]

theorem tl_drop {l : List Int} {way : Int} {j : Nat} (hj : j < l.length) : (tl l way).drop j = tn l way j :: (tl l way).drop (j + 1) := by
  have h : j < (tl l way).length := by rw [tl_length]; exact hj
  rw [List.drop_eq_getElem_cons h]
  simp [tl]

theorem uu_pz {x : Int} (h : -4611686018427387904 ≤ x ∧ x ≤ 4611686018427387904) (rest : List Nat) : uu 0 0 (pz x ++ rest) = (zig x, (pz x).length, 0) := uu_back (zig_lt (by omega) (by omega)) rest

/-- a row comes back from its numbers -/
theorem dls_back {l : List Int} {way : Int} (h0 : 0 ≤ way) (h2 : way ≤ 2) (hb : ∀ x ∈ l, -1152921504606846976 ≤ x ∧ x ≤ 1152921504606846976) (rest : List Nat) :
    ∀ c j, j + c = l.length → dls way c (((tl l way).drop j).flatMap pz ++ rest) (l.take j) = (l, rest, 0)
  | 0, j, hj => by
    obtain rfl : j = l.length := by omega
    rw [List.drop_eq_nil_of_le (by rw [tl_length]; exact Nat.le_refl _), List.take_of_length_le (Nat.le_refl _)]
    rfl
  | c + 1, j, hj => by
    have hjl : j < l.length := by omega
    have ih := dls_back h0 h2 hb rest c (j + 1) (by omega)
    rw [tl_drop hjl, List.flatMap_cons, List.append_assoc]
    have hu := uu_pz (tn_bound hb way j) (((tl l way).drop (j + 1)).flatMap pz ++ rest)
    have hin : inB (l.getD j 0) = true := (inB_iff _).2 (getD_mem_or hb (by omega) j)
    simp only [dls, hu, zag_zig, fore_tn hjl h0 h2, hin]
    rw [if_neg (by simp), if_neg (by simp), take_next hjl, List.drop_left]
    exact ih

theorem enc_pos (l : List Int) (way : Int) : 1 ≤ (enc l way).length := by
  have := pu_pos l.length
  simp only [enc, List.length_append]; omega

theorem dec_back {l : List Int} {way : Int} (h : chk l way = 0) (rest : List Nat) : dec (enc l way ++ rest) way = if rest = [] then (l, 0) else ([], 5) := by
  obtain ⟨h0, h2, hl, hb⟩ := chk_ok h
  have hu := uu_back (n := l.length) (by omega) ((tl l way).flatMap pz ++ rest)
  have hd := dls_back h0 h2 hb rest l.length 0 (by omega)
  rw [List.drop_zero, List.take_zero] at hd
  have hk : known way = true := (known_iff way).2 ⟨h0, h2⟩
  unfold dec enc
  rw [List.append_assoc, hu, hk]
  simp only [List.drop_left, hd]
  rw [if_neg (by simp), if_neg (by simp), if_neg (by omega), if_neg (by simp)]
  by_cases hr : rest = []
  · rw [if_pos hr, if_neg (by simpa using hr)]
  · rw [if_neg hr, if_pos hr]

/-- a number cut short -/
theorem uu_short : ∀ (k acc i n m : Nat), k + i = 9 → n < 128 ^ (k + 1) → m < (pu n).length → uu acc i ((pu n).take m) = (0, 0, 3)
  | 0, acc, i, n, m, hki, h, hm => by
    have h1 : n < 128 := by simpa using h
    rw [pu_small h1] at hm ⊢
    obtain rfl : m = 0 := by simpa using hm
    rfl
  | k + 1, acc, i, n, m, hki, h, hm => by
    by_cases hs : n < 128
    · rw [pu_small hs] at hm ⊢
      obtain rfl : m = 0 := by simpa using hm
      rfl
    · rw [pu_big (by omega)] at hm ⊢
      cases m with
      | zero => rfl
      | succ m =>
        have h2 : n / 128 < 128 ^ (k + 1) := by
          rw [Nat.div_lt_iff_lt_mul (by omega)]
          rw [Nat.pow_succ 128 (k + 1)] at h
          exact h
        simp only [List.take_succ_cons, uu]
        rw [if_neg (by omega), if_pos (by omega)]
        exact uu_short k _ (i + 1) (n / 128) m (by omega) h2 (by simpa using hm)

theorem uu_cut {n m : Nat} (h : n < 18446744073709551616) (hm : m < (pu n).length) (rest : List Nat) : uu 0 0 ((pu n ++ rest).take m) = (0, 0, 3) := by
  rw [List.take_append_of_le_length (by omega)]
  exact uu_short 9 0 0 n m rfl (Nat.lt_of_lt_of_le h (by decide)) hm

theorem take_drop_app {A B : List Nat} {m : Nat} (h : A.length ≤ m) : ((A ++ B).take m) = A ++ B.take (m - A.length) := by
  rw [List.take_append, List.take_of_length_le h]

theorem dls_short {l : List Int} {way : Int} (h0 : 0 ≤ way) (h2 : way ≤ 2) (hb : ∀ x ∈ l, -1152921504606846976 ≤ x ∧ x ≤ 1152921504606846976) :
    ∀ c j m, j + c = l.length → m < (((tl l way).drop j).flatMap pz).length → (dls way c ((((tl l way).drop j).flatMap pz).take m) (l.take j)).2.2 = 3
  | 0, j, m, hj, hm => by
    obtain rfl : j = l.length := by omega
    rw [List.drop_eq_nil_of_le (by rw [tl_length]; exact Nat.le_refl _)] at hm
    simp at hm
  | c + 1, j, m, hj, hm => by
    have hjl : j < l.length := by omega
    have hbn := tn_bound hb way j
    have hz := zig_lt (m := tn l way j) (by omega) (by omega)
    rw [tl_drop hjl, List.flatMap_cons] at hm ⊢
    rcases Nat.lt_or_ge m (pz (tn l way j)).length with g | g
    · have hu := uu_cut hz g (((tl l way).drop (j + 1)).flatMap pz)
      rw [show pu (zig (tn l way j)) = pz (tn l way j) from rfl] at hu
      simp only [dls, hu]
      rw [if_pos (by simp)]
    · rw [take_drop_app g]
      have hu := uu_pz hbn ((((tl l way).drop (j + 1)).flatMap pz).take (m - (pz (tn l way j)).length))
      have hin : inB (l.getD j 0) = true := (inB_iff _).2 (getD_mem_or hb (by omega) j)
      simp only [dls, hu, zag_zig, fore_tn hjl h0 h2, hin]
      rw [if_neg (by simp), if_neg (by simp), take_next hjl, List.drop_left]
      exact dls_short h0 h2 hb c (j + 1) _ (by omega) (by simp only [List.length_append] at hm; omega)

theorem dec_short {l : List Int} {way : Int} (h : chk l way = 0) {m : Nat} (hm : m < (enc l way).length) : dec ((enc l way).take m) way = ([], 3) := by
  obtain ⟨h0, h2, hl, hb⟩ := chk_ok h
  have hk : known way = true := (known_iff way).2 ⟨h0, h2⟩
  unfold dec enc
  unfold enc at hm
  rw [hk]
  rcases Nat.lt_or_ge m (pu l.length).length with g | g
  · have hu := uu_cut (n := l.length) (by omega) g ((tl l way).flatMap pz)
    rw [hu, if_neg (by simp), if_pos (by simp)]
  · rw [take_drop_app g]
    have hu := uu_back (n := l.length) (by omega) (((tl l way).flatMap pz).take (m - (pu l.length).length))
    have hd := dls_short h0 h2 hb l.length 0 (m - (pu l.length).length) (by omega) (by rw [List.drop_zero]; simp only [List.length_append] at hm; omega)
    rw [List.drop_zero, List.take_zero] at hd
    rw [hu]
    simp only [List.drop_left]
    rw [if_neg (by simp), if_neg (by simp), if_neg (by omega), hd, if_pos (by decide)]

end Go.Proofs.YtpbijdoemdoijaaGreatDoor.DeltaPlain
end PkCa32_0
section PkCa32_1
/- Package delta's Turn and what it calls, walked. -/
namespace Go.Proofs.YtpbijdoemdoijaaGreatDoor
open Go.RowKit NumsPlain DeltaPlain
set_option linter.unusedVariables false

theorem info_i64 : (Tryz.prog.info? 2).map (fun i => (i.zero, i.size, i.bytes)) = some (some (.int .i64 0), 1, 8) := by kernel_rfl

theorem wf_i64 {n : Int} (h : -9223372036854775808 ≤ n ∧ n ≤ 9223372036854775807) : (Lit.int .i64 n).wf = true := by
  simpa [Lit.wf, IntKind.min, IntKind.max, IntKind.signed, IntKind.bits] using h

set_option maxHeartbeats 400000 in
theorem known_any (way : Int) (w : World) :
    Calls Tryz.prog 127 #[.int .i64 way] w fun e w' => e = .returned (.bool (known way)) ∧ w = w' := by
  by_cases h0 : 0 ≤ way
  · by_cases h2 : way ≤ 2
    · have h : known way = true := (known_iff way).2 ⟨h0, h2⟩
      have H := Lib.hid h
      clear h
      go_enter Tryz.func127, Tryz.ntmps127
      go_wp2_with fail
      go_ret
      rw [H.out]
      exact ⟨rfl, rfl⟩
    · have h : known way = false := (known_no way).2 (.inr (by omega))
      have h2' : (2 : Int) < way := by omega
      have H := Lib.hid h
      have d2 : decide (way ≤ 2) = false := by simp; omega
      clear h h2
      go_enter Tryz.func127, Tryz.ntmps127
      go_wp2_with fail
      go_ret
      rw [H.out]
      exact ⟨rfl, rfl⟩
  · have h : known way = false := (known_no way).2 (.inl (by omega))
    have H := Lib.hid h
    have h0' : way < 0 := by omega
    have d0 : decide (0 ≤ way) = false := by simp; omega
    clear h h0
    go_enter Tryz.func127, Tryz.ntmps127
    go_wp2_with fail
    go_ret
    rw [H.out]
    exact ⟨rfl, rfl⟩

theorem all_take {l : List Int} {k : Nat} (hk : k < l.length) (h : (l.take k).all inB = true) : (l.take (k + 1)).all inB = inB (l.getD k 0) := by
  rw [← take_next hk, List.all_append, h]; simp
theorem all_no {l : List Int} {k : Nat} (hk : k < l.length) (h : inB (l.getD k 0) = false) : l.all inB = false := by
  rw [← Bool.not_eq_true, List.all_eq_true]
  intro hall
  have : l.getD k 0 = l[k] := by simp [hk]
  rw [this] at h
  have := hall _ (List.getElem_mem hk)
  rw [h] at this; cases this

set_option maxRecDepth 100000 in
set_option maxHeartbeats 1000000 in
theorem check_any {w : World} {a : Option Addr} {n c : Nat} {zs : List Int} (h : IntsAt .i64 w a n c zs) (way : Int) :
    Calls Tryz.prog 149 #[.slice a n c, .int .i64 way] w fun e w' => e = .returned (.int .i64 ((chk zs way : Nat) : Int)) ∧ w = w' := by
  have hlen := h.len
  have hcap := h.cap
  have hcm := h.capm
  have HH := Lib.hid h
  have HL := Lib.hid hlen
  clear h hlen
  cases hk : known way with
  | false =>
    have HC := Lib.hid (show chk zs way = 1 by unfold chk; rw [if_pos hk])
    have HK := Lib.hid hk
    clear hk
    go_enter Tryz.func149, Tryz.ntmps149
    go_wp2_with fail
    refine (known_any way w).mono ?_
    rintro e w1 ⟨rfl, rfl⟩
    rw [HK.out]
    go_wp2_with fail
    go_ret
    rw [HC.out]
    exact ⟨rfl, rfl⟩
  | true =>
    have HK := Lib.hid hk
    by_cases hbig : (2048 : Int) < (n : Int)
    · have HC := Lib.hid (show chk zs way = 5 by unfold chk; rw [if_neg (by rw [hk]; simp), if_pos (by rw [HL.out]; omega)])
      clear hk
      go_enter Tryz.func149, Tryz.ntmps149
      go_wp2_with fail
      refine (known_any way w).mono ?_
      rintro e w1 ⟨rfl, rfl⟩
      rw [HK.out]
      go_wp2_with fail
      go_ret
      rw [HC.out]
      exact ⟨rfl, rfl⟩
    · have hc : chk zs way = if zs.all inB then 0 else 2 := by
        unfold chk; rw [if_neg (by rw [hk]; simp), if_neg (by rw [HL.out]; omega)]
      have HC := Lib.hid hc
      have hbig2 : (n : Int) ≤ 2048 := by omega
      clear hk hc hbig
      go_enter Tryz.func149, Tryz.ntmps149
      go_wp2_with fail
      refine (known_any way w).mono ?_
      rintro e w1 ⟨rfl, rfl⟩
      rw [HK.out]
      go_wp2_with fail
      go_loop [15] (fun s15 => ∃ k : Nat, k ≤ n ∧ s15 = .int .i64 k ∧ Hid ((zs.take k).all inB = true)) (fun s15 => n - (intOf s15).toNat)
      case atStart => exact ⟨0, by omega, rfl, Lib.hid (by simp)⟩
      case round =>
        obtain ⟨k, hk, rfl, HA⟩ := hrel
        by_cases hkn : k < n
        · obtain ⟨b, off, rfl, hlt, hcell⟩ := HH.out.cells (by omega)
          have hck := hcell k hkn
          obtain ⟨x, hx⟩ : ∃ x, x = zs.getD k 0 := ⟨_, rfl⟩
          rw [← hx] at hck
          have hkl : k < zs.length := by rw [HL.out]; exact hkn
          have HX := Lib.hid hx
          have hkl2 := Lib.hid hkl
          clear hcell hx hkl
          by_cases h1 : x < -1152921504606846976
          · have HN := Lib.hid (all_no hkl2.out (by rw [← HX.out]; exact (inB_no x).2 (.inl h1)))
            go_wp2_with fail
            go_ret
            rw [HC.out, HN.out]
            exact ⟨rfl, rfl⟩
          · by_cases h2 : 1152921504606846976 < x
            · have HN := Lib.hid (all_no hkl2.out (by rw [← HX.out]; exact (inB_no x).2 (.inr h2)))
              have h1' : -1152921504606846976 ≤ x := by omega
              clear h1
              go_wp2_with fail
              go_ret
              rw [HC.out, HN.out]
              exact ⟨rfl, rfl⟩
            · have HN := Lib.hid (show (zs.take (k + 1)).all inB = true by
                rw [all_take hkl2.out HA.out, ← HX.out]; exact (inB_iff x).2 ⟨by omega, by omega⟩)
              have h1' : -1152921504606846976 ≤ x := by omega
              have h2' : x ≤ 1152921504606846976 := by omega
              clear h1 h2
              go_wp2_with fail
              go_round
              case rel => exact ⟨k + 1, by omega, by go_num, HN⟩
              case measure => simp [intOf]; omega
        · have hkn2 : k = n := by omega
          have HN := Lib.hid (show zs.all inB = true by
            have := HA.out
            rw [List.take_of_length_le (by rw [HL.out]; omega)] at this
            exact this)
          clear hkn2
          go_wp2_with fail
          go_ret
          rw [HC.out, HN.out]
          exact ⟨rfl, rfl⟩

set_option maxRecDepth 100000 in
set_option maxHeartbeats 1000000 in
theorem clone64 {w : World} {a : Option Addr} {n c : Nat} {zs : List Int} (h : IntsAt .i64 w a n c zs) (hn : n ≤ 100000) :
    Calls Tryz.prog 150 #[.slice a n c] w fun e w' => ∃ v, e = .returned v ∧ w'.ownsRow w.heap.size 2 1 v n (iv .i64 zs) ∧ Below w.heap.size w w' := by
  have q : ∀ (w : World) (a : Option Addr) (n c n' c' : Nat), (binOp .eql 22 (.slice a n c) (.slice none n' c')).run Tryz.prog w = .ok (.bool a.isNone) w := fun w a n c n' c' => Lib.run_eql_slice_nil w _ _ a n c n' c' Tryz.underlying22
  have hown0 := World.ownsRow_lit (base := w.heap.size) (e := 2) (size := 1) w #[] 0 (Nat.le_refl _) (by unfold maxLen; omega) rfl
  have hlen := h.len
  rcases a with _ | ad
  · have hc0 := h.nl rfl
    have hn0 : n = 0 := by have := h.cap; omega
    subst hn0
    subst hc0
    obtain rfl : zs = [] := List.eq_nil_of_length_eq_zero hlen
    clear h hlen hown0
    go_enter Tryz.func150, Tryz.ntmps150
    go_wp2_with fail
    go_ret
    exact ⟨_, rfl, World.ownsRow_nil _ _ _ _, Below.refl _ _⟩
  · have ha := h.alloc (.cells #[] 2)
    have HA := Lib.hid ha
    clear h ha hlen
    go_enter Tryz.func150, Tryz.ntmps150
    go_wp2_with (at_builtin; refine wpList_append_ints Tryz.underlying22 info_i64 rfl (.tmp 5) (.tmp 6) rfl w.heap.size _ _ [] rfl hown0 _ _ _ _ rfl HA.out (by omega) (by omega) (by simp) ?_)
    intro v' w1 hown' hgrow
    have hown2 : w1.ownsRow w.heap.size 2 1 v' n (iv .i64 zs) := by simpa using hown'
    clear hown'
    have hb : Below w.heap.size w w1 := ((Below.refl _ _).alloc (Nat.le_refl _) _).grown hgrow (by simp) (fun k hk => by simp [Value.ownBlock] at hk; omega)
    go_wp2_with fail
    go_ret
    exact ⟨v', rfl, hown2, hb⟩

set_option maxHeartbeats 400000 in
theorem subtract_small {w : World} {a : Option Addr} {n c : Nat} (hn : n ≤ 1) :
    Calls Tryz.prog 151 #[.slice a n c] w fun e w' => e = .returned (.tuple #[]) ∧ w = w' := by
  have h : n = 0 ∨ n = 1 := by omega
  clear hn
  rcases h with rfl | rfl
  · go_enter Tryz.func151, Tryz.ntmps151
    go_wp2_with fail
    go_loop [2] (fun s2 => s2 = .int .i64 (-1)) (fun _ => 0)
    case atStart => rfl
    case round =>
      obtain rfl := hrel
      go_wp2_with fail
      go_end0
      exact ⟨rfl, rfl⟩
  · go_enter Tryz.func151, Tryz.ntmps151
    go_wp2_with fail
    go_loop [2] (fun s2 => s2 = .int .i64 0) (fun _ => 0)
    case atStart => rfl
    case round =>
      obtain rfl := hrel
      go_wp2_with fail
      go_end0
      exact ⟨rfl, rfl⟩

/-- from behind place m on: the differences -/
def sub1 (zs : List Int) (m : Int) : List Int := (List.range zs.length).map fun (j : Nat) => if m < (j : Int) then zs.getD j 0 - zs.getD (j - 1) 0 else zs.getD j 0
theorem sub1_len (zs : List Int) (m : Int) : (sub1 zs m).length = zs.length := by simp [sub1]
theorem sub1_get (zs : List Int) (m : Int) (j : Nat) (h : j < zs.length) : (sub1 zs m).getD j 0 = if m < (j : Int) then zs.getD j 0 - zs.getD (j - 1) 0 else zs.getD j 0 := by
  simp [sub1, h]
theorem sub1_same (zs : List Int) (m : Int) (h : (zs.length : Int) ≤ m + 1) : sub1 zs m = zs := by
  apply List.ext_getElem
  · simp [sub1]
  · intro i h1 h2
    have := sub1_get zs m i h2
    rw [if_neg (by omega)] at this
    simpa [h1, h2] using this
theorem sub1_set (zs : List Int) (m : Nat) (h : m + 1 < zs.length) : (sub1 zs ((m : Int) + 1)).set (m + 1) (zs.getD (m + 1) 0 - zs.getD m 0) = sub1 zs (m : Int) := by
  apply List.ext_getElem
  · simp [sub1]
  · intro i h1 h2
    have hi : i < zs.length := by simpa [sub1] using h2
    have e1 := sub1_get zs (m : Int) i hi
    have e0 := sub1_get zs ((m : Int) + 1) i hi
    have e1' : (sub1 zs (m : Int))[i] = (sub1 zs (m : Int)).getD i 0 := by simp [h2]
    rw [e1', e1, List.getElem_set]
    by_cases hm : m + 1 = i
    · subst hm
      rw [if_pos rfl, if_pos (by omega)]
      rfl
    · rw [if_neg hm]
      have e0' : (sub1 zs ((m : Int) + 1))[i]'(by simpa [sub1] using hi) = (sub1 zs ((m : Int) + 1)).getD i 0 := by
        have : i < (sub1 zs ((m : Int) + 1)).length := by simpa [sub1] using hi
        simp [this]
      rw [e0', e0]
      by_cases hg : (m : Int) + 1 < (i : Int)
      · rw [if_pos hg, if_pos (by omega)]
      · rw [if_neg hg, if_neg (by omega)]

set_option maxRecDepth 100000 in
set_option maxHeartbeats 2000000 in
theorem subtract_any {w : World} {base g n c : Nat} {zs : List Int} (hown : w.ownsRow base 2 1 (.slice (some ⟨g, 0, none⟩) n c) n (iv .i64 zs)) (o : Nat) (ho : o < n) (hn : n ≤ 100000)
    (hb : ∀ z ∈ zs, -2305843009213693952 ≤ z ∧ z ≤ 2305843009213693952) (m d : Nat) (hm : m + o = n) :
    Calls Tryz.prog 151 #[.slice (some ⟨g, o, none⟩) m d] w fun e w' => e = .returned (.tuple #[]) ∧ w'.ownsRow base 2 1 (.slice (some ⟨g, 0, none⟩) n c) n (iv .i64 (sub1 zs (o : Int))) ∧ w.grownBy w' (some g) := by
  have hlen : zs.length = n := by have := hown.1; simpa [iv_length] using this
  have HO := Lib.hid hown
  have HB := Lib.hid hb
  have HL := Lib.hid hlen
  have HM := Lib.hid hm
  have hm1 : 1 ≤ m := by omega
  have hm2 : m ≤ 100000 := by omega
  clear hown hb hlen hm
  go_enter Tryz.func151, Tryz.ntmps151
  go_wp2_with fail
  go_loopw [2] (fun s2 wr => ∃ p : Nat, p < m ∧ s2 = .int .i64 (p : Int) ∧ Hid (wr.ownsRow base 2 1 (.slice (some ⟨g, 0, none⟩) n c) n (iv .i64 (sub1 zs ((o + p : Nat) : Int)))) ∧ Hid (w.grownBy wr (some g))) (fun s2 _ => (intOf s2).toNat)
  case atStart =>
    refine ⟨m - 1, by omega, by rw [show ((m - 1 : Nat) : Int) = (m : Int) - 1 from by omega], Lib.hid ?_, Lib.hid (World.grownBy.refl _ _)⟩
    rw [sub1_same zs _ (by rw [HL.out]; have := HM.out; omega)]
    exact HO.out
  case round =>
    obtain ⟨p, hp, rfl, HO1, HG⟩ := hrel
    rename World => wr
    rcases Nat.eq_zero_or_pos p with hp0 | hpp
    · subst hp0
      go_wp2_with fail
      go_end0
      exact ⟨rfl, HO1.out, HG.out⟩
    · obtain ⟨i, rfl⟩ : ∃ i, p = i + 1 := ⟨p - 1, by omega⟩
      have hoi : o + i + 1 < n := by have := HM.out; omega
      obtain ⟨x, hx⟩ : ∃ x, x = zs.getD (o + i + 1) 0 := ⟨_, rfl⟩
      obtain ⟨y, hy⟩ : ∃ y, y = zs.getD (o + i) 0 := ⟨_, rfl⟩
      have hxb : -2305843009213693952 ≤ x ∧ x ≤ 2305843009213693952 := by rw [hx]; exact getD_mem_or HB.out (by omega) _
      have hyb : -2305843009213693952 ≤ y ∧ y ≤ 2305843009213693952 := by rw [hy]; exact getD_mem_or HB.out (by omega) _
      have c1 : wr.cell? ⟨g, o + (i + 1), none⟩ = some (.int .i64 x) := by
        rw [HO1.out.cellAt (o + (i + 1)) (by omega), iv_get _ _ _ (by rw [sub1_len, HL.out]; omega), sub1_get _ _ _ (by rw [HL.out]; omega), if_neg (by omega), hx]; rfl
      have c2 : wr.cell? ⟨g, o + i, none⟩ = some (.int .i64 y) := by
        rw [HO1.out.cellAt (o + i) (by omega), iv_get _ _ _ (by rw [sub1_len, HL.out]; omega), sub1_get _ _ _ (by rw [HL.out]; omega), if_neg (by omega), hy]
      have f1 := HO1.out.frozenAt (o + (i + 1))
      have hst := HO1.out.stored (o + (i + 1)) (.int .i64 (x - y))
      rw [iv_set, show ((o + (i + 1) : Nat) : Int) = ((o + i : Nat) : Int) + 1 from by omega, show o + (i + 1) = o + i + 1 from rfl, hx, hy, sub1_set zs (o + i) (by rw [HL.out]; omega), ← hx, ← hy] at hst
      have HST := Lib.hid hst
      clear hx hy hst
      obtain ⟨hx1, hx2⟩ := hxb
      obtain ⟨hy1, hy2⟩ := hyb
      go_wp2_with fail
      go_region
      go_wp2_with fail
      go_roundw
      case rel =>
        exact ⟨i, by omega, by go_num, Lib.hid HST.out.1.drew, Lib.hid (HG.out.trans' (HST.out.2.trans' ⟨rfl, rfl, rfl, Nat.le_refl _, fun _ _ _ => rfl⟩))⟩
      case measure => simp [intOf]

theorem sub1_one (l : List Int) : sub1 l ((0 : Nat) : Int) = tl l 1 := by
  unfold sub1 tl
  apply List.map_congr_left
  intro j hj
  unfold tn
  rcases Nat.eq_zero_or_pos j with rfl | hp
  · simp
  · rw [if_pos (by omega), if_neg (by omega), if_pos (.inl rfl)]
theorem sub1_two (l : List Int) : sub1 (tl l 1) ((1 : Nat) : Int) = tl l 2 := by
  unfold sub1
  rw [tl_length]
  unfold tl
  apply List.map_congr_left
  intro j hj
  have hjl : j < l.length := by simpa using hj
  have g : ∀ i, i < l.length → ((List.range l.length).map (tn l 1)).getD i 0 = tn l 1 i := fun i hi => tl_get l 1 i hi
  rw [g j hjl, g (j - 1) (by omega)]
  by_cases h1 : 1 < j
  · have t1 : tn l 1 j = l.getD j 0 - l.getD (j - 1) 0 := by unfold tn; rw [if_neg (by omega), if_pos (.inl rfl)]
    have t2 : tn l 1 (j - 1) = l.getD (j - 1) 0 - l.getD (j - 2) 0 := by
      unfold tn; rw [if_neg (by omega), if_pos (.inl rfl), show j - 1 - 1 = j - 2 from by omega]
    have t3 : tn l 2 j = l.getD j 0 - 2 * l.getD (j - 1) 0 + l.getD (j - 2) 0 := by unfold tn; rw [if_neg (by omega), if_neg (by omega)]
    rw [if_pos (by omega), t1, t2, t3]
    omega
  · rw [if_neg (by omega)]
    rcases Nat.eq_zero_or_pos j with rfl | hp
    · simp [tn]
    · obtain rfl : j = 1 := by omega
      simp [tn]
theorem tl_one_bound {l : List Int} (h : ∀ x ∈ l, -1152921504606846976 ≤ x ∧ x ≤ 1152921504606846976) : ∀ z ∈ tl l 1, -2305843009213693952 ≤ z ∧ z ≤ 2305843009213693952 := by
  intro x hx
  simp only [tl, List.mem_map] at hx
  obtain ⟨i, _, rfl⟩ := hx
  have h0 := getD_mem_or h (by omega) i
  have h1 := getD_mem_or h (by omega) (i - 1)
  unfold tn
  split
  · omega
  · rw [if_pos (.inl rfl)]; omega
theorem tl_zero (l : List Int) {way : Int} (h : way ≤ 0) : tl l way = l := by
  apply List.ext_getElem
  · simp [tl]
  · intro i h1 h2
    have := tl_get l way i h2
    unfold tn at this
    rw [if_pos (.inl h)] at this
    simpa [h1, h2] using this

theorem tl_wf {l : List Int} (h : ∀ x ∈ l, -1152921504606846976 ≤ x ∧ x ≤ 1152921504606846976) (way : Int) : ∀ z ∈ tl l way, (Lit.int .i64 z).wf = true := fun z hz => by
  have := tl_bound h way z hz
  exact wf_i64 ⟨by omega, by omega⟩

/-- what Turn answers -/
def tu (l : List Int) (way : Int) : List Int := if chk l way = 0 then tl l way else []
theorem tu_ok {l : List Int} {way : Int} (h : chk l way = 0) : tu l way = tl l way := by unfold tu; rw [if_pos h]
theorem tu_no {l : List Int} {way : Int} (h : chk l way ≠ 0) : tu l way = [] := by unfold tu; rw [if_neg h]

set_option maxRecDepth 100000 in
set_option maxHeartbeats 2000000 in
theorem turn_any {w : World} {a : Option Addr} {n c : Nat} {zs : List Int} (h : IntsAt .i64 w a n c zs) (way : Int) :
    Calls Tryz.prog 106 #[.slice a n c, .int .i64 way] w fun e w' => ∃ a' n' c', e = .returned (.tuple #[.slice a' n' c', .int .i64 ((chk zs way : Nat) : Int)]) ∧ IntsAt .i64 w' a' n' c' (tu zs way) ∧ Below w.heap.size w w' := by
  have HC := Lib.hid (check_any h way)
  obtain ⟨q, hq⟩ : ∃ q, q = chk zs way := ⟨_, rfl⟩
  rw [← hq] at HC ⊢
  by_cases hq0 : q = 0
  · subst hq0
    obtain ⟨h0, h2, hl, hb⟩ := chk_ok hq.symm
    have htu := tu_ok hq.symm
    have hlen := h.len
    have HL := Lib.hid hlen
    have hn : n ≤ 2048 := by omega
    have HCL := Lib.hid (clone64 h (by omega))
    have HTU := Lib.hid htu
    have HB := Lib.hid hb
    clear h hq htu hlen hb
    have hw : way = 0 ∨ way = 1 ∨ way = 2 := by omega
    rcases hw with rfl | rfl | rfl
    · clear h0 h2
      go_enter Tryz.func106, Tryz.ntmps106
      go_wp2_with fail
      refine HC.out.mono ?_
      rintro e w1 ⟨rfl, rfl⟩
      go_wp2_with fail
      refine HCL.out.mono ?_
      rintro e w1 ⟨v, rfl, hown, hb1⟩
      obtain ⟨a1, c1, rfl, hi, _⟩ := IntsAt.ofOwn hown (fun z hz => wf_i64 (by have := HB.out z hz; omega))
      have HI := Lib.hid hi
      have HB1 := Lib.hid hb1
      clear hown hi hb1
      go_wp2_with fail
      go_ret2
      exact ⟨a1, n, c1, rfl, by rw [HTU.out, tl_zero zs (by omega)]; exact HI.out, HB1.out⟩
    · clear h0 h2
      go_enter Tryz.func106, Tryz.ntmps106
      go_wp2_with fail
      refine HC.out.mono ?_
      rintro e w1 ⟨rfl, rfl⟩
      go_wp2_with fail
      refine HCL.out.mono ?_
      rintro e w1 ⟨v, rfl, hown, hb1⟩
      have HO := Lib.hid hown
      have HB1 := Lib.hid hb1
      obtain ⟨a1, c1, rfl, _, _⟩ := IntsAt.ofOwn hown (fun z hz => wf_i64 (by have := HB.out z hz; omega))
      clear hown hb1
      by_cases hn1 : n ≤ 1
      · have hs : zs = tl zs 1 := by
          rw [← sub1_one, sub1_same zs _ (by rw [HL.out]; omega)]
        have HS := Lib.hid hs
        clear hs
        go_wp2_with fail
        refine (subtract_small hn1).mono ?_
        rintro e w2 ⟨rfl, rfl⟩
        go_wp2_with fail
        go_ret2
        exact ⟨a1, n, c1, rfl, by rw [HTU.out, ← HS.out]; exact IntsAt.own HO.out (fun z hz => wf_i64 (by have := HB.out z hz; omega)), HB1.out⟩
      · obtain ⟨g, rfl⟩ : ∃ g, a1 = some ⟨g, 0, none⟩ := by
          rcases HO.out.2 with ⟨_, h0⟩ | ⟨g, cap, cur, he, _⟩
          · omega
          · simp only [Value.slice.injEq] at he
            exact ⟨g, he.1⟩
        have hsub := subtract_any HO.out 0 (by omega) (by omega) (fun z hz => by have := HB.out z hz; omega) n c1 (by omega)
        have hwg := (HO.out.lt g rfl).1
        have HSB := Lib.hid hsub
        clear hsub
        go_wp2_with fail
        refine HSB.out.mono ?_
        rintro e w2 ⟨rfl, hown2, hg2⟩
        have HO2 := Lib.hid hown2
        have HB2 := Lib.hid (HB1.out.grown hg2 HB1.out.size (fun k hk => by cases hk; exact hwg))
        clear hown2 hg2
        go_wp2_with fail
        go_ret2
        refine ⟨some ⟨g, 0, none⟩, n, c1, rfl, ?_, HB2.out⟩
        have hh := HO2.out
        rw [sub1_one] at hh
        rw [HTU.out]
        exact IntsAt.own hh (tl_wf HB.out 1)
    · clear h0 h2
      go_enter Tryz.func106, Tryz.ntmps106
      go_wp2_with fail
      refine HC.out.mono ?_
      rintro e w1 ⟨rfl, rfl⟩
      go_wp2_with fail
      refine HCL.out.mono ?_
      rintro e w1 ⟨v, rfl, hown, hb1⟩
      have HO := Lib.hid hown
      have HB1 := Lib.hid hb1
      obtain ⟨a1, c1, rfl, _, _⟩ := IntsAt.ofOwn hown (fun z hz => wf_i64 (by have := HB.out z hz; omega))
      clear hown hb1
      by_cases hn1 : n ≤ 1
      · have hs : zs = tl zs 1 := by
          rw [← sub1_one, sub1_same zs _ (by rw [HL.out]; omega)]
        have hs2 : zs = tl zs 2 := by
          rw [← sub1_two, ← hs, sub1_same zs _ (by rw [HL.out]; omega)]
        have HS := Lib.hid hs2
        clear hs hs2
        by_cases hn0 : n = 0
        · subst hn0
          go_wp2_with fail
          refine (subtract_small (by omega)).mono ?_
          rintro e w2 ⟨rfl, rfl⟩
          go_wp2_with fail
          go_ret2
          exact ⟨a1, 0, c1, rfl, by rw [HTU.out, ← HS.out]; exact IntsAt.own HO.out (fun z hz => wf_i64 (by have := HB.out z hz; omega)), HB1.out⟩
        · obtain rfl : n = 1 := by omega
          have hcc : 1 ≤ c1 := (IntsAt.own HO.out (fun z hz => wf_i64 (by have := HB.out z hz; omega))).cap
          clear hn0
          by_cases hc1 : c1 = 1
          · subst hc1
            go_wp2_with fail
            refine (subtract_small (by omega)).mono ?_
            rintro e w2 ⟨rfl, rfl⟩
            go_wp2_with fail
            refine (subtract_small (by omega)).mono ?_
            rintro e w2 ⟨rfl, rfl⟩
            go_wp2_with fail
            go_ret2
            exact ⟨a1, 1, 1, rfl, by rw [HTU.out, ← HS.out]; exact IntsAt.own HO.out (fun z hz => wf_i64 (by have := HB.out z hz; omega)), HB1.out⟩
          · go_wp2_with fail
            refine (subtract_small (by omega)).mono ?_
            rintro e w2 ⟨rfl, rfl⟩
            go_wp2_with fail
            refine (subtract_small (by omega)).mono ?_
            rintro e w2 ⟨rfl, rfl⟩
            go_wp2_with fail
            go_ret2
            exact ⟨a1, 1, c1, rfl, by rw [HTU.out, ← HS.out]; exact IntsAt.own HO.out (fun z hz => wf_i64 (by have := HB.out z hz; omega)), HB1.out⟩
      · obtain ⟨g, rfl⟩ : ∃ g, a1 = some ⟨g, 0, none⟩ := by
          rcases HO.out.2 with ⟨_, h0⟩ | ⟨g, cap, cur, he, _⟩
          · omega
          · simp only [Value.slice.injEq] at he
            exact ⟨g, he.1⟩
        have hsub := subtract_any HO.out 0 (by omega) (by omega) (fun z hz => by have := HB.out z hz; omega) n c1 (by omega)
        have hwg := (HO.out.lt g rfl).1
        have hcc := (IntsAt.own HO.out (fun z hz => wf_i64 (by have := HB.out z hz; omega))).cap
        have HSB := Lib.hid hsub
        have hc1 : ((c1 : Int) == 1) = false := by rw [beq_eq_false_iff_ne]; omega
        have hc2 : ¬ c1 = 1 := by omega
        clear hsub
        go_wp2_with fail
        refine HSB.out.mono ?_
        rintro e w2 ⟨rfl, hown2, hg2⟩
        rw [sub1_one] at hown2
        have HO2 := Lib.hid hown2
        have HB2 := Lib.hid (HB1.out.grown hg2 HB1.out.size (fun k hk => by cases hk; exact hwg))
        have hsub2 := subtract_any hown2 1 (by omega) (by omega) (tl_one_bound HB.out) (n - 1) (c1 - 1) (by omega)
        rw [sub1_two] at hsub2
        have HSB2 := Lib.hid hsub2
        clear hown2 hg2 hsub2
        go_wp2_with fail
        refine HSB2.out.mono ?_
        rintro e w3 ⟨rfl, hown3, hg3⟩
        have HO3 := Lib.hid hown3
        have HB3 := Lib.hid (HB2.out.grown hg3 HB2.out.size (fun k hk => by cases hk; exact hwg))
        clear hown3 hg3
        go_wp2_with fail
        go_ret2
        refine ⟨some ⟨g, 0, none⟩, n, c1, rfl, ?_, HB3.out⟩
        rw [HTU.out]
        exact IntsAt.own HO3.out (tl_wf HB.out 2)
  · have hno := tu_no (l := zs) (way := way) (by rw [← hq]; exact hq0)
    have HN := Lib.hid hno
    have hq1 : ((q : Int) != 0) = true := by rw [bne_iff_ne]; omega
    clear hq hno hq0 h
    go_enter Tryz.func106, Tryz.ntmps106
    go_wp2_with fail
    refine HC.out.mono ?_
    rintro e w1 ⟨rfl, rfl⟩
    go_wp2_with fail
    go_ret2
    exact ⟨none, 0, 0, rfl, by rw [HN.out]; exact IntsAt.empty _ _ _ _ (by omega) (fun _ => rfl), Below.refl _ _⟩
end Go.Proofs.YtpbijdoemdoijaaGreatDoor
end PkCa32_1
