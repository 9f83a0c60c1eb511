/- Texts put together by packtpl2.py: SqLen, SqFix. -/
import Derived.Test.YtpbijdoemdoijaaGreatDoorPkCa4
import Derived.OwnWalk
section PkCa5_0
/- A length's and a distance's symbol, walked. -/
namespace Go.Proofs.YtpbijdoemdoijaaGreatDoor
open Go.RowKit BitsPlain
set_option linter.unusedVariables false

/-- the least x with m < k * 2^x -/
def xOf (k m : Nat) : Nat → Nat → Nat
  | 0, x => x
  | f + 1, x => if k * 2 ^ x ≤ m then xOf k m f (x + 1) else x
def lx (k m : Nat) : Nat := xOf k m 16 0
theorem xOf_ge (k m : Nat) : ∀ f x, x ≤ xOf k m f x
  | 0, x => Nat.le_refl _
  | f + 1, x => by
    simp only [xOf]
    split
    · have := xOf_ge k m f (x + 1); omega
    · omega
theorem xOf_le (k m : Nat) : ∀ f x y, x ≤ y → y < xOf k m f x → k * 2 ^ y ≤ m
  | 0, x, y, h, g => by simp only [xOf] at g; omega
  | f + 1, x, y, h, g => by
    simp only [xOf] at g
    split at g
    · rename_i hc
      rcases Nat.lt_or_ge x y with e | e
      · exact xOf_le k m f (x + 1) y e g
      · obtain rfl : x = y := by omega
        exact hc
    · omega
theorem xOf_gt (k m : Nat) : ∀ f x, m < k * 2 ^ (x + f) → m < k * 2 ^ xOf k m f x
  | 0, x, h => h
  | f + 1, x, h => by
    simp only [xOf]
    split
    · exact xOf_gt k m f (x + 1) (by rw [show x + 1 + f = x + (f + 1) from by omega]; exact h)
    · rename_i hc; omega
theorem xOf_most (k m t : Nat) (h : m < k * 2 ^ t) : ∀ f x, x ≤ t → xOf k m f x ≤ t
  | 0, x, g => g
  | f + 1, x, g => by
    simp only [xOf]
    split
    · rename_i hc
      rcases Nat.lt_or_ge x t with e | e
      · exact xOf_most k m t h f (x + 1) e
      · obtain rfl : x = t := by omega
        omega
    · exact g

/-- a length's symbol, what it has more, how many bits -/
def lenS (n : Nat) : Nat × Nat × Nat := if n = 258 then (28, 0, 0) else (4 * lx 8 (n - 3) + (n - 3) / 2 ^ lx 8 (n - 3), (n - 3) % 2 ^ lx 8 (n - 3), lx 8 (n - 3))
/-- a distance's -/
def distS (n : Nat) : Nat × Nat × Nat := (2 * lx 4 (n - 1) + (n - 1) / 2 ^ lx 4 (n - 1), (n - 1) % 2 ^ lx 4 (n - 1), lx 4 (n - 1))

theorem pow16 {x : Nat} (h : x ≤ 16) : 1 ≤ 2 ^ x ∧ 2 ^ x ≤ 65536 := ⟨Nat.one_le_two_pow, by
  calc 2 ^ x ≤ 2 ^ 16 := Nat.pow_le_pow_right (by omega) h
    _ = 65536 := rfl⟩
theorem and_mask (m x : Nat) (hm : m < 4294967296) (hx : x ≤ 16) : bits .and .i64 (m : Int) (((2 ^ x : Nat) : Int) - 1) = ((m % 2 ^ x : Nat) : Int) := by
  have h := pow16 hx
  rw [← Nat.and_two_pow_sub_one_eq_mod]
  have e1 : ((2 ^ x : Nat) : Int) - 1 = ((2 ^ x - 1 : Nat) : Int) := by omega
  rw [e1]
  have hx2 : m &&& (2 ^ x - 1) ≤ m := Nat.and_le_left
  show IntKind.i64.wrap ((BitVec.ofInt 64 (m : Int) &&& BitVec.ofInt 64 ((2 ^ x - 1 : Nat) : Int)).toNat : Int) = _
  have o1 : (BitVec.ofInt 64 (m : Int)).toNat = m := by rw [BitVec.ofInt_natCast, BitVec.toNat_ofNat]; exact Nat.mod_eq_of_lt (by omega)
  have o2 : (BitVec.ofInt 64 ((2 ^ x - 1 : Nat) : Int)).toNat = 2 ^ x - 1 := by rw [BitVec.ofInt_natCast, BitVec.toNat_ofNat]; exact Nat.mod_eq_of_lt (by omega)
  rw [BitVec.toNat_and, o1, o2, IntKind.wrap_i64]
  omega

set_option maxRecDepth 100000 in
set_option maxHeartbeats 2000000 in
theorem slength_any {w : World} {n : Nat} (h3 : 3 ≤ n) (h258 : n ≤ 258) :
    Calls Tryz.prog 143 #[.int .i64 (n : Int)] w fun e w' => e = .returned (.tuple #[.int .i64 ((lenS n).1 : Int), .int .i64 ((lenS n).2.1 : Int), .int .i64 ((lenS n).2.2 : Int)]) ∧ ∃ q, w' = w.drewN q := by
  by_cases hn : n = 258
  · subst hn
    have HL := Lib.hid (show lenS 258 = (28, 0, 0) from rfl)
    go_enter Tryz.func143, Tryz.ntmps143
    go_wp2_with fail
    go_ret3
    rw [HL.out]
    exact ⟨rfl, 0, rfl⟩
  · obtain ⟨m, hm⟩ : ∃ m, n = m + 3 := ⟨n - 3, by omega⟩
    have hm2 : m < 255 := by omega
    have HL := Lib.hid (show lenS n = (4 * lx 8 m + m / 2 ^ lx 8 m, m % 2 ^ lx 8 m, lx 8 m) from by unfold lenS; rw [if_neg hn, hm]; rfl)
    have hni : (n : Int) ≠ 258 := by omega
    have HX : Hid (∀ y, y < lx 8 m → 8 * 2 ^ y ≤ m) := Lib.hid (fun y hy => xOf_le 8 m 16 0 y (by omega) hy)
    have HG := Lib.hid (show m < 8 * 2 ^ lx 8 m from xOf_gt 8 m 16 0 (by simp; omega))
    have hx5 : lx 8 m ≤ 5 := xOf_most 8 m 5 (by simp; omega) 16 0 (by omega)
    obtain ⟨t, hte⟩ : ∃ t, t = lx 8 m := ⟨_, rfl⟩
    rw [← hte] at HL HX HG hx5
    have hmi : (n : Int) - 3 = (m : Int) := by omega
    have HM := Lib.hid hmi
    clear hte h3 h258 hn
    go_enter Tryz.func143, Tryz.ntmps143
    go_wp2_with fail
    go_loopw [5] (fun s5 wr => ∃ k q : Nat, k ≤ t ∧ s5 = .int .i64 k ∧ Hid (wr = w.drewN q)) (fun s5 _ => t - (intOf s5).toNat)
    case atStart => exact ⟨0, 0, by omega, rfl, Lib.hid rfl⟩
    case round =>
      obtain ⟨k, q, hk, rfl, HW⟩ := hrel
      rename World => wr
      have HWW := HW.out
      subst HWW
      have hp := pow16 (x := k) (by omega)
      obtain ⟨p, hpe⟩ : ∃ p, p = 2 ^ k := ⟨_, rfl⟩
      rw [← hpe] at hp
      have hpi : (2 : Int) ^ k = (p : Int) := by rw [hpe]; push_cast; rfl
      by_cases hkt : k < t
      · have h1 : 8 * p ≤ m := by rw [hpe]; exact HX.out k hkt
        have HP := Lib.hid hpe
        clear hpe
        go_wp2_with fail
        go_roundw
        case rel => exact ⟨k + 1, _, by omega, by go_num, Lib.hid (by first | rfl | rw [World.drewN_drewN])⟩
        case measure => simp [intOf]; omega
      · obtain rfl : k = t := by omega
        have h1 : m < 8 * p := by rw [hpe]; exact HG.out
        have ha := and_mask m k (by omega) (by omega)
        rw [← hpe] at ha
        obtain ⟨d, hd⟩ : ∃ d, d = m / p := ⟨_, rfl⟩
        obtain ⟨r, hr⟩ : ∃ r, r = m % p := ⟨_, rfl⟩
        rw [← hr] at ha
        have hd1 : ((m : Int) / (p : Int)) = (d : Int) := by rw [hd]; push_cast; rfl
        have hdl : d ≤ m := by rw [hd]; exact Nat.div_le_self _ _
        have HDD := Lib.hid (show m / 2 ^ k = d by rw [hd, hpe])
        have HRR := Lib.hid (show m % 2 ^ k = r by rw [hr, hpe])
        clear hd hr
        have HP := Lib.hid hpe
        clear hpe
        go_wp2_with fail
        go_region
        go_wp2_with fail
        go_ret3
        rw [HL.out, HDD.out, HRR.out]
        exact ⟨by go_num, q + 1, rfl⟩

set_option maxRecDepth 100000 in
set_option maxHeartbeats 2000000 in
theorem sdistance_any {w : World} {n : Nat} (h1 : 1 ≤ n) (h2 : n ≤ 32768) :
    Calls Tryz.prog 144 #[.int .i64 (n : Int)] w fun e w' => e = .returned (.tuple #[.int .i64 ((distS n).1 : Int), .int .i64 ((distS n).2.1 : Int), .int .i64 ((distS n).2.2 : Int)]) ∧ ∃ q, w' = w.drewN q := by
  · obtain ⟨m, hm⟩ : ∃ m, n = m + 1 := ⟨n - 1, by omega⟩
    have hm2 : m < 32768 := by omega
    have HL := Lib.hid (show distS n = (2 * lx 4 m + m / 2 ^ lx 4 m, m % 2 ^ lx 4 m, lx 4 m) from by unfold distS; rw [hm]; rfl)
    have HX : Hid (∀ y, y < lx 4 m → 4 * 2 ^ y ≤ m) := Lib.hid (fun y hy => xOf_le 4 m 16 0 y (by omega) hy)
    have HG := Lib.hid (show m < 4 * 2 ^ lx 4 m from xOf_gt 4 m 16 0 (by simp; omega))
    have hx5 : lx 4 m ≤ 13 := xOf_most 4 m 13 (by simp; omega) 16 0 (by omega)
    obtain ⟨t, hte⟩ : ∃ t, t = lx 4 m := ⟨_, rfl⟩
    rw [← hte] at HL HX HG hx5
    have hmi : (n : Int) - 1 = (m : Int) := by omega
    have HM := Lib.hid hmi
    clear hte h1 h2
    go_enter Tryz.func144, Tryz.ntmps144
    go_wp2_with fail
    go_loopw [5] (fun s5 wr => ∃ k q : Nat, k ≤ t ∧ s5 = .int .i64 k ∧ Hid (wr = w.drewN q)) (fun s5 _ => t - (intOf s5).toNat)
    case atStart => exact ⟨0, 0, by omega, rfl, Lib.hid rfl⟩
    case round =>
      obtain ⟨k, q, hk, rfl, HW⟩ := hrel
      rename World => wr
      have HWW := HW.out
      subst HWW
      have hp := pow16 (x := k) (by omega)
      obtain ⟨p, hpe⟩ : ∃ p, p = 2 ^ k := ⟨_, rfl⟩
      rw [← hpe] at hp
      have hpi : (2 : Int) ^ k = (p : Int) := by rw [hpe]; push_cast; rfl
      by_cases hkt : k < t
      · have h1 : 4 * p ≤ m := by rw [hpe]; exact HX.out k hkt
        have HP := Lib.hid hpe
        clear hpe
        go_wp2_with fail
        go_roundw
        case rel => exact ⟨k + 1, _, by omega, by go_num, Lib.hid (by first | rfl | rw [World.drewN_drewN])⟩
        case measure => simp [intOf]; omega
      · obtain rfl : k = t := by omega
        have h1 : m < 4 * p := by rw [hpe]; exact HG.out
        have ha := and_mask m k (by omega) (by omega)
        rw [← hpe] at ha
        obtain ⟨d, hd⟩ : ∃ d, d = m / p := ⟨_, rfl⟩
        obtain ⟨r, hr⟩ : ∃ r, r = m % p := ⟨_, rfl⟩
        rw [← hr] at ha
        have hd1 : ((m : Int) / (p : Int)) = (d : Int) := by rw [hd]; push_cast; rfl
        have hdl : d ≤ m := by rw [hd]; exact Nat.div_le_self _ _
        have HDD := Lib.hid (show m / 2 ^ k = d by rw [hd, hpe])
        have HRR := Lib.hid (show m % 2 ^ k = r by rw [hr, hpe])
        clear hd hr
        have HP := Lib.hid hpe
        clear hpe
        go_wp2_with fail
        go_region
        go_wp2_with fail
        go_ret3
        rw [HL.out, HDD.out, HRR.out]
        exact ⟨by go_num, q + 1, rfl⟩

def t0 : Nat × Nat × Nat := (0, 0, 0)
structure TksAt (w : World) (a : Option Addr) (n c : Nat) (l : List (Nat × Nat × Nat)) : Prop where
  len : l.length = n
  cap : n ≤ c
  capm : c ≤ 9223372036854775807
  nl : a = none → c = 0
  cells : 0 < n → ∃ g off, a = some ⟨g, off, none⟩ ∧ g < w.heap.size ∧ ∀ i, i < n → w.cell? ⟨g, off + i * 3, none⟩ = some (.int .i64 ((l.getD i t0).1 : Int)) ∧ w.cell? ⟨g, off + i * 3 + 1, none⟩ = some (.int .i64 ((l.getD i t0).2.1 : Int)) ∧ w.cell? ⟨g, off + i * 3 + 2, none⟩ = some (.int .u8 ((l.getD i t0).2.2 : Int))
theorem TksAt.keep {w w' : World} {a : Option Addr} {n c : Nat} {l : List (Nat × Nat × Nat)} (h : TksAt w a n c l) {B : Nat} (hb : Below B w w') (hB : w.heap.size ≤ B) : TksAt w' a n c l :=
  ⟨h.len, h.cap, h.capm, h.nl, fun hn => by
    obtain ⟨b, off, ha, hlt, hc⟩ := h.cells hn
    exact ⟨b, off, ha, Nat.lt_of_lt_of_le hlt hb.size, fun i hi => ⟨(hb.cell (p := ⟨b, off + i * 3, none⟩) (Nat.lt_of_lt_of_le hlt hB)).trans (hc i hi).1, (hb.cell (p := ⟨b, off + i * 3 + 1, none⟩) (Nat.lt_of_lt_of_le hlt hB)).trans (hc i hi).2.1, (hb.cell (p := ⟨b, off + i * 3 + 2, none⟩) (Nat.lt_of_lt_of_le hlt hB)).trans (hc i hi).2.2⟩⟩⟩
theorem TksAt.kept {w w' : World} {a : Option Addr} {n c : Nat} {l : List (Nat × Nat × Nat)} (h : TksAt w a n c l) (hb : Below w.heap.size w w') : TksAt w' a n c l := h.keep hb (Nat.le_refl _)
theorem tcs_at : ∀ (l : List (Nat × Nat × Nat)) (i : Nat), i < l.length → (tcs l)[i * 3]? = some (.int .i64 ((l.getD i t0).1 : Int)) ∧ (tcs l)[i * 3 + 1]? = some (.int .i64 ((l.getD i t0).2.1 : Int)) ∧ (tcs l)[i * 3 + 2]? = some (.int .u8 ((l.getD i t0).2.2 : Int))
  | x :: r, 0, h => ⟨rfl, rfl, rfl⟩
  | x :: r, i + 1, h => by
    have ih := tcs_at r i (by simp at h; omega)
    have e : tcs (x :: r) = (tc x).toList ++ tcs r := rfl
    have e3 : (tc x).toList.length = 3 := rfl
    have k : ∀ j, (tcs (x :: r))[(i + 1) * 3 + j]? = (tcs r)[i * 3 + j]? := fun j => by
      rw [e, List.getElem?_append_right (by rw [e3]; omega), e3]
      congr 1
      omega
    have g : (x :: r).getD (i + 1) t0 = r.getD i t0 := rfl
    rw [g]
    exact ⟨(k 0).trans ih.1, (k 1).trans ih.2.1, (k 2).trans ih.2.2⟩
theorem TksAt.ofOwn {w : World} {base n : Nat} {e : TypeId} {v : Value} {l : List (Nat × Nat × Nat)} (h : w.ownsRow base e 3 v n (tcs l)) (hn : l.length = n) : ∃ a c, v = .slice a n c ∧ TksAt w a n c l := by
  rcases h.2 with ⟨rfl, h0⟩ | ⟨g, cap, cur, rfl, hg, hh, hnc, hcap, hsz, htake⟩
  · subst h0
    exact ⟨none, 0, rfl, hn, Nat.zero_le _, by omega, fun _ => rfl, fun h => absurd h (Nat.lt_irrefl 0)⟩
  · refine ⟨_, cap, rfl, hn, hnc, by unfold maxLen at hcap; exact hcap, (fun e => by cases e), fun hp => ⟨g, 0, rfl, (Array.getElem?_eq_some_iff.1 hh).1, fun i hi => ?_⟩⟩
    have h2 := tcs_at l i (by omega)
    have hcu : ∀ j, j < n * 3 → w.cell? ⟨g, 0 + j, none⟩ = (tcs l)[j]? := by
      intro j hj
      rw [Nat.zero_add, cell_of_row w _ _ _ _ (0, 0) hh, ← htake, List.getElem?_take_of_lt hj, Array.getElem?_toList]
    rw [show 0 + i * 3 + 1 = 0 + (i * 3 + 1) from by omega, show 0 + i * 3 + 2 = 0 + (i * 3 + 2) from by omega, hcu _ (by omega), hcu _ (by omega), hcu _ (by omega)]
    exact h2

/-- a byte, or a stretch -/
def TokOk (t : Nat × Nat × Nat) : Prop := (t.1 = 0 ∧ t.2.1 = 0 ∧ t.2.2 < 256) ∨ (3 ≤ t.1 ∧ t.1 ≤ 258 ∧ 1 ≤ t.2.1 ∧ t.2.1 ≤ 32768 ∧ t.2.2 = 0)
theorem tokAt_says {b : List Nat} (hb : ∀ x ∈ b, x < 256) {p : Nat} (hp : p < b.length) : (tokAt b p = (0, 0, b.getD p 0) ∧ b.getD p 0 < 256) ∨ (∃ n d, tokAt b p = (n, d, 0) ∧ 3 ≤ n ∧ n ≤ 258 ∧ 1 ≤ d ∧ d ≤ 32768 ∧ d ≤ p ∧ p + n ≤ b.length ∧ ∀ k, k < n → b.getD (p - d + k) 0 = b.getD (p + k) 0) := by
  have hx : b.getD p 0 < 256 := by
    have e1 : b.getD p 0 = b[p] := by simp [hp]
    rw [e1]
    exact hb _ (List.getElem_mem hp)
  have hl := bestD_le (b := b) (i := p) (d := min p 32768)
  unfold tokAt
  simp only
  rcases bestD_says (b := b) (i := p) (d := min p 32768) with h | ⟨h1, h2, h3, h4⟩
  · rw [h, if_pos rfl]; exact Or.inl ⟨rfl, hx⟩
  · rw [if_neg (by omega)]
    unfold most at hl
    refine Or.inr ⟨_, _, rfl, h1, by omega, h2, by omega, by omega, by omega, fun k hk => ?_⟩
    exact like_eq (by rw [← h4]; exact hk)
theorem toksFrom_ok {b : List Nat} (hb : ∀ x ∈ b, x < 256) : ∀ {f p : Nat}, ∀ t ∈ toksFrom b f p, TokOk t
  | 0, p, t, h => by simp [toksFrom] at h
  | f + 1, p, t, h => by
    simp only [toksFrom] at h
    split at h
    · rename_i hp
      rcases List.mem_cons.1 h with rfl | h
      · rcases tokAt_says hb hp with ⟨e, hx⟩ | ⟨n, d, e, h1, h2, h3, h4, _⟩
        · rw [e]; exact Or.inl ⟨rfl, rfl, hx⟩
        · rw [e]; exact Or.inr ⟨h1, h2, h3, h4, rfl⟩
      · exact toksFrom_ok hb t h
    · cases h
theorem toks_ok {b : List Nat} (hb : ∀ x ∈ b, x < 256) : ∀ t ∈ toks b, TokOk t := toksFrom_ok hb
theorem tok_mem {l : List (Nat × Nat × Nat)} {i : Nat} (h : i < l.length) : l.getD i t0 ∈ l := by
  have : l.getD i t0 = l[i] := by simp [h]
  rw [this]; exact List.getElem_mem h

/-- a token's bits -/
def tbits (t : Nat × Nat × Nat) : List Nat := if t.1 = 0 then lcode t.2.2 else lcode (257 + (lenS t.1).1) ++ bitsOf (lenS t.1).2.1 (lenS t.1).2.2 ++ codeOf (distS t.2.1).1 5 5 ++ bitsOf (distS t.2.1).2.1 (distS t.2.1).2.2
def fixTo (l : List (Nat × Nat × Nat)) (i : Nat) : List Nat := bitsOf 1 1 ++ bitsOf 1 2 ++ (l.take i).flatMap tbits
def fxB (l : List (Nat × Nat × Nat)) : List Nat := fixTo l l.length ++ lcode 256
theorem fixTo_step {l : List (Nat × Nat × Nat)} {i : Nat} (h : i < l.length) : fixTo l (i + 1) = fixTo l i ++ tbits (l.getD i t0) := by
  have e : l.take (i + 1) = l.take i ++ [l.getD i t0] := by
    rw [List.take_add_one, List.getElem?_eq_getElem h]
    simp [h]
  unfold fixTo
  rw [e]
  simp
theorem fixTo_le (l : List (Nat × Nat × Nat)) (i : Nat) : (fixTo l i).length ≤ (fixTo l l.length).length := by
  have e : l.take l.length = l.take i ++ l.drop i := by rw [List.take_length, List.take_append_drop]
  unfold fixTo
  rw [e]
  simp only [List.flatMap_append, List.length_append]
  omega
theorem lcode_len (s : Nat) : (lcode s).length ≤ 9 := by
  unfold lcode
  rw [codeOf_length]
  unfold lw
  split <;> (try split) <;> (try split) <;> simp
theorem lenS_ok {n : Nat} (h3 : 3 ≤ n) (h : n ≤ 258) : (lenS n).1 ≤ 28 ∧ (lenS n).2.1 < 32 ∧ (lenS n).2.2 ≤ 5 := by
  unfold lenS
  split
  · simp
  · have g := xOf_gt 8 (n - 3) 16 0 (by simp; omega)
    have h5 : lx 8 (n - 3) ≤ 5 := xOf_most 8 (n - 3) 5 (by simp; omega) 16 0 (by omega)
    have e : xOf 8 (n - 3) 16 0 = lx 8 (n - 3) := rfl
    rw [e] at g
    obtain ⟨x, hx⟩ : ∃ x, x = lx 8 (n - 3) := ⟨_, rfl⟩
    rw [← hx] at g h5 ⊢
    have hd : (n - 3) / 2 ^ x < 8 := (Nat.div_lt_iff_lt_mul (Nat.two_pow_pos x)).2 g
    have hr : (n - 3) % 2 ^ x < 2 ^ x := Nat.mod_lt _ (Nat.two_pow_pos x)
    have hp : 2 ^ x ≤ 2 ^ 5 := Nat.pow_le_pow_right (by omega) h5
    refine ⟨?_, by simp only; omega, h5⟩
    simp only
    rcases Nat.lt_or_ge x 5 with g5 | g5
    · omega
    · obtain rfl : x = 5 := by omega
      omega
theorem distS_ok {n : Nat} (h1 : 1 ≤ n) (h : n ≤ 32768) : (distS n).1 ≤ 29 ∧ (distS n).2.1 < 8192 ∧ (distS n).2.2 ≤ 13 := by
  unfold distS
  have g := xOf_gt 4 (n - 1) 16 0 (by simp; omega)
  have h5 : lx 4 (n - 1) ≤ 13 := xOf_most 4 (n - 1) 13 (by simp; omega) 16 0 (by omega)
  have e : xOf 4 (n - 1) 16 0 = lx 4 (n - 1) := rfl
  rw [e] at g
  obtain ⟨x, hx⟩ : ∃ x, x = lx 4 (n - 1) := ⟨_, rfl⟩
  rw [← hx] at g h5 ⊢
  have hd : (n - 1) / 2 ^ x < 4 := (Nat.div_lt_iff_lt_mul (Nat.two_pow_pos x)).2 g
  have hr : (n - 1) % 2 ^ x < 2 ^ x := Nat.mod_lt _ (Nat.two_pow_pos x)
  have hp : 2 ^ x ≤ 2 ^ 13 := Nat.pow_le_pow_right (by omega) h5
  refine ⟨?_, by simp only; omega, h5⟩
  simp only
  rcases Nat.lt_or_ge x 13 with g5 | g5
  · omega
  · obtain rfl : x = 13 := by omega
    omega
/-- eleven bits for each byte, no more -/
theorem tbits_len {t : Nat × Nat × Nat} (h : TokOk t) : (tbits t).length ≤ 11 * max 1 t.1 := by
  unfold tbits
  rcases h with ⟨h1, h2, h3⟩ | ⟨h1, h2, h3, h4, h5⟩
  · rw [if_pos h1]
    have := lcode_len t.2.2
    omega
  · rw [if_neg (by omega)]
    have := lcode_len (257 + (lenS t.1).1)
    have := lenS_ok h1 h2
    have := distS_ok h3 h4
    simp only [List.length_append, bitsOf_length, codeOf_length]
    have h0 : (lcode (257 + (lenS t.1).1)).length ≤ 8 := by
      unfold lcode
      rw [codeOf_length]
      unfold lw
      rw [if_neg (by omega), if_neg (by omega)]
      split <;> simp
    rcases Nat.lt_or_ge t.1 11 with g | g
    · have e : (lenS t.1).2.2 = 0 := by
        unfold lenS
        rw [if_neg (by omega)]
        have : lx 8 (t.1 - 3) ≤ 0 := xOf_most 8 (t.1 - 3) 0 (by simp; omega) 16 0 (by omega)
        simp only
        omega
      omega
    · omega
theorem sq_flat_len {b : List Nat} (hb : ∀ x ∈ b, x < 256) : ∀ {f p : Nat}, b.length - p ≤ f → ((toksFrom b f p).flatMap tbits).length ≤ 11 * (b.length - p)
  | 0, p, h => by simp [toksFrom]
  | f + 1, p, h => by
    simp only [toksFrom]
    split
    · rename_i hp
      have h1 := tok_pos hp
      have ih := sq_flat_len hb (f := f) (p := p + max 1 (tokAt b p).1) (by omega)
      have h2 : TokOk (tokAt b p) := by
        rcases tokAt_says hb hp with ⟨e, hx⟩ | ⟨n, d, e, g1, g2, g3, g4, _⟩
        · rw [e]; exact Or.inl ⟨rfl, rfl, hx⟩
        · rw [e]; exact Or.inr ⟨g1, g2, g3, g4, rfl⟩
      have h3 := tbits_len h2
      simp only [List.flatMap_cons, List.length_append]
      omega
    · simp
theorem fxB_len {b : List Nat} (hb : ∀ x ∈ b, x < 256) : (fxB (toks b)).length ≤ 11 * b.length + 12 := by
  have h := sq_flat_len hb (f := b.length) (p := 0) (by omega)
  have h9 := lcode_len 256
  have e : (toks b).take (toks b).length = toks b := List.take_length
  unfold fxB fixTo
  rw [e]
  simp only [List.length_append, bitsOf_length]
  unfold toks
  omega
end Go.Proofs.YtpbijdoemdoijaaGreatDoor
end PkCa5_0
section PkCa5_1
/- The form Fixed, walked. -/
namespace Go.Proofs.YtpbijdoemdoijaaGreatDoor
open Go.RowKit BitsPlain
set_option linter.unusedVariables false

theorem wr_new (w : World) (base : Nat) (hb : base ≤ w.heap.size + 1) : WrAt (w.alloc (.cells #[.slice none 0 0, .int .i64 0] 97)) w.heap.size base (.slice none 0 0) [] :=
  ⟨heap_alloc_new _ _, World.ownsRow_nil _ _ _ _, fun x hx => by cases hx⟩
theorem WrAt.grow {w w' : World} {B base : Nat} {v : Value} {l : List Nat} (h : WrAt w B base v l) (hb : Below w.heap.size w w') : WrAt w' B base v l :=
  ⟨(hb.block B h.lt).trans h.blk, own_below h.own hb, h.bin⟩
theorem WrAt.drewN {w : World} {B base : Nat} {v : Value} {l : List Nat} (h : WrAt w B base v l) (q : Nat) : WrAt (w.drewN q) B base v l := ⟨h.blk, h.own, h.bin⟩

theorem lcode_ge (s : Nat) : 7 ≤ (lcode s).length := by
  unfold lcode
  rw [codeOf_length]
  unfold lw
  split <;> (try split) <;> (try split) <;> simp

/-- a writer under way: its row lies in new memory; a block T beside it -/
structure Wk (w0 w : World) (B base : Nat) (v : Value) (l : List Nat) (T : Nat) (o : Obj) : Prop where
  wr : WrAt w B base v l
  n0 : w0.heap.size ≤ B
  n1 : w0.heap.size ≤ base
  sz : base ≤ w.heap.size
  bel : Below w0.heap.size w0 w
  tb : w.heap[T]? = some o
  tB : T ≠ B
  tv : some T ≠ v.ownBlock
theorem Wk.lt {w0 w : World} {B base : Nat} {v : Value} {l : List Nat} {T : Nat} {o : Obj} (h : Wk w0 w B base v l T o) : T < w.heap.size := (Array.getElem?_eq_some_iff.1 h.tb).1
theorem Wk.step {w0 w w' : World} {B base : Nat} {v v' : Value} {l l' : List Nat} {T : Nat} {o : Obj} (h : Wk w0 w B base v l T o) (h1 : WrAt w' B base v' l') (h2 : Touch w w' B v) (h3 : Went w v v') : Wk w0 w' B base v' l' T o :=
  ⟨h1, h.n0, h.n1, Nat.le_trans h.sz h2.size, Touch.below h.bel h2 h.n0 (fun k hk => Nat.le_trans h.n1 (own_block h.wr.own k hk)), (h2.block T h.lt h.tB h.tv).trans h.tb, h.tB, by
    rcases h3 with e | ⟨g, e, hg⟩
    · rw [e]; exact h.tv
    · rw [e]; intro e2; have := Option.some.inj e2; have := h.lt; omega⟩
theorem Wk.drewN {w0 w : World} {B base : Nat} {v : Value} {l : List Nat} {T : Nat} {o : Obj} (h : Wk w0 w B base v l T o) (q : Nat) : Wk w0 (w.drewN q) B base v l T o := ⟨h.wr.drewN q, h.n0, h.n1, h.sz, bdrewN h.bel q, h.tb, h.tB, h.tv⟩
/-- a new block beside it -/
theorem Wk.beside {w0 w : World} {B base : Nat} {v : Value} {l : List Nat} (h1 : WrAt w B base v l) (hn0 : w0.heap.size ≤ B) (hn1 : w0.heap.size ≤ base) (hs : base ≤ w.heap.size) (hb : Below w0.heap.size w0 w) (cs : Array Value) (ty : TypeId) : Wk w0 (w.alloc (.cells cs ty)) B base v l w.heap.size (.cells cs ty (0, 0)) :=
  ⟨h1.grow ((Below.refl _ _).alloc (Nat.le_refl _) _), hn0, hn1, Nat.le_trans hs ((Below.refl w.heap.size w).alloc (Nat.le_refl _) _).size, hb.alloc hb.size _, heap_alloc_new _ _, fun e => by have := h1.lt; omega, fun e => by have := own_lt h1.own w.heap.size e.symm; omega⟩

set_option maxRecDepth 100000 in
set_option maxHeartbeats 4000000 in
theorem fixed_any {w : World} {a : Option Addr} {n c : Nat} {l : List (Nat × Nat × Nat)} (h : TksAt w a n c l) (hok : ∀ t ∈ l, TokOk t) (hlen : (fxB l).length ≤ 9999990) (hn : n ≤ 100000) :
    Calls Tryz.prog 103 #[.slice a n c] w fun e w' => ∃ a' c', e = .returned (.slice a' (pack (fxB l)).length c') ∧ BytesAt w' a' (pack (fxB l)).length c' (pack (fxB l)) ∧ Below w.heap.size w w' := by
  have hnew := wr_new w w.heap.size (by omega)
  obtain ⟨w1, hw1⟩ : ∃ w1, w1 = w.alloc (.cells #[.slice none 0 0, .int .i64 0] 97) := ⟨_, rfl⟩
  have b1 : Below w.heap.size w w1 := by rw [hw1]; exact (Below.refl _ _).alloc (Nat.le_refl _) _
  rw [← hw1] at hnew
  have h1s := wbits_any hnew b1.size 1 (by omega) 1 (by omega) (by simp)
  have H1 := Lib.hid h1s
  have HH := Lib.hid h
  have HOK := Lib.hid hok
  have HLN := Lib.hid hlen
  have hll := h.len
  have hcap := h.cap
  have hcm := h.capm
  have HW1 := Lib.hid hw1
  have HB1 := Lib.hid b1
  have HNW := Lib.hid hnew
  clear h hok hlen h1s b1 hnew
  go_enter Tryz.func103, Tryz.ntmps103
  go_wp2_with fail
  rw [← HW1.out]
  refine H1.out.mono ?_
  rintro e w2 ⟨rfl, v2, h2, t2, g2⟩
  have s2 : w.heap.size ≤ w2.heap.size := Nat.le_trans HB1.out.size t2.size
  have b2 : Below w.heap.size w w2 := Touch.below HB1.out t2 (Nat.le_refl _) (fun k hk => by cases hk)
  have HB2 := Lib.hid b2
  have H2 := Lib.hid (wbits_any h2 s2 1 (by omega) 2 (by omega) (by simp [bitsOf_length]))
  have O2 := Lib.hid h2.own
  clear h2 t2 g2 b2
  go_wp2_with fail
  refine H2.out.mono ?_
  rintro e w3 ⟨rfl, v3, h3, t3, g3⟩
  have s3 := t3.size
  have HB3 := Lib.hid (show Below w.heap.size w w3 from Touch.below HB2.out t3 (Nat.le_refl _) (own_block O2.out))
  have H3 := Lib.hid (show WrAt w3 w.heap.size w.heap.size v3 (fixTo l 0) from by simpa [fixTo] using h3)
  clear h3 t3 g3
  go_wp2_with fail
  go_loopw [14] (fun s14 wr => ∃ (i : Nat) (v : Value), i ≤ n ∧ s14 = .int .i64 i ∧ Hid (WrAt wr w.heap.size w.heap.size v (fixTo l i)) ∧ Hid (Below w.heap.size w wr)) (fun s14 _ => n - (intOf s14).toNat)
  case atStart => exact ⟨0, v3, by omega, rfl, H3, HB3⟩
  case round =>
    obtain ⟨i, v, hi, rfl, HW, HB⟩ := hrel
    rename World => wr
    have HSZ := Lib.hid HB.out.size
    by_cases hin : i < n
    · obtain ⟨g, off, ha, hg, hc⟩ := (HH.out.kept HB.out).cells (by omega)
      subst ha
      obtain ⟨⟨t1, t2, t3⟩, ht⟩ : ∃ t, t = l.getD i t0 := ⟨_, rfl⟩
      have hto := HOK.out _ (tok_mem (l := l) (i := i) (by omega))
      have x := hc i hin
      have hst := fixTo_step (l := l) (i := i) (by omega)
      have hle := fixTo_le l (i + 1)
      have hln := HLN.out
      unfold fxB at hln
      rw [hst, ← ht] at hle
      rw [← ht] at x hto hst
      obtain ⟨x0, x1, x2⟩ := x
      simp only at x0 x1 x2
      clear hc ht
      have h256 := lcode_ge 256
      simp only [List.length_append] at hle hln
      obtain ⟨wa, hwa⟩ : ∃ wa, wa = wr.alloc (.cells #[.int .i64 (t1 : Int), .int .i64 (t2 : Int), .int .u8 (t3 : Int)] 165) := ⟨_, rfl⟩
      obtain ⟨T, hT⟩ : ∃ T, T = wr.heap.size := ⟨_, rfl⟩
      have hk : Wk w wa w.heap.size w.heap.size v (fixTo l i) T (.cells #[.int .i64 (t1 : Int), .int .i64 (t2 : Int), .int .u8 (t3 : Int)] 165 (0, 0)) := by
        rw [hwa, hT]; exact Wk.beside HW.out (Nat.le_refl _) (Nat.le_refl _) HSZ.out HB.out _ _
      have m0 := cell_of hk.tb (i := 0) (u := .int .i64 (t1 : Int)) rfl
      have m2 := cell_of hk.tb (i := 2) (u := .int .u8 (t3 : Int)) rfl
      have HT := Lib.hid hT
      have HWA := Lib.hid hwa
      have hii : (i : Int) < (l.length : Int) := by omega
      by_cases h0 : t1 = 0
      · have ht3 : t3 < 256 := by rcases hto with ⟨_, _, h⟩ | ⟨h, _⟩ <;> simp only at h <;> omega
        have htb : tbits (t1, t2, t3) = lcode t3 := by unfold tbits; rw [if_pos h0]
        rw [htb] at hle hst
        have hl3 := lcode_ge t3
        have HL := Lib.hid (letter_any hk.wr hk.sz (s := t3) (by omega) (by omega))
        have HK := Lib.hid hk
        have HST := Lib.hid hst
        have hz : ((t1 : Int) == 0) = true := by simp [h0]
        clear hk hto htb hle hst hln h256 hl3 hT hwa h0
        go_wp2_with fail
        rw [← HWA.out]
        try rw [← HT.out]
        go_wp2_with fail
        refine HL.out.mono ?_
        rintro e w4 ⟨rfl, v4, h4, t4, g4⟩
        have HK4 := Lib.hid (HK.out.step h4 t4 g4)
        clear h4 t4 g4
        go_wp2_with fail
        go_roundw
        case rel => exact ⟨i + 1, v4, by omega, by go_num, Lib.hid (by rw [HST.out]; exact HK4.out.wr), Lib.hid HK4.out.bel⟩
        case measure => simp [intOf]; omega
      · have hq : 3 ≤ t1 ∧ t1 ≤ 258 ∧ 1 ≤ t2 ∧ t2 ≤ 32768 := by rcases hto with ⟨h, _⟩ | ⟨h1, h2, h3, h4, _⟩ <;> simp only at * <;> omega
        have htb : tbits (t1, t2, t3) = lcode (257 + (lenS t1).1) ++ bitsOf (lenS t1).2.1 (lenS t1).2.2 ++ codeOf (distS t2).1 5 5 ++ bitsOf (distS t2).2.1 (distS t2).2.2 := by unfold tbits; rw [if_neg h0]
        have hz : ((t1 : Int) == 0) = false := by rw [beq_eq_false_iff_ne]; omega
        have q1 := lenS_ok hq.1 hq.2.1
        have q2 := distS_ok hq.2.2.1 hq.2.2.2
        have HLA := Lib.hid (slength_any (w := wa) hq.1 hq.2.1)
        have HDA := Lib.hid (fun u : World => sdistance_any (w := u) hq.2.2.1 hq.2.2.2)
        obtain ⟨⟨la, lb, lc⟩, hS⟩ : ∃ s, s = lenS t1 := ⟨_, rfl⟩
        obtain ⟨⟨da, db, dc⟩, hD⟩ : ∃ s, s = distS t2 := ⟨_, rfl⟩
        rw [← hS] at q1 htb HLA
        rw [← hD] at q2 htb HDA
        simp only at q1 q2 htb HLA HDA
        obtain ⟨q11, q12, q13⟩ := q1
        obtain ⟨q21, q22, q23⟩ := q2
        rw [htb] at hle hst
        have hl3 := lcode_ge (257 + la)
        simp only [List.length_append, bitsOf_length, codeOf_length] at hle
        have HB0 := Lib.hid (show ∀ (wx : World) (vx : Value), Wk w wx w.heap.size w.heap.size vx (fixTo l i) T (.cells #[.int .i64 (t1 : Int), .int .i64 (t2 : Int), .int .u8 (t3 : Int)] 165 (0, 0)) → _ from fun wx vx hx => letter_any hx.wr hx.sz (s := 257 + la) (by omega) (by omega))
        have HB1 := Lib.hid (show ∀ (wx : World) (vx : Value), Wk w wx w.heap.size w.heap.size vx (fixTo l i ++ lcode (257 + la)) T (.cells #[.int .i64 (t1 : Int), .int .i64 (t2 : Int), .int .u8 (t3 : Int)] 165 (0, 0)) → _ from fun wx vx hx => wbits_any hx.wr hx.sz lb (by omega) lc (by omega) (by simp only [List.length_append]; omega))
        have HB2 := Lib.hid (show ∀ (wx : World) (vx : Value), Wk w wx w.heap.size w.heap.size vx (fixTo l i ++ lcode (257 + la) ++ bitsOf lb lc) T (.cells #[.int .i64 (t1 : Int), .int .i64 (t2 : Int), .int .u8 (t3 : Int)] 165 (0, 0)) → _ from fun wx vx hx => wcode_any hx.wr hx.sz da (by omega) 5 (by omega) (by simp only [List.length_append, bitsOf_length]; omega))
        have HB3 := Lib.hid (show ∀ (wx : World) (vx : Value), Wk w wx w.heap.size w.heap.size vx (fixTo l i ++ lcode (257 + la) ++ bitsOf lb lc ++ codeOf da 5 5) T (.cells #[.int .i64 (t1 : Int), .int .i64 (t2 : Int), .int .u8 (t3 : Int)] 165 (0, 0)) → _ from fun wx vx hx => wbits_any hx.wr hx.sz db (by omega) dc (by omega) (by simp only [List.length_append, bitsOf_length, codeOf_length]; omega))
        have HK := Lib.hid hk
        have HST := Lib.hid hst
        have HE := Lib.hid (show (257 : Int) + (la : Int) = ((257 + la : Nat) : Int) by omega)
        clear hk hto htb hle hst hln h256 hl3 hT hwa h0 hS hD hq
        go_wp2_with fail
        rw [← HWA.out]
        refine HLA.out.mono ?_
        rintro e w4 ⟨rfl, q4, hw4⟩
        have HK4 := Lib.hid (HK.out.drewN q4)
        rw [← hw4] at HK4
        clear hw4
        go_wp2_with fail
        rw [HE.out]
        refine (HB0.out w4 v HK4.out).mono ?_
        rintro e w5 ⟨rfl, v5, h5, t5, g5⟩
        have HK5 := Lib.hid (HK4.out.step h5 t5 g5)
        clear h5 t5 g5
        go_wp2_with fail
        refine (HB1.out w5 v5 HK5.out).mono ?_
        rintro e w6 ⟨rfl, v6, h6, t6, g6⟩
        have HK6 := Lib.hid (HK5.out.step h6 t6 g6)
        clear h6 t6 g6
        have n1 : w6.cell? ⟨T, 1, none⟩ = _ := cell_of HK6.out.tb (i := 1) (u := .int .i64 (t2 : Int)) rfl
        rw [HT.out] at n1
        go_wp2_with fail
        refine (HDA.out w6).mono ?_
        rintro e w7 ⟨rfl, q7, hw7⟩
        have HK7 := Lib.hid (HK6.out.drewN q7)
        rw [← hw7] at HK7
        clear hw7 n1
        go_wp2_with fail
        refine (HB2.out w7 v6 HK7.out).mono ?_
        rintro e w8 ⟨rfl, v8, h8, t8, g8⟩
        have HK8 := Lib.hid (HK7.out.step h8 t8 g8)
        clear h8 t8 g8
        go_wp2_with fail
        refine (HB3.out w8 v8 HK8.out).mono ?_
        rintro e w9 ⟨rfl, v9, h9, t9, g9⟩
        have HK9 := Lib.hid (HK8.out.step h9 t9 g9)
        clear h9 t9 g9
        go_wp2_with fail
        go_roundw
        case rel => exact ⟨i + 1, v9, by omega, by go_num, Lib.hid (by rw [HST.out]; simpa only [List.append_assoc] using HK9.out.wr), Lib.hid HK9.out.bel⟩
        case measure => simp [intOf]; omega
    · obtain rfl : i = n := by omega
      have hln := HLN.out
      have hfe : fxB l = fixTo l i ++ lcode 256 := by unfold fxB; rw [hll]
      rw [hfe, List.length_append] at hln
      have h256 := lcode_ge 256
      have HL := Lib.hid (letter_any HW.out HSZ.out (s := 256) (by omega) (by omega))
      have HFE := Lib.hid hfe
      have HLN2 := Lib.hid hln
      have O4 := Lib.hid HW.out.own
      clear hfe hln h256
      go_wp2_with fail
      refine HL.out.mono ?_
      rintro e w4 ⟨rfl, v4, h4, t4, g4⟩
      have hb4 := Touch.below HB.out t4 (Nat.le_refl _) (own_block O4.out)
      have HBY := Lib.hid (wbytes_any h4 (by rw [List.length_append]; exact Nat.le_trans HLN2.out (by omega)))
      have HB4 := Lib.hid hb4
      clear h4 t4 g4 hb4
      go_wp2_with fail
      refine HBY.out.mono ?_
      rintro e w5 ⟨a', c', rfl, h5, hb5, hf5⟩
      have H5 := Lib.hid h5
      have HB5 := Lib.hid hb5
      clear h5 hb5 hf5
      go_wp2_with fail
      go_ret
      rw [HFE.out]
      exact ⟨a', c', rfl, H5.out, HB4.out.trans (HB5.out.mono HB4.out.size)⟩
end Go.Proofs.YtpbijdoemdoijaaGreatDoor
end PkCa5_1
