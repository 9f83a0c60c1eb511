/- Texts put together by packtpl2.py: SqLives, NumsPlain, NumsPut, NumsZig, NPuti, NU. -/
import Derived.Test.YtpbijdoemdoijaaGreatDoorPkCa1
import Derived.Test.YtpbijdoemdoijaaGreatDoorPkCa6
import Derived.Lib.SlBytesConst
import Derived.WalkKit
import Derived.Laws.BitsAllLaws
import Derived.Laws.AppendOwnNone
section PkCa7_0
/- Deflate, walked, and layer 7's fixed fact. -/
namespace Go.Proofs.YtpbijdoemdoijaaGreatDoor
open Go.RowKit BitsPlain
set_option linter.unusedVariables false

theorem toksFrom_le {b : List Nat} : ∀ {f p : Nat}, (toksFrom b f p).length ≤ b.length - p
  | 0, p => by simp [toksFrom]
  | f + 1, p => by
    simp only [toksFrom]
    split
    · rename_i hp
      have ih := @toksFrom_le b f (p + max 1 (tokAt b p).1)
      rw [List.length_cons]
      omega
    · exact Nat.zero_le _
theorem toks_le (b : List Nat) : (toks b).length ≤ b.length := by
  have := @toksFrom_le b b.length 0
  unfold toks
  omega
/-- the squeezed text -/
def dfl (b : List Nat) : List Nat := if (pack (storB b)).length ≤ (pack (fxB (toks b))).length then pack (storB b) else pack (fxB (toks b))
theorem dfl_one : dfl [97] = [75, 4, 0] := by decide +kernel
theorem bs_k40 : bs [75, 4, 0] = { data := #[75, 4, 0] } := by decide +kernel

set_option maxRecDepth 100000 in
set_option maxHeartbeats 2000000 in
theorem deflate_any {w : World} {a : Option Addr} {n c : Nat} {b : List Nat} (h : BytesAt w a n c b) (hn : n ≤ 65536) :
    Calls Tryz.prog 63 #[.slice a n c] w fun e w' => ∃ a' c', e = .returned (.tuple #[.slice a' (dfl b).length c', .int .i64 0]) ∧ BytesAt w' a' (dfl b).length c' (dfl b) ∧ Below w.heap.size w w' := by
  have HH := Lib.hid h
  have hll := h.len
  have hby := h.byte
  have hfl := Lib.hid (fxB_len hby)
  have htl := Lib.hid (toks_le b)
  have hok := Lib.hid (toks_ok hby)
  have HT := Lib.hid (tokens_any h hn)
  clear h hby
  go_enter Tryz.func63, Tryz.ntmps63
  go_wp2_with fail
  refine HT.out.mono ?_
  rintro e w1 ⟨v, rfl, ho, hb1⟩
  obtain ⟨a1, c1, rfl, ht1⟩ := TksAt.ofOwn ho rfl
  have HF := Lib.hid (fixed_any ht1 hok.out (by have := hfl.out; omega) (by have := htl.out; omega))
  have HB1 := Lib.hid hb1
  have HH1 := Lib.hid (HH.out.kept hb1)
  clear ho hb1 ht1
  go_wp2_with fail
  refine HF.out.mono ?_
  rintro e w2 ⟨a2, c2, rfl, h2, hb2⟩
  have HB2 := Lib.hid (HB1.out.trans (hb2.mono HB1.out.size))
  have HH2 := Lib.hid (HH1.out.kept hb2)
  have H2 := Lib.hid h2
  have HS := Lib.hid (stored_any HH2.out (by omega))
  clear hb2 h2
  go_wp2_with fail
  refine HS.out.mono ?_
  rintro e w3 ⟨a3, c3, rfl, h3, hb3⟩
  have HB3 := Lib.hid (HB2.out.trans (hb3.mono HB2.out.size))
  have H23 := Lib.hid (H2.out.kept hb3)
  have H3 := Lib.hid h3
  clear hb3 h3
  obtain ⟨s, hs⟩ : ∃ s, s = pack (storB b) := ⟨_, rfl⟩
  obtain ⟨x, hx⟩ : ∃ x, x = pack (fxB (toks b)) := ⟨_, rfl⟩
  obtain ⟨ls, hls⟩ : ∃ ls, ls = s.length := ⟨_, rfl⟩
  obtain ⟨lx, hlx⟩ : ∃ lx, lx = x.length := ⟨_, rfl⟩
  have HD := Lib.hid (show dfl b = if ls ≤ lx then s else x from by unfold dfl; rw [hls, hlx, hs, hx])
  rw [← hs] at H3
  rw [← hx] at H23
  rw [← hs, ← hls, ← hx, ← hlx]
  rw [← hls] at H3
  rw [← hlx] at H23
  have HLS := Lib.hid hls
  have HLX := Lib.hid hlx
  clear hs hx hls hlx
  by_cases hle : ls ≤ lx
  · have hi : (ls : Int) ≤ (lx : Int) := by omega
    have e := HD.out
    rw [if_pos hle] at e
    have HE := Lib.hid e
    clear e hle
    go_wp2_with fail
    first | go_ret2 | go_ret
    rw [HE.out, ← HLS.out]
    exact ⟨a3, c3, rfl, H3.out, HB3.out⟩
  · have hi : ¬ (ls : Int) ≤ (lx : Int) := by omega
    have e := HD.out
    rw [if_neg hle] at e
    have HE := Lib.hid e
    clear e hle
    go_wp2_with fail
    first | go_ret2 | go_ret
    rw [HE.out, ← HLX.out]
    exact ⟨a2, c2, rfl, H23.out, HB3.out⟩

end Go.Proofs.YtpbijdoemdoijaaGreatDoor
end PkCa7_0
section PkCa7_1
/- Plain facts on numbers as few bytes: what PutU and U compute, on lists of naturals. No Go in sight. -/
namespace Go.Proofs.YtpbijdoemdoijaaGreatDoor.NumsPlain

/-- the bytes of a number -/
def pu (n : Nat) : List Nat := if n < 128 then [n] else (128 + n % 128) :: pu (n / 128)
termination_by n
decreasing_by omega

theorem pu_small {n : Nat} (h : n < 128) : pu n = [n] := by rw [pu, if_pos h]
theorem pu_big {n : Nat} (h : 128 ≤ n) : pu n = (128 + n % 128) :: pu (n / 128) := by rw [pu, if_neg (by omega)]

theorem pu_pos (n : Nat) : 1 ≤ (pu n).length := by
  by_cases h : n < 128
  · simp [pu_small h]
  · simp [pu_big (show 128 ≤ n by omega)]

/-- a number below 128 to the k has at most k bytes -/
theorem pu_le : ∀ (k n : Nat), n < 128 ^ (k + 1) → (pu n).length ≤ k + 1
  | 0, n, h => by simp [pu_small (show n < 128 by simpa using h)]
  | k + 1, n, h => by
    by_cases hs : n < 128
    · simp [pu_small hs]
    · rw [pu_big (by omega)]
      have h2 : n / 128 < 128 ^ (k + 1) := by
        rw [Nat.div_lt_iff_lt_mul (by omega)]
        rw [Nat.pow_succ 128 (k + 1)] at h
        exact h
      have := pu_le k (n / 128) h2
      simp; omega

theorem pu_ten {n : Nat} (h : n < 18446744073709551616) : (pu n).length ≤ 10 :=
  pu_le 9 n (Nat.lt_of_lt_of_le h (by decide))

theorem pu_mono : ∀ (k m n : Nat), n < 128 ^ (k + 1) → m ≤ n → (pu m).length ≤ (pu n).length
  | 0, m, n, h, hmn => by
    have h1 : n < 128 := by simpa using h
    rw [pu_small h1, pu_small (show m < 128 by omega)]
    simp
  | k + 1, m, n, h, hmn => by
    by_cases hs : m < 128
    · rw [pu_small hs]; exact pu_pos n
    · have hn : 128 ≤ n := by omega
      rw [pu_big hn, pu_big (show 128 ≤ m by omega)]
      have h2 : n / 128 < 128 ^ (k + 1) := by
        rw [Nat.div_lt_iff_lt_mul (by omega)]
        rw [Nat.pow_succ 128 (k + 1)] at h
        exact h
      have := pu_mono k (m / 128) (n / 128) h2 (Nat.div_le_div_right hmn)
      simp; omega

theorem pu_grows {m n : Nat} (h : n < 18446744073709551616) (hmn : m ≤ n) : (pu m).length ≤ (pu n).length :=
  pu_mono 9 m n (Nat.lt_of_lt_of_le h (by decide)) hmn

/-- each is a byte -/
theorem pu_byte : ∀ (k n : Nat), n < 128 ^ (k + 1) → ∀ x ∈ pu n, x < 256
  | 0, n, h, x, hx => by
    have h1 : n < 128 := by simpa using h
    rw [pu_small h1] at hx
    simp at hx; omega
  | k + 1, n, h, x, hx => by
    by_cases hs : n < 128
    · rw [pu_small hs] at hx
      simp at hx; omega
    · rw [pu_big (by omega)] at hx
      rcases List.mem_cons.1 hx with e | e
      · omega
      · have h2 : n / 128 < 128 ^ (k + 1) := by
          rw [Nat.div_lt_iff_lt_mul (by omega)]
          rw [Nat.pow_succ 128 (k + 1)] at h
          exact h
        exact pu_byte k (n / 128) h2 x e
theorem pu_bytes {n : Nat} (h : n < 18446744073709551616) : ∀ x ∈ pu n, x < 256 := pu_byte 9 n (Nat.lt_of_lt_of_le h (by decide))

/-- what reading a number comes to: the value so far, how many bytes are behind, the bytes ahead; the value, how many bytes, the error (0; 3: ErrShort; 4: ErrForm) -/
def uu : Nat → Nat → List Nat → Nat × Nat × Nat
  | _, _, [] => (0, 0, 3)
  | acc, i, x :: xs =>
    if i = 9 ∧ 1 < x then (0, 0, 4)
    else if 128 ≤ x then uu (acc + x % 128 * 128 ^ i) (i + 1) xs
    else if x = 0 ∧ 0 < i then (0, 0, 4)
    else (acc + x % 128 * 128 ^ i, i + 1, 0)

/-- what was put is read, whatever stands behind it -/
theorem uu_pu : ∀ (k acc i n : Nat) (rest : List Nat), k + i = 9 → n < 128 ^ (k + 1) → (i = 0 ∨ 0 < n) → (n * 128 ^ i < 18446744073709551616) →
    uu acc i (pu n ++ rest) = (acc + n * 128 ^ i, i + (pu n).length, 0)
  | 0, acc, i, n, rest, hki, h, h0, hb => by
    have h1 : n < 128 := by simpa using h
    obtain rfl : i = 9 := by omega
    have hn : n ≤ 1 := by
      rcases Nat.lt_or_ge 1 n with g | g
      · have : 2 * 128 ^ 9 ≤ n * 128 ^ 9 := Nat.mul_le_mul_right _ g
        have e : (2 : Nat) * 128 ^ 9 = 18446744073709551616 := by decide
        omega
      · exact g
    rw [pu_small h1]
    have hpos : 0 < n := by omega
    simp only [List.cons_append, List.nil_append, uu, List.length_cons, List.length_nil]
    rw [if_neg (by omega), if_neg (by omega), if_neg (by omega), Nat.mod_eq_of_lt h1]
  | k + 1, acc, i, n, rest, hki, h, h0, hb => by
    by_cases hs : n < 128
    · rw [pu_small hs]
      simp only [List.cons_append, List.nil_append, uu, List.length_cons, List.length_nil]
      rw [if_neg (by omega), if_neg (by omega), if_neg (by omega), Nat.mod_eq_of_lt hs]
    · have hn : 128 ≤ n := by omega
      rw [pu_big hn]
      simp only [List.cons_append, uu, List.length_cons]
      rw [if_neg (by omega), if_pos (by omega)]
      have h2 : n / 128 < 128 ^ (k + 1) := by
        rw [Nat.div_lt_iff_lt_mul (by omega)]
        rw [Nat.pow_succ 128 (k + 1)] at h
        exact h
      have hd : n / 128 * 128 + n % 128 = n := by omega
      have e1 : n / 128 * 128 ^ (i + 1) + n % 128 * 128 ^ i = n * 128 ^ i := by
        rw [Nat.pow_succ]
        calc n / 128 * (128 ^ i * 128) + n % 128 * 128 ^ i = (n / 128 * 128 + n % 128) * 128 ^ i := by
              rw [Nat.add_mul, Nat.mul_assoc, Nat.mul_comm 128 (128 ^ i)]
          _ = n * 128 ^ i := by rw [hd]
      have hb2 : n / 128 * 128 ^ (i + 1) < 18446744073709551616 := by omega
      rw [uu_pu k _ (i + 1) (n / 128) rest (by omega) h2 (.inr (by omega)) hb2]
      have e2 : (128 + n % 128) % 128 = n % 128 := by omega
      rw [e2]
      have e3 : acc + n % 128 * 128 ^ i + n / 128 * 128 ^ (i + 1) = acc + n * 128 ^ i := by omega
      rw [e3]
      congr 2
      omega

theorem uu_back {n : Nat} (h : n < 18446744073709551616) (rest : List Nat) : uu 0 0 (pu n ++ rest) = (n, (pu n).length, 0) := by
  have := uu_pu 9 0 0 n rest rfl (Nat.lt_of_lt_of_le h (by decide)) (.inl rfl) (by simpa using h)
  simpa using this

/-- none begins another -/
theorem pu_inj {m n : Nat} (hm : m < 18446744073709551616) (hn : n < 18446744073709551616) (h : ∃ r, pu n = pu m ++ r) : m = n := by
  obtain ⟨r, hr⟩ := h
  have h1 := uu_back hm r
  have h2 := uu_back hn []
  rw [List.append_nil, hr, h1] at h2
  exact congrArg Prod.fst h2
end Go.Proofs.YtpbijdoemdoijaaGreatDoor.NumsPlain
end PkCa7_1
section PkCa7_2
/- PutU of package nums, walked: the bytes that it makes are the plain function's, in memory of its own. Condition: the number fits 64 bits. -/
namespace Go.Proofs.YtpbijdoemdoijaaGreatDoor
open Go.RowKit NumsPlain
set_option linter.unusedVariables false

theorem or128_fin : ∀ x : Fin 256, bits .or .u8 ((x.val : Nat) : Int) 128 = ((128 + x.val % 128 : Nat) : Int) := by decide +kernel
theorem or128 (m : Nat) : bits .or .u8 ((m : Int) % 256) 128 = ((128 + m % 128 : Nat) : Int) := by
  have h := or128_fin ⟨m % 256, by omega⟩
  simp only at h
  have e1 : ((m % 256 : Nat) : Int) = (m : Int) % 256 := by omega
  have e2 : m % 256 % 128 = m % 128 := by omega
  rw [e1, e2] at h
  exact h

set_option maxRecDepth 100000 in
set_option maxHeartbeats 1000000 in
theorem putu_any (n : Nat) (hn : n < 18446744073709551616) (w : World) :
    Calls Tryz.prog 64 #[.int .u64 n] w fun e w' => ∃ v, e = .returned v ∧ w'.ownsRow w.heap.size 5 1 v (pu n).length (bv (pu n)) ∧ Below w.heap.size w w' := by
  obtain ⟨i0, hi, hz0, hz1, hz2⟩ := info_parts info_u8
  go_enter Tryz.func64, Tryz.ntmps64
  go_wp2_with (at_make; refine wpList_make_own _ rfl _ _ 27 rfl w.heap.size 5 i0 (.int .u8 0) 1 Tryz.underlying27 hi hz0 hz1 _ _ _ 10 rfl rfl (by omega) ?b2 ?b3 (Nat.le_refl _) ?_)
  case b2 => rw [hz2]; omega
  case b3 => unfold maxLen; omega
  intro w0 hown0 hgrow0
  go_wp2
  go_loopw [0, 3] (fun sn b wr => ∃ (m : Nat) (xs : List Nat), m < 18446744073709551616 ∧ sn = .int .u64 m ∧ wr.ownsRow w.heap.size 5 1 b xs.length (bv xs) ∧ xs ++ pu m = pu n ∧ Below w.heap.size w wr) (fun sn _ _ => (intOf sn).toNat)
  case atStart => exact ⟨n, [], hn, rfl, hown0, rfl, (Below.refl _ _).grown hgrow0 (Nat.le_refl _) (fun k h => by cases h)⟩
  case round =>
    obtain ⟨m, xs, hm, rfl, hown, hx, hnx⟩ := hrel
    have hl : xs.length ≤ 9 := by
      have h1 := congrArg List.length hx
      rw [List.length_append] at h1
      have h2 := pu_pos m
      have h3 := pu_ten hn
      omega
    have hB := hnx.size
    have HX := Lib.hid hx
    have HM := Lib.hid hm
    have HN := Lib.hid hn
    by_cases hlt : m < 128
    · clear hx hm hn
      go_wp2_with (at_builtin; refine wpList_append_own _ rfl (.tmp 15) (.tmp 18) 27 rfl w.heap.size 5 i0 (.int .u8 0) 1 1 Tryz.underlying27 hi hz0 hz1 hz2 rfl (by decide) _ _ _ rfl (hown.alloc _) ⟨wr.heap.size, 0, none⟩ 1 1 [.int .u8 m] rfl rfl ?c1 ?c2 ?c3 ?c4 ?c5 ?_)
      case c1 =>
        intro j u hj
        match j, hj with
        | 0, hj => simp at hj; subst hj; simp [Addr.add]
      case c2 => intro u hu; simp at hu; subst hu; rfl
      case c3 => unfold maxLen; omega
      case c4 => omega
      case c5 => simp; omega
      intro v' w1 hown' hgrow _
      go_wp2
      go_ret
      have hs := pu_small hlt
      have e1 : pu n = xs ++ [m] := by rw [← HX.out, hs]
      refine ⟨v', rfl, ?_, ?_⟩
      · rw [e1]; simpa [bv] using hown'
      · exact (hnx.alloc hnx.size _).grown hgrow (by simp; omega) (fun k hk => (hown.lt k hk).1)
    · clear hx hm hn
      go_wp2_with (at_builtin; refine wpList_append_own _ rfl (.tmp 7) (.tmp 11) 27 rfl w.heap.size 5 i0 (.int .u8 0) 1 1 Tryz.underlying27 hi hz0 hz1 hz2 rfl (by decide) _ _ _ rfl (hown.alloc _) ⟨wr.heap.size, 0, none⟩ 1 1 [.int .u8 (bits .or .u8 ((m : Int) % 256) 128)] rfl rfl ?d1 ?d2 ?d3 ?d4 ?d5 ?_)
      case d1 =>
        intro j u hj
        match j, hj with
        | 0, hj => simp at hj; subst hj; simp [Addr.add]
      case d2 => intro u hu; simp at hu; subst hu; rfl
      case d3 => unfold maxLen; omega
      case d4 => omega
      case d5 => simp; omega
      intro v' w1 hown' hgrow _
      go_wp2
      have hs := pu_big (show 128 ≤ m by omega)
      have hm' := HM.out
      go_roundw
      case rel =>
        refine ⟨m / 128, xs ++ [128 + m % 128], by omega, by go_num, ?_, ?_, ?_⟩
        · rw [or128] at hown'; simpa [bv] using hown'
        · rw [← HX.out, hs]; simp
        · exact (hnx.alloc hnx.size _).grown hgrow (by simp; omega) (fun k hk => (hown.lt k hk).1)
      case measure => simp [intOf]; omega

/-- as a slice of bytes wherever -/
theorem putu (n : Nat) (hn : n < 18446744073709551616) (w : World) :
    Calls Tryz.prog 64 #[.int .u64 n] w fun e w' => ∃ g c, e = .returned (.slice (some ⟨g, 0, none⟩) (pu n).length c) ∧ w.heap.size ≤ g ∧ BytesAt w' (some ⟨g, 0, none⟩) (pu n).length c (pu n) ∧ Below w.heap.size w w' := by
  refine (putu_any n hn w).mono ?_
  rintro e w' ⟨v, rfl, hown, hb⟩
  obtain ⟨g, c, rfl, h1, _, h2⟩ := BytesAt.own hown (pu_bytes hn) (pu_pos n) (by have := pu_ten hn; omega)
  exact ⟨g, c, rfl, h1, h2, hb⟩
end Go.Proofs.YtpbijdoemdoijaaGreatDoor
end PkCa7_2
section PkCa7_3
/- Signed numbers as unsigned ones and back: package nums' Zig, Zag and the document's. Condition: each number fits its 64 bits. -/
namespace Go.Proofs.YtpbijdoemdoijaaGreatDoor
open Go.RowKit
set_option linter.unusedVariables false

theorem xor_ones_u64 (x : Int) : bits .xor .u64 x 18446744073709551615 = IntKind.u64.wrap (-1 - x) := by
  have h : BitVec.ofInt 64 18446744073709551615 = BitVec.allOnes 64 := by decide
  show IntKind.u64.wrap ((BitVec.ofInt 64 x ^^^ BitVec.ofInt 64 18446744073709551615).toNat : Int) = _
  rw [h, BitVec.xor_allOnes, BitVec.toNat_not, BitVec.toNat_ofInt, IntKind.wrap_u64, IntKind.wrap_u64]
  omega
theorem xor_zero_u64 (x : Int) : bits .xor .u64 x 0 = IntKind.u64.wrap x := by
  show IntKind.u64.wrap ((BitVec.ofInt 64 x ^^^ BitVec.ofInt 64 0).toNat : Int) = _
  have h : BitVec.ofInt 64 0 = 0#64 := by decide
  rw [h, BitVec.xor_zero, BitVec.toNat_ofInt, IntKind.wrap_u64, IntKind.wrap_u64]
  omega
theorem xor_ones_i64 (x : Int) : bits .xor .i64 x (-1) = IntKind.i64.wrap (-1 - x) := by
  have h : BitVec.ofInt 64 (-1) = BitVec.allOnes 64 := by decide
  show IntKind.i64.wrap ((BitVec.ofInt 64 x ^^^ BitVec.ofInt 64 (-1)).toNat : Int) = _
  rw [h, BitVec.xor_allOnes, BitVec.toNat_not, BitVec.toNat_ofInt, IntKind.wrap_i64, IntKind.wrap_i64]
  omega
theorem xor_zero_i64 (x : Int) : bits .xor .i64 x 0 = IntKind.i64.wrap x := by
  show IntKind.i64.wrap ((BitVec.ofInt 64 x ^^^ BitVec.ofInt 64 0).toNat : Int) = _
  have h : BitVec.ofInt 64 0 = 0#64 := by decide
  rw [h, BitVec.xor_zero, BitVec.toNat_ofInt, IntKind.wrap_i64, IntKind.wrap_i64]
  omega

/-- a signed number as an unsigned one -/
def zig (m : Int) : Nat := if m < 0 then (2 * -(m + 1) + 1).toNat else (2 * m).toNat
/-- and back -/
def zag (n : Nat) : Int := if n % 2 = 1 then -((n : Int) / 2) - 1 else (n : Int) / 2
theorem zig_neg {m : Int} (h : m < 0) : (zig m : Int) = 2 * -(m + 1) + 1 := by unfold zig; rw [if_pos h]; omega
theorem zig_pos {m : Int} (h : ¬ m < 0) : (zig m : Int) = 2 * m := by unfold zig; rw [if_neg h]; omega
theorem zag_odd {n : Nat} (h : n % 2 = 1) : zag n = -((n : Int) / 2) - 1 := by unfold zag; rw [if_pos h]
theorem zag_even {n : Nat} (h : ¬ n % 2 = 1) : zag n = (n : Int) / 2 := by unfold zag; rw [if_neg h]
theorem zag_zig (m : Int) : zag (zig m) = m := by
  by_cases h : m < 0
  · have h1 := zig_neg h
    rw [zag_odd (by omega), h1]; omega
  · have h1 := zig_pos h
    rw [zag_even (by omega), h1]; omega
theorem zig_lt {m : Int} (hlo : -9223372036854775808 ≤ m) (hhi : m ≤ 9223372036854775807) : zig m < 18446744073709551616 := by
  by_cases h : m < 0
  · have h1 := zig_neg h; omega
  · have h1 := zig_pos h; omega
theorem zag_lo {n : Nat} (h : n < 18446744073709551616) : -9223372036854775808 ≤ zag n := by
  unfold zag; split <;> omega
theorem zag_hi {n : Nat} (h : n < 18446744073709551616) : zag n ≤ 9223372036854775807 := by
  unfold zag; split <;> omega

theorem zig_any (m : Int) (hlo : -9223372036854775808 ≤ m) (hhi : m ≤ 9223372036854775807) (w : World) :
    Calls Tryz.prog 152 #[.int .i64 m] w fun e w' => e = .returned (.int .u64 (zig m)) ∧ w = w' := by
  by_cases h : m < 0
  · have H : bits BinOp.xor IntKind.u64 (IntKind.u64.wrap (IntKind.u64.wrap m * 2)) (IntKind.u64.wrap (m / 9223372036854775808)) = (zig m : Int) := by
      rw [zig_neg h, show IntKind.u64.wrap (m / 9223372036854775808) = 18446744073709551615 from by rw [IntKind.wrap_u64]; omega, xor_ones_u64]
      simp only [IntKind.wrap_u64]
      omega
    have HH := Lib.hid H
    clear H
    go_enter Tryz.func152, Tryz.ntmps152
    go_wp2
    go_ret
    exact ⟨by rw [HH.out]; rfl, rfl⟩
  · have H : bits BinOp.xor IntKind.u64 (m * 2) (m / 9223372036854775808) = (zig m : Int) := by
      rw [zig_pos h, show m / 9223372036854775808 = 0 from by omega, xor_zero_u64]
      simp only [IntKind.wrap_u64]
      omega
    have HH := Lib.hid H
    clear H
    go_enter Tryz.func152, Tryz.ntmps152
    go_wp2
    go_ret
    exact ⟨by rw [HH.out]; rfl, rfl⟩
theorem rzig_any (m : Int) (hlo : -9223372036854775808 ≤ m) (hhi : m ≤ 9223372036854775807) (w : World) :
    Calls Tryz.prog 74 #[.int .i64 m] w fun e w' => e = .returned (.int .u64 (zig m)) ∧ w = w' := by
  by_cases h : m < 0
  · have HH := Lib.hid (zig_neg h)
    go_enter Tryz.func74, Tryz.ntmps74
    go_wp2
    go_ret
    exact ⟨by rw [HH.out]; rfl, rfl⟩
  · have HH := Lib.hid (zig_pos h)
    go_enter Tryz.func74, Tryz.ntmps74
    go_wp2
    go_ret
    exact ⟨by rw [HH.out]; rfl, rfl⟩
theorem zag_any (m : Nat) (hhi : m < 18446744073709551616) (w : World) :
    Calls Tryz.prog 164 #[.int .u64 m] w fun e w' => e = .returned (.int .i64 (zag m)) ∧ w = w' := by
  have H : bits BinOp.xor IntKind.i64 ((m : Int) / 2) (wrap64 (-wrap64 (bits BinOp.and IntKind.u64 (m : Int) 1))) = zag m := by
    have h1 : bits BinOp.and IntKind.u64 (m : Int) 1 = ((m % 2 : Nat) : Int) := by
      have := u64_and_nat m 1 hhi (by omega)
      rw [nat_mask1] at this
      exact this
    rw [h1]
    by_cases h : m % 2 = 1
    · rw [zag_odd h, show wrap64 (-wrap64 ((m % 2 : Nat) : Int)) = -1 from by unfold wrap64; omega, xor_ones_i64, IntKind.wrap_i64]
      omega
    · rw [zag_even h, show wrap64 (-wrap64 ((m % 2 : Nat) : Int)) = 0 from by unfold wrap64; omega, xor_zero_i64, IntKind.wrap_i64]
      omega
  have HH := Lib.hid H
  clear H
  go_enter Tryz.func164, Tryz.ntmps164
  go_wp2
  go_ret
  exact ⟨by rw [HH.out]; rfl, rfl⟩
theorem rzag_any (m : Nat) (hhi : m < 18446744073709551616) (w : World) :
    Calls Tryz.prog 91 #[.int .u64 m] w fun e w' => e = .returned (.int .i64 (zag m)) ∧ w = w' := by
  by_cases h : m % 2 = 1
  · have h1 : ((m : Int) % 2 == 1) = true := by rw [beq_iff_eq]; omega
    have HH := Lib.hid (zag_odd h)
    clear h
    go_enter Tryz.func91, Tryz.ntmps91
    go_wp2
    go_ret
    exact ⟨by rw [HH.out]; rfl, rfl⟩
  · have h1 : ((m : Int) % 2 == 1) = false := by rw [beq_eq_false_iff_ne]; omega
    have HH := Lib.hid (zag_even h)
    clear h
    go_enter Tryz.func91, Tryz.ntmps91
    go_wp2
    go_ret
    exact ⟨by rw [HH.out]; rfl, rfl⟩
end Go.Proofs.YtpbijdoemdoijaaGreatDoor
end PkCa7_3
section PkCa7_4
/- PutI and the document's PutU, walked. -/
namespace Go.Proofs.YtpbijdoemdoijaaGreatDoor
open Go.RowKit NumsPlain
set_option linter.unusedVariables false

set_option maxHeartbeats 1000000 in
theorem puti (m : Int) (hlo : -9223372036854775808 ≤ m) (hhi : m ≤ 9223372036854775807) (w : World) :
    Calls Tryz.prog 107 #[.int .i64 m] w fun e w' => ∃ g c, e = .returned (.slice (some ⟨g, 0, none⟩) (pu (zig m)).length c) ∧ w.heap.size ≤ g ∧ BytesAt w' (some ⟨g, 0, none⟩) (pu (zig m)).length c (pu (zig m)) ∧ Below w.heap.size w w' := by
  have h1 := zig_any m hlo hhi w
  have h2 := putu (zig m) (zig_lt hlo hhi) w
  have H1 := Lib.hid h1
  have H2 := Lib.hid h2
  clear h1 h2
  go_enter Tryz.func107, Tryz.ntmps107
  go_wp2_with fail
  refine H1.out.mono ?_
  rintro e w' ⟨rfl, rfl⟩
  go_wp2_with fail
  refine H2.out.mono ?_
  rintro e w1 ⟨g1, c1, rfl, hg, hp1, hb1⟩
  go_wp2_with fail
  go_ret
  exact ⟨g1, c1, rfl, hg, hp1, hb1⟩

set_option maxRecDepth 100000 in
set_option maxHeartbeats 1000000 in
theorem rputu_any (n : Nat) (hn : n < 18446744073709551616) (w : World) :
    Calls Tryz.prog 70 #[.int .u64 n] w fun e w' => ∃ v, e = .returned v ∧ w'.ownsRow w.heap.size 5 1 v (pu n).length (bv (pu n)) ∧ Below w.heap.size w w' := by
  obtain ⟨i0, hi, hz0, hz1, hz2⟩ := info_parts info_u8
  have hown0 := World.ownsRow_lit (base := w.heap.size) (e := 5) (size := 1) w #[] 0 (Nat.le_refl _) (by unfold maxLen; omega) rfl
  have h3 := pu_ten hn
  have HN := Lib.hid hn
  clear hn
  go_enter Tryz.func70, Tryz.ntmps70
  go_wp2
  go_loopw [0, 3] (fun sn b wr => ∃ (m : Nat) (xs : List Nat), Hid (m < 18446744073709551616) ∧ sn = .int .u64 m ∧ wr.ownsRow w.heap.size 5 1 b xs.length (bv xs) ∧ Hid (xs ++ pu m = pu n) ∧ Below w.heap.size w wr) (fun sn _ _ => (intOf sn).toNat)
  case atStart => exact ⟨n, [], HN, rfl, hown0, Lib.hid rfl, (Below.refl _ _).alloc (Nat.le_refl _) _⟩
  case round =>
    obtain ⟨m, xs, HM, rfl, hown, HX, hnx⟩ := hrel
    have hl : xs.length ≤ 9 := by
      have h1 := congrArg List.length HX.out
      rw [List.length_append] at h1
      have h2 := pu_pos m
      omega
    have hB := hnx.size
    have hmm : m ≤ 18446744073709551615 := by have := HM.out; omega
    by_cases hlt : m < 128
    · have hq : ¬ (0 : Int) < (m : Int) / 128 := by omega
      go_wp2_with (at_builtin; refine wpList_append_own _ rfl (.tmp 17) (.tmp 20) 27 rfl w.heap.size 5 i0 (.int .u8 0) 1 1 Tryz.underlying27 hi hz0 hz1 hz2 rfl (by decide) _ _ _ rfl (hown.alloc _) ⟨wr.heap.size, 0, none⟩ 1 1 [.int .u8 m] rfl rfl (one_src _ _ _) (one_oneCell rfl) (by unfold maxLen; omega) (by omega) (by simp; omega) ?_)
      intro v' w1 hown' hgrow _
      go_wp2
      go_ret
      have hs := pu_small hlt
      have e1 : pu n = xs ++ [m] := by rw [← HX.out, hs]
      refine ⟨v', rfl, ?_, ?_⟩
      · rw [e1]; simpa [bv] using hown'
      · exact (hnx.alloc hnx.size _).grown hgrow (by simp; omega) (fun k hk => (hown.lt k hk).1)
    · have hq : (0 : Int) < (m : Int) / 128 := by omega
      go_wp2_with (at_builtin; refine wpList_append_own _ rfl (.tmp 8) (.tmp 13) 27 rfl w.heap.size 5 i0 (.int .u8 0) 1 1 Tryz.underlying27 hi hz0 hz1 hz2 rfl (by decide) _ _ _ rfl (hown.alloc _) ⟨wr.heap.size, 0, none⟩ 1 1 [.int .u8 (128 + (m : Int) % 128)] rfl rfl (one_src _ _ _) (one_oneCell rfl) (by unfold maxLen; omega) (by omega) (by simp; omega) ?_)
      intro v' w1 hown' hgrow _
      go_wp2
      have hs := pu_big (show 128 ≤ m by omega)
      have hm' := HM.out
      go_roundw
      case rel =>
        refine ⟨m / 128, xs ++ [128 + m % 128], Lib.hid (by omega), by go_num, ?_, ?_, ?_⟩
        · simpa [bv] using hown'
        · exact Lib.hid (by rw [← HX.out, hs]; simp)
        · exact (hnx.alloc hnx.size _).grown hgrow (by simp; omega) (fun k hk => (hown.lt k hk).1)
      case measure => simp [intOf]; omega

/-- as a slice of bytes wherever -/
theorem rputu (n : Nat) (hn : n < 18446744073709551616) (w : World) :
    Calls Tryz.prog 70 #[.int .u64 n] w fun e w' => ∃ g c, e = .returned (.slice (some ⟨g, 0, none⟩) (pu n).length c) ∧ w.heap.size ≤ g ∧ BytesAt w' (some ⟨g, 0, none⟩) (pu n).length c (pu n) ∧ Below w.heap.size w w' := by
  refine (rputu_any n hn w).mono ?_
  rintro e w' ⟨v, rfl, hown, hb⟩
  obtain ⟨g, c, rfl, h1, _, h2⟩ := BytesAt.own hown (pu_bytes hn) (pu_pos n) (by have := pu_ten hn; omega)
  exact ⟨g, c, rfl, h1, h2, hb⟩
end Go.Proofs.YtpbijdoemdoijaaGreatDoor
end PkCa7_4
section PkCa7_5
/- Package nums' U, walked: at any place of any bytes it answers what the plain function says. -/
namespace Go.Proofs.YtpbijdoemdoijaaGreatDoor
open Go.RowKit NumsPlain
set_option linter.unusedVariables false

/-- what U says of bytes at a place -/
def ru (xs : List Nat) (at_ : Int) : Nat × Nat × Nat := if at_ < 0 then (0, 0, 3) else uu 0 0 (xs.drop at_.toNat)
theorem ru_nat (xs : List Nat) (i : Nat) : ru xs (i : Int) = uu 0 0 (xs.drop i) := by
  unfold ru; rw [if_neg (by omega)]; simp
def ruV (r : Nat × Nat × Nat) : Value := .tuple #[.int .u64 (r.1 : Int), .int .i64 (r.2.1 : Int), .int .i64 (r.2.2 : Int)]

theorem mask127 (x : Nat) (h : x < 256) : bits .and .u8 (x : Int) 127 = ((x % 128 : Nat) : Int) := by
  have := u8_and_nat x 127 h (by omega)
  rw [nat_mask7] at this
  exact this

theorem pow128 (k : Nat) : (128 : Nat) ^ k = 2 ^ (7 * k) := by rw [Nat.pow_mul]

theorem or_step {X k x : Nat} (hX : X < 128 ^ k) (hk : k ≤ 9) (hx : x < 128) (h9 : k = 9 → x ≤ 1) :
    bits .or .u64 (X : Int) (IntKind.u64.wrap ((x : Int) * 2 ^ (7 * k))) = ((X + x * 128 ^ k : Nat) : Int) := by
  have hb : x * 128 ^ k < 18446744073709551616 := by
    rcases Nat.lt_or_ge k 9 with g | g
    · have h1 : 128 ^ k ≤ 128 ^ 8 := Nat.pow_le_pow_right (by omega) (by omega)
      have h2 : x * 128 ^ k ≤ 127 * 128 ^ 8 := Nat.mul_le_mul (by omega) h1
      have h3 : (127 : Nat) * 128 ^ 8 < 18446744073709551616 := by decide
      omega
    · have hk9 : k = 9 := by omega
      have h2 : x * 128 ^ k ≤ 1 * 128 ^ 9 := Nat.mul_le_mul (h9 hk9) (by rw [hk9]; exact Nat.le_refl _)
      have h3 : (1 : Nat) * 128 ^ 9 < 18446744073709551616 := by decide
      omega
  have hXb : X < 18446744073709551616 := by
    have h1 : 128 ^ k ≤ 128 ^ 9 := Nat.pow_le_pow_right (by omega) (by omega)
    have h3 : (128 : Nat) ^ 9 < 18446744073709551616 := by decide
    omega
  have e1 : (x : Int) * 2 ^ (7 * k) = ((x * 128 ^ k : Nat) : Int) := by rw [pow128]; push_cast; rfl
  rw [e1, IntKind.wrap_u64, show ((x * 128 ^ k : Nat) : Int) % 18446744073709551616 = ((x * 128 ^ k : Nat) : Int) from by omega, u64_or_nat X (x * 128 ^ k) hXb hb, Nat.or_comm, nat_join (7 * k) (x * 128 ^ k) X (by rw [pow128]; exact Nat.mul_mod_left _ _) (by rw [← pow128]; exact hX), Nat.add_comm]

set_option maxRecDepth 100000 in
set_option maxHeartbeats 1000000 in
theorem u_any {a : Option Addr} {n c : Nat} {xs : List Nat} {w : World} (h : BytesAt w a n c xs) (at_ : Int) :
    Calls Tryz.prog 128 #[.slice a n c, .int .i64 at_] w fun e w' => e = .returned (ruV (ru xs at_)) ∧ w = w' := by
  have hlen := h.len
  have hcap := h.cap
  have hcm := h.capm
  have hrm := h.reach
  by_cases hneg : at_ < 0
  · have hr : ru xs at_ = (0, 0, 3) := by unfold ru; rw [if_pos hneg]
    have HR := Lib.hid hr
    clear hr h
    have d1 : decide (at_ < 0) = true := by simp; omega
    go_enter Tryz.func128, Tryz.ntmps128
    go_wp2_with fail
    go_ret3
    exact ⟨by rw [HR.out]; rfl, rfl⟩
  · obtain ⟨i, rfl⟩ := Int.eq_ofNat_of_zero_le (show 0 ≤ at_ by omega)
    by_cases hin : i < n
    · obtain ⟨b, off, rfl, _, hcell⟩ := h.cells (by omega)
      have hbyte := h.byte
      have HC := Lib.hid hcell
      have HB := Lib.hid hbyte
      clear h hcell hbyte
      go_enter Tryz.func128, Tryz.ntmps128
      go_wp2_with fail
      go_loop [7, 22] (fun sx si => ∃ k X : Nat, k ≤ n - i ∧ k ≤ 9 ∧ si = .int .i64 k ∧ sx = .int .u64 X ∧ Hid (X < 128 ^ k) ∧ Hid (ru xs (i : Int) = uu X k (xs.drop (i + k)))) (fun _ si => n - i - (intOf si).toNat)
      case atStart => exact ⟨0, 0, by omega, by omega, rfl, rfl, Lib.hid (by simp), Lib.hid (ru_nat xs i)⟩
      case round =>
        obtain ⟨k, X, hk, hk9, rfl, rfl, HX, HU⟩ := hrel
        by_cases hkn : k < n - i
        · have hc0 := HC.out (i + k) (by omega)
          obtain ⟨x, hx⟩ : ∃ x, x = xs.getD (i + k) 0 := ⟨_, rfl⟩
          have hx256 : x < 256 := by
            have h1 : i + k < xs.length := by omega
            rw [hx]
            have : xs.getD (i + k) 0 = xs[i + k] := by simp [h1]
            rw [this]
            exact HB.out _ (List.getElem_mem h1)
          rw [← hx, ← Nat.add_assoc] at hc0
          have hd : xs.drop (i + k) = x :: xs.drop (i + k + 1) := by
            have h1 : i + k < xs.length := by omega
            rw [List.drop_eq_getElem_cons h1, hx]; simp [h1]
          have hu := HU.out
          rw [hd] at hu
          simp only [uu] at hu
          have hm := mask127 x hx256
          have hX := HX.out
          clear HU hx
          have hdd : xs.drop (i + k + 1) = xs.drop (i + (k + 1)) := by rw [Nat.add_assoc]
          by_cases h9 : k = 9
          · have q9 : ((k : Int) == 9) = true := by rw [beq_iff_eq]; omega
            by_cases hx1 : 1 < x
            · have hr : ru xs (i : Int) = (0, 0, 4) := by rw [hu, if_pos ⟨h9, hx1⟩]
              have HR := Lib.hid hr
              clear hu hd hX hr hdd h9
              go_wp2_with fail
              go_ret3
              exact ⟨by rw [HR.out]; rfl, rfl⟩
            · by_cases hx0 : x = 0
              · have hr : ru xs (i : Int) = (0, 0, 4) := by rw [hu, if_neg (by omega), if_neg (by omega), if_pos ⟨hx0, by omega⟩]
                have z0 : ((x : Int) == 0) = true := by rw [beq_iff_eq]; omega
                have p0 : (0 : Int) < (k : Int) := by omega
                have HR := Lib.hid hr
                clear hu hd hX hr hdd h9 hx0
                go_wp2_with fail
                go_ret3
                exact ⟨by rw [HR.out]; rfl, rfl⟩
              · have hr : ru xs (i : Int) = (X + x % 128 * 128 ^ k, k + 1, 0) := by rw [hu, if_neg (by omega), if_neg (by omega), if_neg (by omega)]
                have z0 : ((x : Int) == 0) = false := by rw [beq_eq_false_iff_ne]; omega
                have ho := or_step hX hk9 (show x % 128 < 128 by omega) (fun _ => by omega)
                have HR := Lib.hid hr
                have HO := Lib.hid ho
                clear hu hd hX hr hdd h9 ho
                go_wp2_with fail
                go_ret3
                exact ⟨by rw [HR.out]; simp only [ruV, ← HO.out]; rfl, rfl⟩
          · have q9 : ((k : Int) == 9) = false := by rw [beq_eq_false_iff_ne]; omega
            have ho := or_step hX hk9 (show x % 128 < 128 by omega) (fun e => absurd e h9)
            have HO := Lib.hid ho
            by_cases h128 : 128 ≤ x
            · have hr : ru xs (i : Int) = uu (X + x % 128 * 128 ^ k) (k + 1) (xs.drop (i + (k + 1))) := by rw [hu, if_neg (by omega), if_pos h128, hdd]
              have HR := Lib.hid hr
              have hXn : X + x % 128 * 128 ^ k < 128 ^ (k + 1) := by
                have h1 : x % 128 * 128 ^ k ≤ 127 * 128 ^ k := Nat.mul_le_mul_right _ (by omega)
                have h2 : (128 : Nat) ^ (k + 1) = 128 ^ k * 128 := Nat.pow_succ ..
                omega
              have HXn := Lib.hid hXn
              clear hu hd hX hr hdd ho hXn
              go_wp2_with fail
              go_round
              case rel => exact ⟨k + 1, X + x % 128 * 128 ^ k, by omega, by omega, by go_num, by rw [← HO.out]; rfl, HXn, HR⟩
              case measure => simp [intOf]; omega
            · by_cases hx0 : x = 0
              · have z0 : ((x : Int) == 0) = true := by rw [beq_iff_eq]; omega
                by_cases hk0 : 0 < k
                · have hr : ru xs (i : Int) = (0, 0, 4) := by rw [hu, if_neg (by omega), if_neg (by omega), if_pos ⟨hx0, hk0⟩]
                  have HR := Lib.hid hr
                  clear hu hd hX hr hdd hx0 ho
                  go_wp2_with fail
                  go_ret3
                  exact ⟨by rw [HR.out]; rfl, rfl⟩
                · have hr : ru xs (i : Int) = (X + x % 128 * 128 ^ k, k + 1, 0) := by rw [hu, if_neg (by omega), if_neg (by omega), if_neg (by omega)]
                  have HR := Lib.hid hr
                  clear hu hd hX hr hdd hx0 ho
                  go_wp2_with fail
                  go_ret3
                  exact ⟨by rw [HR.out]; simp only [ruV, ← HO.out]; rfl, rfl⟩
              · have z0 : ((x : Int) == 0) = false := by rw [beq_eq_false_iff_ne]; omega
                have hr : ru xs (i : Int) = (X + x % 128 * 128 ^ k, k + 1, 0) := by rw [hu, if_neg (by omega), if_neg (by omega), if_neg (by omega)]
                have HR := Lib.hid hr
                clear hu hd hX hr hdd ho
                go_wp2_with fail
                go_ret3
                exact ⟨by rw [HR.out]; simp only [ruV, ← HO.out]; rfl, rfl⟩
        · have hr : ru xs (i : Int) = (0, 0, 3) := by
            rw [HU.out, List.drop_eq_nil_of_le (by omega)]; rfl
          have HR := Lib.hid hr
          clear hr HU
          go_wp2_with fail
          go_ret3
          exact ⟨by rw [HR.out]; rfl, rfl⟩
    · have hr : ru xs (i : Int) = (0, 0, 3) := by
        unfold ru; rw [if_neg hneg]
        simp only [Int.toNat_natCast]
        rw [List.drop_eq_nil_of_le (by omega)]; rfl
      have HR := Lib.hid hr
      clear hr h
      go_enter Tryz.func128, Tryz.ntmps128
      go_wp2_with fail
      go_ret3
      exact ⟨by rw [HR.out]; rfl, rfl⟩
end Go.Proofs.YtpbijdoemdoijaaGreatDoor
end PkCa7_5
