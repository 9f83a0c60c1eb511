/- Texts put together by packtpl2.py: SqRSym, PrefWord, PrefRefPlain, PrefRef. -/
import Derived.Test.YtpbijdoemdoijaaGreatDoorPkCa21
import Derived.Test.YtpbijdoemdoijaaGreatDoorPkCa30
import Derived.Test.YtpbijdoemdoijaaGreatDoorPkCa46
section PkCa47_0
/- The document's symbols of lengths and distances (entrepotref07.length, distance), walked: the program's. -/
namespace Go.Proofs.YtpbijdoemdoijaaGreatDoor
open Go.RowKit BitsPlain
set_option linter.unusedVariables false

theorem lenS_says {n : Nat} (h3 : 3 ≤ n) (h : n < 258) : (lenS n).1 < 28 ∧ (lenB (lenS n).1).1 ≤ n ∧ lenS n = ((lenS n).1, n - (lenB (lenS n).1).1, (lenB (lenS n).1).2) ∧ ∀ s, s < 28 → (lenS n).1 < s → n < (lenB s).1 := by
  have : ∀ m, m < 255 → (lenS (m + 3)).1 < 28 ∧ (lenB (lenS (m + 3)).1).1 ≤ (m + 3) ∧ lenS (m + 3) = ((lenS (m + 3)).1, (m + 3) - (lenB (lenS (m + 3)).1).1, (lenB (lenS (m + 3)).1).2) ∧ ∀ s, s < 28 → (lenS (m + 3)).1 < s → (m + 3) < (lenB s).1 := by decide +kernel
  obtain ⟨m, rfl⟩ : ∃ m, n = m + 3 := ⟨n - 3, by omega⟩
  exact this m (by omega)
theorem db_tab : ∀ x, x < 14 → db (2 * x + 2) = 1 + 2 * 2 ^ x ∧ db (2 * x + 3) = 1 + 3 * 2 ^ x := by decide +kernel
theorem db_mono {a : Nat} : ∀ d, db a ≤ db (a + d)
  | 0 => Nat.le_refl _
  | d + 1 => by have := db_mono (a := a) d; have e : db (a + (d + 1)) = db (a + d) + 2 ^ exB (a + d) := rfl; have := Nat.zero_le (2 ^ exB (a + d)); omega
theorem distS_says {n : Nat} (h1 : 1 ≤ n) (h : n ≤ 32768) : (distS n).1 < 30 ∧ db (distS n).1 ≤ n ∧ distS n = ((distS n).1, n - db (distS n).1, exB (distS n).1) ∧ ∀ s, (distS n).1 < s → n < db s := by
  obtain ⟨m, hm⟩ : ∃ m, m = n - 1 := ⟨_, rfl⟩
  have hx : ∀ y, y < lx 4 m → 4 * 2 ^ y ≤ m := fun y hy => xOf_le 4 m 16 0 y (by omega) hy
  have hg : m < 4 * 2 ^ lx 4 m := xOf_gt 4 m 16 0 (by simp; omega)
  have hx13 : lx 4 m ≤ 13 := xOf_most 4 m 13 (by simp; omega) 16 0 (by omega)
  have he : distS n = (2 * lx 4 m + m / 2 ^ lx 4 m, m % 2 ^ lx 4 m, lx 4 m) := by unfold distS; rw [hm]
  obtain ⟨x, hxe⟩ : ∃ x, x = lx 4 m := ⟨_, rfl⟩
  rw [← hxe] at hx hg hx13 he
  clear hxe
  obtain ⟨q, hq⟩ : ∃ q, q = m / 2 ^ x := ⟨_, rfl⟩
  obtain ⟨r, hr⟩ : ∃ r, r = m % 2 ^ x := ⟨_, rfl⟩
  have hdm : 2 ^ x * q + r = m := by rw [hq, hr]; exact Nat.div_add_mod _ _
  have hrl : r < 2 ^ x := by rw [hr]; exact Nat.mod_lt _ (Nat.two_pow_pos _)
  rw [← hq, ← hr] at he
  have hq4 : q < 4 := by rw [hq]; exact (Nat.div_lt_iff_lt_mul (Nat.two_pow_pos _)).2 hg
  have key : db (2 * x + q) = 1 + q * 2 ^ x ∧ exB (2 * x + q) = x := by
    rcases Nat.eq_zero_or_pos x with h0 | hp
    · subst h0
      have t : ∀ q, q < 4 → db (2 * 0 + q) = 1 + q * 2 ^ 0 ∧ exB (2 * 0 + q) = 0 := by decide +kernel
      exact t q hq4
    · have hq2 : 2 ≤ q := by
        have h4 := hx (x - 1) (by omega)
        rw [hq, Nat.le_div_iff_mul_le (Nat.two_pow_pos _)]
        have e : 2 ^ x = 2 * 2 ^ (x - 1) := by rw [← Nat.pow_succ', Nat.succ_eq_add_one, Nat.sub_add_cancel hp]
        rw [e]
        omega
      have ht := db_tab x (by omega)
      have h23 : q = 2 ∨ q = 3 := by omega
      refine ⟨?_, ?_⟩
      · rcases h23 with e | e
        · rw [e]; exact ht.1
        · rw [e]; exact ht.2
      · unfold exB
        rw [if_neg (by omega)]
        omega
  rw [he]
  simp only
  rw [key.1, key.2]
  have hmul : q * 2 ^ x = 2 ^ x * q := Nat.mul_comm _ _
  refine ⟨by omega, by omega, ?_, fun s hs => ?_⟩
  · rw [show n - (1 + q * 2 ^ x) = r from by omega]
  · have h5 := db_mono (a := 2 * x + q + 1) (s - (2 * x + q + 1))
    rw [show 2 * x + q + 1 + (s - (2 * x + q + 1)) = s from by omega] at h5
    have h6 : db (2 * x + q + 1) = db (2 * x + q) + 2 ^ exB (2 * x + q) := rfl
    rw [key.1, key.2] at h6
    omega

set_option maxRecDepth 100000 in
set_option maxHeartbeats 2000000 in
theorem rlength_any {w : World} {n : Nat} (h3 : 3 ≤ n) (h258 : n ≤ 258) :
    Calls Tryz.prog 112 #[.int .i64 (n : Int)] w fun e w' => e = .returned (.tuple #[.int .i64 ((lenS n).1 : Int), .int .i64 ((lenS n).2.1 : Int), .int .i64 ((lenS n).2.2 : Int)]) ∧ w = w' := by
  by_cases hn : n = 258
  · subst hn
    have HL := Lib.hid (show lenS 258 = (28, 0, 0) from rfl)
    go_enter Tryz.func112, Tryz.ntmps112
    go_wp2_with fail
    go_ret3
    rw [HL.out]
    exact ⟨rfl, rfl⟩
  · obtain ⟨q1, q2, q3, q4⟩ := lenS_says h3 (by omega)
    have hni : ((n : Int) == 258) = false := by rw [beq_eq_false_iff_ne]; omega
    obtain ⟨T, hT⟩ : ∃ T, T = (lenS n).1 := ⟨_, rfl⟩
    rw [← hT] at q1 q2 q3 q4
    have H2 := Lib.hid q2
    have H3 := Lib.hid q3
    have H4 := Lib.hid q4
    clear q2 q3 q4 hT hn
    go_enter Tryz.func112, Tryz.ntmps112
    go_wp2_with fail
    go_loopw [5] (fun s5 wr => ∃ s : Nat, T ≤ s ∧ s ≤ 27 ∧ s5 = .int .i64 (s : Int) ∧ Hid (wr = w)) (fun s5 _ => (intOf s5).toNat)
    case atStart => exact ⟨27, by omega, by omega, rfl, Lib.hid rfl⟩
    case round =>
      obtain ⟨s, hs1, hs2, rfl, HW⟩ := hrel
      rename World => wr
      have HC := Lib.hid (rlen06_any (w := wr) (s := s) (by omega))
      obtain ⟨b, hb⟩ : ∃ b, b = (lenB s).1 := ⟨_, rfl⟩
      obtain ⟨m, hm⟩ : ∃ m, m = (lenB s).2 := ⟨_, rfl⟩
      rw [← hb, ← hm] at HC
      by_cases hst : T < s
      · have hbn := H4.out s (by omega) hst
        rw [← hb] at hbn
        have hi1 : ¬ (b : Int) ≤ (n : Int) := by omega
        have hz : ((s : Int) == 0) = false := by rw [beq_eq_false_iff_ne]; omega
        have hi3 : ¬ b ≤ n := by omega
        obtain ⟨r, hr1, hr2⟩ : ∃ r, r + 1 ≤ s ∧ s ≤ r + 1 := ⟨s - 1, by omega, by omega⟩
        have hq2 : (s : Int) - 1 = (r : Int) := by omega
        clear hb hm
        go_wp2_with fail
        refine HC.out.mono ?_
        rintro e w2 ⟨rfl, hww⟩
        subst hww
        go_wp2_with fail
        go_roundw
        case rel => exact ⟨r, by omega, by omega, by go_num, HW⟩
        case measure => simp [intOf]; omega
      · have hTs : T = s := by omega
        have HE := Lib.hid (show lenS n = (s, n - b, m) from by rw [hb, hm, ← hTs]; exact H3.out)
        have hbn : b ≤ n := by rw [hb, ← hTs]; exact H2.out
        have hi1 : (b : Int) ≤ (n : Int) := by omega
        obtain ⟨v, hv1, hv2⟩ : ∃ v, v + b ≤ n ∧ n ≤ v + b := ⟨n - b, by omega, by omega⟩
        have hvi : (n : Int) - (b : Int) = (v : Int) := by omega
        clear hb hm hTs hst
        go_wp2_with fail
        refine HC.out.mono ?_
        rintro e w2 ⟨rfl, hww⟩
        subst hww
        go_wp2_with fail
        go_ret3
        rw [HE.out]
        simp only
        rw [show n - b = v from by omega]
        exact ⟨by go_num, HW.out.symm⟩

set_option maxRecDepth 100000 in
set_option maxHeartbeats 2000000 in
theorem rdistance_any {w : World} {n : Nat} (h1 : 1 ≤ n) (h2 : n ≤ 32768) :
    Calls Tryz.prog 114 #[.int .i64 (n : Int)] w fun e w' => e = .returned (.tuple #[.int .i64 ((distS n).1 : Int), .int .i64 ((distS n).2.1 : Int), .int .i64 ((distS n).2.2 : Int)]) ∧ w = w' := by
  obtain ⟨q1, q2, q3, q4⟩ := distS_says h1 h2
  obtain ⟨T, hT⟩ : ∃ T, T = (distS n).1 := ⟨_, rfl⟩
  rw [← hT] at q1 q2 q3 q4
  have H2 := Lib.hid q2
  have H3 := Lib.hid q3
  have H4 := Lib.hid q4
  clear q2 q3 q4 hT
  go_enter Tryz.func114, Tryz.ntmps114
  go_wp2_with fail
  go_loopw [5] (fun s5 wr => ∃ s : Nat, T ≤ s ∧ s ≤ 29 ∧ s5 = .int .i64 (s : Int) ∧ Hid (wr = w)) (fun s5 _ => (intOf s5).toNat)
  case atStart => exact ⟨29, by omega, by omega, rfl, Lib.hid rfl⟩
  case round =>
    obtain ⟨s, hs1, hs2, rfl, HW⟩ := hrel
    rename World => wr
    have HC := Lib.hid (rdist06_any (w := wr) (d := s) (by omega))
    have hble := (db_le (d := s) (by omega)).1
    obtain ⟨b, hb⟩ : ∃ b, b = db s := ⟨_, rfl⟩
    obtain ⟨m, hm⟩ : ∃ m, m = exB s := ⟨_, rfl⟩
    rw [← hb, ← hm] at HC
    rw [← hb] at hble
    by_cases hst : T < s
    · have hbn := H4.out s hst
      rw [← hb] at hbn
      have hi1 : ¬ (b : Int) ≤ (n : Int) := by omega
      have hz : ((s : Int) == 0) = false := by rw [beq_eq_false_iff_ne]; omega
      have hi3 : ¬ b ≤ n := by omega
      obtain ⟨r, hr1, hr2⟩ : ∃ r, r + 1 ≤ s ∧ s ≤ r + 1 := ⟨s - 1, by omega, by omega⟩
      have hq2 : (s : Int) - 1 = (r : Int) := by omega
      clear hb hm
      go_wp2_with fail
      refine HC.out.mono ?_
      rintro e w2 ⟨rfl, hww⟩
      subst hww
      go_wp2_with fail
      go_roundw
      case rel => exact ⟨r, by omega, by omega, by go_num, HW⟩
      case measure => simp [intOf]; omega
    · have hTs : T = s := by omega
      have HE := Lib.hid (show distS n = (s, n - b, m) from by rw [hb, hm, ← hTs]; exact H3.out)
      have hbn : b ≤ n := by rw [hb, ← hTs]; exact H2.out
      have hi1 : (b : Int) ≤ (n : Int) := by omega
      obtain ⟨v, hv1, hv2⟩ : ∃ v, v + b ≤ n ∧ n ≤ v + b := ⟨n - b, by omega, by omega⟩
      have hvi : (n : Int) - (b : Int) = (v : Int) := by omega
      clear hb hm hTs hst
      go_wp2_with fail
      refine HC.out.mono ?_
      rintro e w2 ⟨rfl, hww⟩
      subst hww
      go_wp2_with fail
      go_ret3
      rw [HE.out]
      simp only
      rw [show n - b = v from by omega]
      exact ⟨by go_num, HW.out.symm⟩
end Go.Proofs.YtpbijdoemdoijaaGreatDoor
end PkCa47_0
section PkCa47_1
/- Package prefix's Word, walked; the chapter's example. -/
namespace Go.Proofs.YtpbijdoemdoijaaGreatDoor
open Go.RowKit PrefPlain
set_option linter.unusedVariables false




end Go.Proofs.YtpbijdoemdoijaaGreatDoor
end PkCa47_1
section PkCa47_2
/- The document's answer for prefix codes, plainly: its sum and its count; words as digits, one more, behind each other. No Go in sight. -/
namespace Go.Proofs.YtpbijdoemdoijaaGreatDoor
open Go.RowKit PrefPlain BitsPlain
set_option linter.unusedVariables false

/-- of the first k symbols: how many have words; whether the last of these has one bit -/
def wq (L : List Int) : Nat → Nat
  | 0 => 0
  | k + 1 => if 0 < L.getD k 0 then wq L k + 1 else wq L k
def on (L : List Int) : Nat → Bool
  | 0 => false
  | k + 1 => if 0 < L.getD k 0 then (L.getD k 0 == 1) else on L k
def ss (L : List Int) : Nat → Nat
  | 0 => 0
  | k + 1 => if 0 < L.getD k 0 then ss L k + 2 ^ (15 - (L.getD k 0).toNat) else ss L k
theorem wq_le (L : List Int) : ∀ k, wq L k ≤ k
  | 0 => Nat.le_refl _
  | k + 1 => by have := wq_le L k; rw [wq]; split <;> omega
theorem pow_le_15 {n : Nat} (h : n ≤ 15) : 2 ^ n ≤ 32768 := Nat.pow_le_pow_right (n := 2) (by omega) h
theorem ss_le (L : List Int) : ∀ k, ss L k ≤ 32768 * k
  | 0 => Nat.le_refl _
  | k + 1 => by
    have := ss_le L k
    have h2 := pow_le_15 (n := 15 - (L.getD k 0).toNat) (by omega)
    rw [ss]; split <;> omega

theorem su_bump (c c' : Nat → Nat) (n0 : Nat) (h : ∀ n, c' n = c n + if n = n0 then 1 else 0) : ∀ N, su c' N = su c N + if n0 < N then 2 ^ (15 - n0) else 0
  | 0 => by simp [su]
  | N + 1 => by
    have ih := su_bump c c' n0 h N
    rw [su, su, ih, h N]
    by_cases e : N = n0
    · subst e
      rw [if_neg (by omega), if_pos rfl, if_pos (by omega), Nat.add_mul]
      omega
    · rw [if_neg e]
      by_cases g : n0 < N
      · rw [if_pos g, if_pos (show n0 < N + 1 by omega), Nat.add_zero]; omega
      · rw [if_neg g, if_neg (show ¬ n0 < N + 1 by omega)]; simp only [Nat.add_zero]
theorem su_cong (c c' : Nat → Nat) (h : ∀ n, c' n = c n) : ∀ N, su c' N = su c N
  | 0 => rfl
  | N + 1 => by rw [su, su, su_cong c c' h N, h N]
def cnk (L : List Int) (k n : Nat) : Nat := (sy L k n).length
theorem cnk_next {L : List Int} {k : Nat} (n : Nat) : cnk L (k + 1) n = cnk L k n + if 0 < n ∧ L.getD k 0 = (n : Int) then 1 else 0 := by
  unfold cnk
  by_cases h : 0 < n ∧ L.getD k 0 = (n : Int)
  · rw [sy_hit h.1 h.2, if_pos h, List.length_append]; rfl
  · rw [if_neg h]
    by_cases hn : n = 0
    · subst hn; rw [sy_zero, sy_zero]; rfl
    · rw [sy_miss (fun e => h ⟨by omega, e⟩)]; rfl
structure Sums (L : List Int) (k : Nat) : Prop where
  sum : su (cnk L k) 16 = ss L k
  none : wq L k = 0 ↔ mo L k = 0
  least : cnk L k 1 ≤ wq L k
  one : wq L k = 1 → (on L k = true ↔ mo L k = 1)
  all : mo L k = 1 → wq L k = cnk L k 1
  pos : ss L k = 0 ↔ wq L k = 0
theorem sums {L : List Int} : ∀ {k : Nat}, okL L k → Sums L k
  | 0, _ => ⟨by
      have : ∀ N, su (cnk L 0) N = 0 := fun N => by
        induction N with
        | zero => rfl
        | succ N ih => rw [su, ih]; simp [cnk, sy_start]
      rw [this]; rfl, by simp [wq, mo], by simp [cnk, sy_start], by simp [wq], by simp [mo], by simp [ss, wq]⟩
  | k + 1, h => by
    have ih := sums (L := L) (k := k) (fun s hs => h s (by omega))
    have hx := h k (by omega)
    have hm : mo L (k + 1) = max (mo L k) (L.getD k 0).toNat := rfl
    by_cases h0 : 0 < L.getD k 0
    · have e1 : wq L (k + 1) = wq L k + 1 := by rw [wq, if_pos h0]
      have e2 : ss L (k + 1) = ss L k + 2 ^ (15 - (L.getD k 0).toNat) := by rw [ss, if_pos h0]
      have e3 : on L (k + 1) = (L.getD k 0 == 1) := by rw [on, if_pos h0]
      have e4 := cnk_next (L := L) (k := k) 1
      obtain ⟨x, hxe⟩ : ∃ x : Nat, L.getD k 0 = (x : Int) := ⟨(L.getD k 0).toNat, by omega⟩
      rw [hxe] at hx h0 hm e2 e3 e4
      rw [Int.toNat_natCast] at hm e2
      have hb := su_bump (cnk L k) (cnk L (k + 1)) x (fun n => by
        rw [cnk_next, hxe]
        by_cases e : n = x
        · subst e; rw [if_pos ⟨by omega, rfl⟩, if_pos rfl]
        · rw [if_neg (fun g => e (by have := g.2; omega)), if_neg e]) 16
      rw [if_pos (by omega), ih.sum, ← e2] at hb
      have hp : 0 < 2 ^ (15 - x) := Nat.two_pow_pos _
      have q1 := ih.none
      have q2 := ih.least
      have q3 := ih.all
      refine ⟨hb, by omega, by split at e4 <;> omega, fun hw => ?_, fun hw => ?_, by omega⟩
      · rw [e3, beq_iff_eq]; omega
      · have : x = 1 := by omega
        subst this
        rw [if_pos ⟨by omega, rfl⟩] at e4
        rcases Nat.eq_zero_or_pos (mo L k) with g | g
        · have := q1.2 g
          omega
        · have := q3 (by omega)
          omega
    · have hz : L.getD k 0 = 0 := by omega
      have e1 : wq L (k + 1) = wq L k := by rw [wq, if_neg h0]
      have e2 : ss L (k + 1) = ss L k := by rw [ss, if_neg h0]
      have e3 : on L (k + 1) = on L k := by rw [on, if_neg h0]
      have e4 : ∀ n, cnk L (k + 1) n = cnk L k n := fun n => by rw [cnk_next, hz, if_neg (fun g => by have := g.2; omega)]; rfl
      have hm2 : mo L (k + 1) = mo L k := by rw [hm, hz]; simp
      have hs := su_cong (cnk L k) (cnk L (k + 1)) e4 16
      exact ⟨by rw [hs, e2]; exact ih.sum, by rw [e1, hm2]; exact ih.none, by rw [e1, e4]; exact ih.least, by rw [e1, e3, hm2]; exact ih.one, by rw [e1, hm2, e4]; exact ih.all, by rw [e1, e2]; exact ih.pos⟩
/-- the document's test is the program's -/
theorem fits_said {L : List Int} (hok : okL L L.length) : fitsB (cn L) (mo L L.length) = true ↔ ¬ (0 < wq L L.length ∧ ss L L.length ≠ 32768 ∧ ¬ (wq L L.length = 1 ∧ on L L.length = true)) := by
  have h := sums hok
  have e : su (cn L) 16 = ss L L.length := h.sum
  have e1 : cn L 1 = cnk L L.length 1 := rfl
  have q1 := h.none
  have q2 := h.least
  have q3 := h.one
  have q4 := h.all
  have q5 := h.pos
  unfold fitsB
  rw [e, e1]
  simp only [Bool.or_eq_true, Bool.and_eq_true, decide_eq_true_eq]
  constructor
  · rintro (g | g | ⟨g1, g2⟩) ⟨a1, a2, a3⟩
    · exact a2 g
    · omega
    · have := q4 g1
      exact a3 ⟨by omega, (q3 (by omega)).2 g1⟩
  · intro hn
    by_cases g1 : ss L L.length = 32768
    · exact .inl g1
    · by_cases g2 : 0 < wq L L.length
      · by_cases g3 : wq L L.length = 1 ∧ on L L.length = true
        · have hm := (q3 g3.1).1 g3.2
          exact .inr (.inr ⟨hm, by have := q4 hm; omega⟩)
        · exact absurd ⟨g2, g1, g3⟩ hn
      · exact .inr (.inl (by omega))

/-- a word's digits, as characters -/
def chs (l : List Nat) : List Nat := l.map fun d => 48 + d
def txt (V m : Nat) : List Nat := chs (codeOf V m m)
theorem txt_len (V m : Nat) : (txt V m).length = m := by simp [txt, chs, codeOf]
theorem txt_get {V m i : Nat} (hi : i < m) : (txt V m)[i]? = some (48 + V / 2 ^ (m - 1 - i) % 2) := by
  simp [txt, chs, codeOf, hi]
theorem txt_getD {V m i : Nat} (hi : i < m) : (txt V m).getD i 0 = 48 + V / 2 ^ (m - 1 - i) % 2 := by
  rw [List.getD_eq_getElem?_getD, txt_get hi]; rfl
theorem txt_byte (V m : Nat) : ∀ x ∈ txt V m, x < 256 := by
  intro x hx
  simp only [txt, chs, codeOf, List.mem_map] at hx
  obtain ⟨d, ⟨i, _, rfl⟩, rfl⟩ := hx
  omega
theorem ext_getQ {l r : List Nat} {m : Nat} (hl : l.length = m) (hr : r.length = m) (h : ∀ i, i < m → l[i]? = r[i]?) : l = r := by
  apply List.ext_getElem?
  intro i
  rcases Nat.lt_or_ge i m with g | g
  · exact h i g
  · rw [List.getElem?_eq_none (by omega), List.getElem?_eq_none (by omega)]
theorem txt_zero (U m : Nat) : txt U m ++ [48] = txt (2 * U) (m + 1) := by
  refine ext_getQ (m := m + 1) (by simp [txt_len]) (txt_len _ _) (fun i hi => ?_)
  rw [txt_get hi]
  rcases Nat.lt_or_ge i m with g | g
  · rw [List.getElem?_append_left (by rw [txt_len]; exact g), txt_get g, show m + 1 - 1 - i = (m - 1 - i) + 1 from by omega, Nat.pow_succ, Nat.mul_comm (2 ^ _) 2, ← Nat.div_div_eq_div_mul]
    congr 4
    omega
  · obtain rfl : i = m := by omega
    rw [List.getElem?_append_right (by rw [txt_len]; omega), txt_len]
    simp
/-- one digit set, where those behind it are noughts -/
theorem txt_set {q j m d : Nat} (hj : j < m) (hd : d < 2) : (txt (q * 2 ^ j) m).set (m - 1 - j) (48 + d) = txt ((q / 2 * 2 + d) * 2 ^ j) m := by
  refine ext_getQ (m := m) (by simp [txt_len]) (txt_len _ _) (fun i hi => ?_)
  rw [txt_get hi, List.getElem?_set]
  by_cases e : m - 1 - j = i
  · rw [if_pos e, if_pos (by rw [txt_len]; omega), show m - 1 - i = j from by omega, Nat.mul_div_cancel _ (Nat.two_pow_pos _)]
    congr 2
    omega
  · rw [if_neg e, txt_get hi]
    congr 2
    obtain ⟨t, ht⟩ : ∃ t, t = m - 1 - i := ⟨_, rfl⟩
    rw [← ht]
    rcases Nat.lt_or_ge t j with g | g
    · obtain ⟨u, rfl⟩ : ∃ u, j = t + (u + 1) := ⟨j - t - 1, by omega⟩
      have h1 : ∀ z : Nat, z * 2 ^ (t + (u + 1)) / 2 ^ t % 2 = 0 := fun z => by
        rw [Nat.pow_add, Nat.mul_comm (2 ^ t), ← Nat.mul_assoc, Nat.mul_div_cancel _ (Nat.two_pow_pos _), Nat.pow_succ]
        rw [← Nat.mul_assoc]; omega
      rw [h1, h1]
    · obtain ⟨u, rfl⟩ : ∃ u, t = j + (u + 1) := ⟨t - j - 1, by omega⟩
      have h1 : ∀ z : Nat, z * 2 ^ j / 2 ^ (j + (u + 1)) = z / 2 / 2 ^ u := fun z => by
        rw [Nat.pow_add, ← Nat.div_div_eq_div_mul, Nat.mul_div_cancel _ (Nat.two_pow_pos _), Nat.pow_succ, Nat.mul_comm (2 ^ u) 2, ← Nat.div_div_eq_div_mul]
      rw [h1, h1]
      congr 2
      omega
theorem txt_nil : txt 0 0 = [] := rfl

/-- a symbol's place: how many of its length stand before it -/
theorem sy_pre (L : List Int) (n s : Nat) : ∀ d, ∃ r, sy L (s + d) n = sy L s n ++ r
  | 0 => ⟨[], by simp⟩
  | d + 1 => by
    obtain ⟨r, hr⟩ := sy_pre L n s d
    by_cases h : 0 < n ∧ L.getD (s + d) 0 = (n : Int)
    · exact ⟨r ++ [((s + d : Nat) : Int)], by rw [← Nat.add_assoc, sy_hit h.1 h.2, hr, List.append_assoc]⟩
    · refine ⟨r, ?_⟩
      rw [← Nat.add_assoc]
      by_cases hn : n = 0
      · subst hn; rw [sy_zero] at hr ⊢; exact hr
      · rw [sy_miss (fun e => h ⟨by omega, e⟩), hr]
theorem pl_is {L : List Int} {s n : Nat} (hn : 0 < n) (hs : s < L.length) (h : L.getD s 0 = (n : Int)) : pl L s = cnk L s n := by
  obtain ⟨p1, p2⟩ := pl_ok hn hs h
  obtain ⟨r, hr⟩ := sy_pre L n (s + 1) (L.length - (s + 1))
  rw [show s + 1 + (L.length - (s + 1)) = L.length from by omega, sy_hit hn h, List.append_assoc] at hr
  have hq : cnk L s n < (sy L L.length n).length := by rw [hr]; simp [cnk]
  have hg : (sy L L.length n).getD (cnk L s n) 0 = (s : Int) := by
    rw [hr, List.getD_eq_getElem?_getD, List.getElem?_append_right (by unfold cnk; omega)]
    simp [cnk]
  rcases Nat.lt_trichotomy (pl L s) (cnk L s n) with g | g | g
  · have := sy_lt g hq; omega
  · exact g
  · have := sy_lt g p1; omega
end Go.Proofs.YtpbijdoemdoijaaGreatDoor
end PkCa47_2
section PkCa47_3
/- The document's answer for prefix codes, walked: Check, Number. -/
namespace Go.Proofs.YtpbijdoemdoijaaGreatDoor
open Go.RowKit PrefPlain BitsPlain
set_option linter.unusedVariables false

/-- where the loop over the lengths stands -/
structure Ck (L : List Int) (k u v : Nat) (b : Bool) : Prop where
  ok : okL L k
  u : u = ss L k
  v : v = wq L k
  b : b = on L k
theorem pow_int (x : Nat) (h : x ≤ 15) : (32768 : Int) / 2 ^ x = ((2 ^ (15 - x) : Nat) : Int) := by
  have e : (2 : Nat) ^ (15 - x) = 32768 / 2 ^ x := by
    have h1 : (32768 : Nat) = 2 ^ (15 - x) * 2 ^ x := by rw [← Nat.pow_add, Nat.sub_add_cancel h]
    rw [h1, Nat.mul_div_cancel _ (Nat.two_pow_pos _)]
  rw [e]
  have h2 : ∀ V : Nat, (V : Int) / 2 ^ x = ((V / 2 ^ x : Nat) : Int) := fun V => by push_cast; rfl
  exact h2 32768
theorem Ck.hit {L : List Int} {k u v x : Nat} {b : Bool} (h : Ck L k u v b) (hx : L.getD k 0 = (x : Int)) (h0 : 0 < x) (h15 : x ≤ 15) : Ck L (k + 1) (u + 2 ^ (15 - x)) (v + 1) ((x : Int) == 1) := by
  have hp : 0 < L.getD k 0 := by omega
  exact ⟨okL_succ h.ok (by omega), by rw [ss, if_pos hp, hx, Int.toNat_natCast, h.u], by rw [wq, if_pos hp, h.v], by rw [on, if_pos hp, hx]⟩
theorem Ck.miss {L : List Int} {k u v : Nat} {b : Bool} (h : Ck L k u v b) (hx : L.getD k 0 = 0) : Ck L (k + 1) u v b := by
  have hp : ¬ 0 < L.getD k 0 := by omega
  exact ⟨okL_succ h.ok (by omega), by rw [ss, if_neg hp, h.u], by rw [wq, if_neg hp, h.v], by rw [on, if_neg hp, h.b]⟩
theorem mk_ok {L : List Int} (hl : L.length ≤ 320) (hok : okL L L.length) : mk L = if fitsB (cn L) (mo L L.length) = false then 4 else 0 := by
  unfold mk
  rw [if_neg (by omega), if_neg (by rw [allOk_of hok]; simp)]
theorem ck_no {L : List Int} {u v : Nat} {b : Bool} (h : Ck L L.length u v b) (hl : L.length ≤ 320) (h1 : 0 < v) (h2 : u ≠ 32768) (h3 : ¬ (v = 1 ∧ b = true)) : mk L = 4 := by
  rw [mk_ok hl h.ok, if_pos]
  have := fits_said h.ok
  rw [← h.u, ← h.v, ← h.b] at this
  rw [← Bool.not_eq_true, this]
  exact fun g => g ⟨h1, h2, h3⟩
theorem ck_yes {L : List Int} {u v : Nat} {b : Bool} (h : Ck L L.length u v b) (hl : L.length ≤ 320) (h1 : v = 0 ∨ u = 32768 ∨ (v = 1 ∧ b = true)) : mk L = 0 := by
  rw [mk_ok hl h.ok, if_neg]
  have := fits_said h.ok
  rw [← h.u, ← h.v, ← h.b] at this
  rw [Bool.not_eq_false, this]
  rintro ⟨a1, a2, a3⟩
  rcases h1 with g | g | g
  · omega
  · exact a2 g
  · exact a3 g
theorem mk_bad {L : List Int} {k : Nat} (hl : L.length ≤ 320) (hk : k < L.length) (h : L.getD k 0 < 0 ∨ 15 < L.getD k 0) : mk L = 1 := by
  unfold mk
  rw [if_neg (by omega), if_pos (allOk_no hk h)]

set_option maxRecDepth 100000 in
set_option maxHeartbeats 4000000 in
theorem pcheck_any {w : World} {a : Option Addr} {n c : Nat} {L : List Int} (h : IntsAt .i64 w a n c L) :
    Calls Tryz.prog 165 #[.slice a n c] w fun e w' => e = .returned (.int .i64 ((mk L : Nat) : Int)) ∧ w = w' := by
  have hlen := h.len
  have hcap := h.cap
  have hcm := h.capm
  have HH := Lib.hid h
  have HL := Lib.hid hlen
  clear h hlen
  by_cases hbig : (320 : Int) < (n : Int)
  · have HM := Lib.hid (show mk L = 5 by unfold mk; rw [if_pos (by rw [HL.out]; omega)])
    go_enter Tryz.func165, Tryz.ntmps165
    go_wp2_with fail
    go_ret
    rw [HM.out]
    exact ⟨rfl, rfl⟩
  · have hbig2 : (n : Int) ≤ 320 := by omega
    have HL2 := Lib.hid (show L.length ≤ 320 by rw [HL.out]; omega)
    clear hbig
    go_enter Tryz.func165, Tryz.ntmps165
    go_wp2_with fail
    go_loop [3, 4, 5, 13] (fun s3 s4 s5 s13 => ∃ (k u v : Nat) (b : Bool), k ≤ n ∧ u ≤ 32768 * k ∧ v ≤ k ∧ s13 = .int .i64 k ∧ s3 = .int .i64 (u : Int) ∧ s4 = .int .i64 (v : Int) ∧ s5 = .bool b ∧ Hid (Ck L k u v b)) (fun _ _ _ s13 => n - (intOf s13).toNat)
    case atStart => exact ⟨0, 0, 0, false, by omega, by omega, by omega, rfl, rfl, rfl, rfl, Lib.hid ⟨fun s hs => by omega, rfl, rfl, rfl⟩⟩
    case round =>
      obtain ⟨k, u, v, b, hk, hu, hv, rfl, rfl, rfl, rfl, HC⟩ := hrel
      by_cases hkn : k < n
      · obtain ⟨g, off, rfl, hlt, hcell⟩ := HH.out.cells (by omega)
        have hck := hcell k hkn
        obtain ⟨x, hx⟩ : ∃ x, x = L.getD k 0 := ⟨_, rfl⟩
        rw [← hx] at hck
        by_cases hneg : x < 0
        · have HM := Lib.hid (mk_bad HL2.out (by rw [HL.out]; exact hkn) (.inl (by omega)))
          clear hcell hx
          go_wp2_with fail
          go_ret
          rw [HM.out]
          exact ⟨rfl, rfl⟩
        · by_cases h15 : 15 < x
          · have HM := Lib.hid (mk_bad HL2.out (by rw [HL.out]; exact hkn) (.inr (by omega)))
            have hneg2 : 0 ≤ x := by omega
            clear hcell hx hneg
            go_wp2_with fail
            go_ret
            rw [HM.out]
            exact ⟨rfl, rfl⟩
          · obtain ⟨y, rfl⟩ := Int.eq_ofNat_of_zero_le (show 0 ≤ x by omega)
            have hy15 : (y : Int) ≤ 15 := by omega
            by_cases h0 : 0 < y
            · have HC2 := Lib.hid (HC.out.hit hx.symm h0 (by omega))
              have hp := pow_le_15 (n := 15 - y) (by omega)
              have e1 := pow_int y (by omega)
              obtain ⟨z, hz⟩ : ∃ z, z = 2 ^ (15 - y) := ⟨_, rfl⟩
              rw [← hz] at HC2 e1 hp
              have h0' : 0 < (y : Int) := by omega
              clear hcell hx hneg h15 hz h0
              go_wp2_with fail
              go_round
              case rel => exact ⟨k + 1, u + z, v + 1, (y : Int) == 1, by omega, by omega, by omega, by go_num, by go_num, by go_num, rfl, HC2⟩
              case measure => simp [intOf]; omega
            · obtain rfl : y = 0 := by omega
              have HC2 := Lib.hid (HC.out.miss hx.symm)
              clear hcell hx hneg h15 h0
              go_wp2_with fail
              go_round
              case rel => exact ⟨k + 1, u, v, b, by omega, by omega, by omega, by go_num, rfl, rfl, rfl, HC2⟩
              case measure => simp [intOf]; omega
      · obtain rfl : k = n := by omega
        have HC2 := Lib.hid (show Ck L L.length u v b by rw [HL.out]; exact HC.out)
        by_cases h1 : v = 0
        · subst h1
          have HM := Lib.hid (ck_yes HC2.out HL2.out (.inl rfl))
          go_wp2_with fail
          go_ret
          rw [HM.out]
          exact ⟨rfl, rfl⟩
        · have h1' : (0 : Int) < (v : Int) := by omega
          by_cases h2 : u = 32768
          · have e2 : ((u : Int) != 32768) = false := by rw [bne_eq_false_iff_eq]; omega
            have HM := Lib.hid (ck_yes HC2.out HL2.out (.inr (.inl h2)))
            clear h1 h2
            go_wp2_with fail
            go_ret
            rw [HM.out]
            exact ⟨rfl, rfl⟩
          · have e2 : ((u : Int) != 32768) = true := by rw [bne_iff_ne]; omega
            by_cases h3 : v = 1
            · have e3 : ((v : Int) == 1) = true := by rw [beq_iff_eq]; omega
              cases b
              · have HM := Lib.hid (ck_no HC2.out HL2.out (by omega) h2 (by simp))
                clear h1 h2 h3
                go_wp2_with fail
                go_ret
                rw [HM.out]
                exact ⟨rfl, rfl⟩
              · have HM := Lib.hid (ck_yes HC2.out HL2.out (.inr (.inr ⟨h3, rfl⟩)))
                clear h1 h2 h3
                go_wp2_with fail
                go_ret
                rw [HM.out]
                exact ⟨rfl, rfl⟩
            · have e3 : ((v : Int) == 1) = false := by rw [beq_eq_false_iff_ne]; omega
              have HM := Lib.hid (ck_no HC2.out HL2.out (by omega) h2 (fun g => h3 g.1))
              clear h1 h2 h3
              go_wp2_with fail
              go_ret
              rw [HM.out]
              exact ⟨rfl, rfl⟩

theorem bs_size (xs : List Nat) : (bs xs).size = xs.length := by
  have h : (bs xs).data.toList.length = xs.length := by simp [bs, strOfNums_data]
  simpa using h
theorem bs_at {xs : List Nat} (hx : ∀ x ∈ xs, x < 256) {i : Nat} (hi : i < (bs xs).size) : ((bs xs)[i]'hi).toNat = xs.getD i 0 := by
  have hi2 : i < xs.length := by rw [bs_size] at hi; exact hi
  have h : ((bs xs)[i]'hi) = (bs xs).data.toList[i]'(by simpa using hi) := by simp; rfl
  rw [h]
  have hb : xs[i] < 256 := hx _ (List.getElem_mem hi2)
  simp [bs, strOfNums_data, hi2, Nat.mod_eq_of_lt hb]
theorem num_step (V m k : Nat) (hk : k < m) : V / 2 ^ (m - (k + 1)) = 2 * (V / 2 ^ (m - k)) + V / 2 ^ (m - 1 - k) % 2 := by
  rw [show m - k = (m - 1 - k) + 1 from by omega, show m - (k + 1) = m - 1 - k from by omega, Nat.pow_succ, ← Nat.div_div_eq_div_mul]
  omega

end Go.Proofs.YtpbijdoemdoijaaGreatDoor
end PkCa47_3
