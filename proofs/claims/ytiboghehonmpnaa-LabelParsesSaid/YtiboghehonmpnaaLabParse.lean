/- Package label's Parse, walked: the set of a text, or none. -/
import Derived.Test.YtiboghehonmpnaaLabParts
namespace Go.Proofs.Ytiboghehonmpnaa
open Go.RowKit LabPlain
set_option linter.unusedVariables false

theorem index_app (x : UInt8) (t r : List UInt8) : ∀ a : List UInt8, (∀ c ∈ a, c ≠ x) → Lib.index (a ++ (x :: t ++ r)) (x :: t) = (a.length : Int)
  | [], _ => by
    have hp : (x :: t).isPrefixOf (x :: (t ++ r)) = true := by rw [List.isPrefixOf_iff_prefix]; exact ⟨r, rfl⟩
    show (if (x :: t).isPrefixOf (x :: (t ++ r)) = true then (0 : Int) else _) = _
    rw [if_pos hp]; rfl
  | c :: a, h => by
    have hc := h c (by simp)
    have ih := index_app x t r a (fun z hz => h z (by simp [hz]))
    show (if (x :: t).isPrefixOf (c :: (a ++ (x :: t ++ r))) = true then (0 : Int) else if Lib.index (a ++ (x :: t ++ r)) (x :: t) == -1 then -1 else Lib.index (a ++ (x :: t ++ r)) (x :: t) + 1) = _
    rw [ih, if_neg (by simp only [List.isPrefixOf_iff_prefix, List.cons_prefix_cons]; exact fun e => hc e.1.symm), if_neg (by rw [beq_iff_eq]; omega), List.length_cons]; omega
theorem cut_app (x : UInt8) (t r a : List UInt8) (h : ∀ c ∈ a, c ≠ x) : Lib.cut (a ++ (x :: t ++ r)) (x :: t) = (a, r, true) := by
  unfold Lib.cut
  rw [index_app x t r a h, if_pos (by omega), Int.toNat_natCast]
  simp
theorem dg_ne {n : Nat} (h : n < 16) : UInt8.ofNat (dg n) ≠ 34 := by
  intro e
  have e2 : (UInt8.ofNat (dg n)).toNat = 34 := by rw [e]; rfl
  rw [UInt8.toNat_ofNat', Nat.mod_eq_of_lt (dg_lt n h)] at e2
  unfold dg at e2
  split at e2 <;> omega
theorem qu_ne34 (c : UInt8) : ∀ x ∈ qu c, x ≠ 34 := by
  cases hc : plainC c.toNat with
  | true =>
    rw [qu_plain hc]
    intro x hx e
    rw [List.mem_singleton] at hx
    subst hx; subst e; revert hc; decide
  | false =>
    have hl := UInt8.toNat_lt c
    rw [qu_not hc]
    intro x hx
    simp only [List.mem_cons, List.not_mem_nil, or_false] at hx
    rcases hx with rfl | rfl | rfl
    · decide
    · exact dg_ne (by omega)
    · exact dg_ne (by omega)
theorem stepP_whole {x : Lab} (h : isNm x.1 = true) (r : List UInt8) : stepP (lt1 x ++ r) = some (x, r) := by
  have h1 : ∀ c ∈ tb x.1, c ≠ 61 := fun c hc e => by
    have := isNm_ok h c hc
    rw [e] at this
    exact absurd this (by decide)
  have h2 : ∀ c ∈ (tb x.2).flatMap qu, c ≠ 34 := fun c hc => by
    obtain ⟨d, _, hd⟩ := List.mem_flatMap.1 hc
    exact qu_ne34 d c hd
  have e1 : lt1 x ++ r = tb x.1 ++ (61 :: [34] ++ ((tb x.2).flatMap qu ++ (34 :: [] ++ r))) := by unfold lt1; simp
  have c1 := cut_app 61 [34] ((tb x.2).flatMap qu ++ (34 :: [] ++ r)) (tb x.1) h1
  have c2 := cut_app 34 [] r ((tb x.2).flatMap qu) h2
  unfold stepP
  rw [e1, c1]
  show (if true = false then none else if (Lib.cut ((tb x.2).flatMap qu ++ (34 :: [] ++ r)) [34]).2.2 = false then none else some ((bt (tb x.1), plainS (Lib.cut ((tb x.2).flatMap qu ++ (34 :: [] ++ r)) [34]).1), (Lib.cut ((tb x.2).flatMap qu ++ (34 :: [] ++ r)) [34]).2.1)) = _
  rw [c2, if_neg (by decide)]
  show (if true = false then none else some ((bt (tb x.1), plainS ((tb x.2).flatMap qu)), r)) = _
  rw [if_neg (by decide), bt_tb]
  have : plainS ((tb x.2).flatMap qu) = x.2 := by
    unfold plainS
    rw [plF_whole _ _ (by omega)]
    apply tb_inj
    rw [tb_bs, List.map_map]
    conv => rhs; rw [← List.map_id (tb x.2)]
    apply List.map_congr_left
    intro c _
    simp
  rw [this]
theorem parts_whole : ∀ (m : List Lab) (k : Nat) (acc : List Lab), m ≠ [] → m.length ≤ k → (∀ x ∈ m, isNm x.1 = true) → partsF k acc (bodyT m) = (acc ++ m, true)
  | [], _, _, h, _, _ => absurd rfl h
  | x :: r, 0, _, _, h, _ => by simp at h
  | [x], k + 1, acc, _, _, hn => by
    rw [bodyT, partsF, stepP_whole (hn x (by simp))]
    show (if ([125] : List UInt8) = [125] then (acc ++ [x], true) else _) = _
    rw [if_pos rfl]
  | x :: y :: r, k + 1, acc, _, hk, hn => by
    rw [bodyT, partsF, stepP_whole (hn x (by simp))]
    show (if 44 :: bodyT (y :: r) = ([125] : List UInt8) then (acc ++ [x], true) else if Lib.hasPrefix (44 :: bodyT (y :: r)) [44] = true then partsF k (acc ++ [x]) (Lib.trimPrefix (44 :: bodyT (y :: r)) [44]) else ([], false)) = _
    have hp : Lib.hasPrefix (44 :: bodyT (y :: r)) [44] = true := by unfold Lib.hasPrefix; rw [List.isPrefixOf_iff_prefix]; exact ⟨bodyT (y :: r), rfl⟩
    have ht : Lib.trimPrefix (44 :: bodyT (y :: r)) [44] = bodyT (y :: r) := by unfold Lib.trimPrefix; rw [if_pos hp]; rfl
    rw [if_neg (by intro e; simp at e), if_pos hp, ht, parts_whole (y :: r) k (acc ++ [x]) (by simp) (by simpa using hk) (fun z hz => hn z (by simp [List.mem_cons.1 hz]))]
    simp
theorem partsR_whole {l : List Lab} (h : isSet l = true) : partsR (textOf l) = (l, true) := by
  have h4 : l.length ≤ 4 ∧ (∀ x ∈ l, isNm x.1 = true) := by
    unfold isSet at h
    simp only [Bool.and_eq_true, decide_eq_true_eq] at h
    refine ⟨h.1, fun x hx => ?_⟩
    obtain ⟨i, hi, rfl⟩ := List.getElem_of_mem hx
    have := (upTo_le h.2 hi).1
    simpa [hi] using this
  have hp : Lib.hasPrefix (123 :: bodyT l) [123] = true := by unfold Lib.hasPrefix; rw [List.isPrefixOf_iff_prefix]; exact ⟨bodyT l, rfl⟩
  have ht : Lib.trimPrefix (123 :: bodyT l) [123] = bodyT l := by unfold Lib.trimPrefix; rw [if_pos hp]; rfl
  unfold partsR
  rw [tb_textOf, if_pos hp, ht]
  cases l with
  | nil => rfl
  | cons x r =>
    rw [if_neg, parts_whole (x :: r) 4 [] (by simp) h4.1 h4.2]
    · rfl
    · intro e
      have hlen := congrArg List.length e
      cases r with
      | nil => simp [bodyT, lt1] at hlen; omega
      | cons y r => simp [bodyT, lt1] at hlen; omega

set_option maxRecDepth 100000 in
set_option maxHeartbeats 2000000 in
theorem parse_any (s : ByteArray) (hs : s.size ≤ 1000) (mx : Int) (w : World) (hmx : w.cell? ⟨0, 0, none⟩ = some (.int .i64 mx)) :
    Calls Try.prog 18 #[.string s] w fun e w' => ∃ a n c, e = .returned (.tuple #[.slice a n c, .int .i64 (if (setIn s).isSome then 0 else 4)]) ∧ LabsAt w' a n c ((setIn s).getD []) ∧ Below w.heap.size w w' := by
  have HP := Lib.hid (parts_any s hs mx w hmx)
  obtain ⟨R, hR⟩ : ∃ R, R = partsR s := ⟨_, rfl⟩
  rw [← hR] at HP
  obtain ⟨l, ok⟩ := R
  have none_of : ∀ (h : ∀ m, isSet m = true → textOf m = s → False), setIn s = none := fun h => by
    cases hx : setIn s with
    | none => rfl
    | some m => exact (h m (setIn_sound hx).1 (setIn_sound hx).2).elim
  cases ok with
  | false =>
    have HN := Lib.hid (none_of fun m h1 h2 => by
      rw [← h2, partsR_whole h1] at hR
      simp at hR)
    clear hR none_of
    rw [HN.out]
    go_enter Try.func18, Try.ntmps18
    go_wp2_with fail
    refine HP.out.mono ?_
    rintro e w1 ⟨a1, n1, c1, rfl, hat, hb⟩
    have HB := Lib.hid hb
    clear hat hb
    go_wp2_with fail
    go_ret2
    exact ⟨none, 0, 0, rfl, LabsAt.empty _ _ _ (by omega) (fun _ => rfl), HB.out⟩
  | true =>
    cases hs2 : isSet l with
    | false =>
      have HN := Lib.hid (none_of fun m h1 h2 => by
        rw [← h2, partsR_whole h1] at hR
        simp only [Prod.mk.injEq, and_true] at hR
        rw [hR, h1] at hs2; cases hs2)
      have HS := Lib.hid hs2
      clear hR none_of hs2
      rw [HN.out]
      go_enter Try.func18, Try.ntmps18
      go_wp2_with fail
      refine HP.out.mono ?_
      rintro e w1 ⟨a1, n1, c1, rfl, hat, hb⟩
      have HB := Lib.hid hb
      have HT := Lib.hid (text_no hat HS.out)
      clear hat hb
      go_wp2_with fail
      refine HT.out.mono ?_
      rintro e w2 ⟨rfl, hb2⟩
      have HB2 := Lib.hid (HB.out.trans (hb2.mono HB.out.size))
      clear hb2
      go_wp2_with fail
      go_ret2
      exact ⟨none, 0, 0, rfl, LabsAt.empty _ _ _ (by omega) (fun _ => rfl), HB2.out⟩
    | true =>
      have HS := Lib.hid hs2
      by_cases he : textOf l = s
      · have HN := Lib.hid (show setIn s = some l by rw [← he]; exact setIn_whole hs2)
        have hq : ((textOf l).toList == s.toList) = true := by rw [eq_toList]; exact decide_eq_true he
        clear hR none_of hs2 he
        rw [HN.out]
        go_enter Try.func18, Try.ntmps18
        go_wp2_with fail
        refine HP.out.mono ?_
        rintro e w1 ⟨a1, n1, c1, rfl, hat, hb⟩
        have HB := Lib.hid hb
        have HT := Lib.hid (text_yes hat HS.out)
        have HAT := Lib.hid hat
        clear hat hb
        go_wp2_with fail
        refine HT.out.mono ?_
        rintro e w2 ⟨rfl, hb2⟩
        have HB2 := Lib.hid (HB.out.trans (hb2.mono HB.out.size))
        have HA2 := Lib.hid (HAT.out.kept hb2)
        clear hb2
        go_wp2_with fail
        go_ret2
        exact ⟨_, _, _, rfl, HA2.out, HB2.out⟩
      · have HN := Lib.hid (none_of fun m h1 h2 => by
          rw [← h2, partsR_whole h1] at hR
          simp only [Prod.mk.injEq, and_true] at hR
          exact he (by rw [hR]; exact h2))
        have hq : ((textOf l).toList == s.toList) = false := by rw [eq_toList]; exact decide_eq_false he
        clear hR none_of hs2 he
        rw [HN.out]
        go_enter Try.func18, Try.ntmps18
        go_wp2_with fail
        refine HP.out.mono ?_
        rintro e w1 ⟨a1, n1, c1, rfl, hat, hb⟩
        have HB := Lib.hid hb
        have HT := Lib.hid (text_yes hat HS.out)
        clear hat hb
        go_wp2_with fail
        refine HT.out.mono ?_
        rintro e w2 ⟨rfl, hb2⟩
        have HB2 := Lib.hid (HB.out.trans (hb2.mono HB.out.size))
        clear hb2
        go_wp2_with fail
        go_ret2
        exact ⟨none, 0, 0, rfl, LabsAt.empty _ _ _ (by omega) (fun _ => rfl), HB2.out⟩
end Go.Proofs.Ytiboghehonmpnaa
