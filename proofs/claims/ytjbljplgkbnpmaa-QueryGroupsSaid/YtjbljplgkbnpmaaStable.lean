/- slices.stableCmpFunc, slices.SortStableFunc over rows. Written by genstable.py. -/
import Derived.Test.YtjbljplgkbnpmaaSym
import Derived.Test.YtjbljplgkbnpmaaPart
namespace Go.Proofs.Ytjbljplgkbnpmaa
open Go.ChangeShapes Go.WideShapes Go.Deep Go.RowKit Stab
set_option linter.unusedVariables false

set_option maxRecDepth 100000 in
theorem ins_nil {w : World} {s cmp : Value} {a b : Nat} (hba : b ≤ a) (ha : a ≤ 4611686018427387900) :
    Calls Try.prog 111 #[s, .int .i64 (a : Int), .int .i64 (b : Int), cmp] w fun e w' => e = .returned undef ∧ Below w.heap.size w w' := by
  go_enter Try.func111, Try.ntmps111
  go_wp2_with fail
  go_loopw [8, 9] (fun s8 s9 wr => s8 = .int .i64 ((a + 1 : Nat) : Int) ∧ Hid (Below w.heap.size w wr)) (fun _ _ _ => 0)
  case atStart => exact ⟨by go_num, Lib.hid (Below.refl _ _)⟩
  case round =>
    obtain ⟨rfl, HB⟩ := hrel
    rename World => wr
    have hn : ¬ ((a + 1 : Nat) : Int) < (b : Int) := by omega
    have hn2 : ¬ ((a : Int) + 1) < (b : Int) := by omega
    go_wp2_with fail
    first | go_end0 | refine bodyPost_ret (results_none rfl _ _ _) rfl ?_ | go_ret
    exact ⟨rfl, HB.out⟩

set_option maxRecDepth 100000 in
set_option maxHeartbeats 8000000 in
theorem stable_any {w : World} {g n c : Nat} {f : Nat → RowV} (h : Nines w g n f) (hg : g < w.heap.size) (hc : n ≤ c) (hcm : c ≤ 10000000000000) :
    Calls Try.prog 101 #[.slice (some ⟨g, 0, none⟩) n c, .int .i64 (n : Int), .func (.func 43) #[] #[]] w fun e w' => e = .returned undef ∧ (∃ u, Nines w' g n (vals u) ∧ Stable ltR f (vals u) n) ∧ Turns1 g w w' := by
  obtain ⟨t, ht⟩ : ∃ t : Nat → RowV × Nat, t = fun k => (f k, k) := ⟨_, rfl⟩
  have H := Lib.hid (show Nines w g n (vals t) by rw [ht]; exact h)
  have HP0 := Lib.hid (show Part ltR t t 1 20 0 n from Part.start (fun k => by rw [ht]))
  have hst : ∀ u : Nat → RowV × Nat, ∀ B C, Part ltR t u B C 0 n → n ≤ B → Stable ltR f (vals u) n := by
    intro u B C hp hn
    rw [ht] at hp
    exact hp.done hn
  have HST := Lib.hid hst
  clear h ht hst
  go_enter Try.func101, Try.ntmps101
  go_wp2_with fail
  go_loopw [7, 8] (fun s7 s8 wq => ∃ (a b : Nat) (v : Nat → RowV × Nat), a ≤ n ∧ (b ≤ a + 20 ∧ a + 20 ≤ b) ∧ s7 = .int .i64 (a : Int) ∧ s8 = .int .i64 (b : Int) ∧ Hid (∃ q, a = q * 20) ∧ Hid (Part ltR t v 1 20 a n) ∧ Hid (Nines wq g n (vals v)) ∧ Hid (Turns1 g w wq)) (fun s7 _ _ => n - (intOf s7).toNat)
  case atStart => exact ⟨0, 20, t, by omega, ⟨by omega, by omega⟩, rfl, rfl, Lib.hid ⟨0, by omega⟩, HP0, H, Lib.hid (Turns1.refl g w)⟩
  case round =>
    obtain ⟨a, b, v, han, hab, rfl, rfl, HA, HP1, HN1, HU1⟩ := hrel
    rename World => wq
    by_cases hbn : b ≤ n
    · have hbni : (b : Int) ≤ (n : Int) := by omega
      go_wp2_with fail
      refine (ins_any weak_ltR compare_any (t := v) (a := a) (b := b) HN1.out (Nat.lt_of_lt_of_le hg HU1.out.size) (by omega) hbn hc (by omega) (fun i j h1 h2 h3 => by
        have e1 := HP1.out.ageB i h1 (by omega)
        have e2 := HP1.out.ageB j (by omega) (by omega)
        rw [Nat.div_one, Nat.div_one] at e1 e2
        omega)).mono ?_
      rintro r w5 ⟨rfl, ⟨v1, hn5, hs5, hm5, ho5⟩, ht5⟩
      have HP2 := Lib.hid (show Part ltR t v1 1 20 b n from by
        obtain ⟨q, hq⟩ := HA.out
        have h := HP1.out.step (b := b) (s := 20) rfl (by omega) hq (by omega) hbn (by omega) (.inl (by omega)) hs5 hm5 ho5
        rw [show a + 20 = b by omega] at h
        exact h)
      have HA2 := Lib.hid (show ∃ q, b = q * 20 from by
        obtain ⟨q, hq⟩ := HA.out
        exact ⟨q + 1, by omega⟩)
      have HN2 := Lib.hid hn5
      have HU2 := Lib.hid (HU1.out.trans ht5)
      clear hn5 hs5 hm5 ho5 ht5
      go_wp2_with fail
      go_roundw
      case rel => exact ⟨b, b + 20, v1, hbn, ⟨by omega, by omega⟩, rfl, by first | rfl | go_num | exact congrArg (Value.int .i64) (by omega), HA2, HP2, HN2, HU2⟩
      case measure => simp [intOf]; omega
    · have hbni : ¬ (b : Int) ≤ (n : Int) := by omega
      by_cases hlast : a < n
      · go_wp2_with fail
        refine (ins_any weak_ltR compare_any (t := v) (a := a) (b := n) HN1.out (Nat.lt_of_lt_of_le hg HU1.out.size) hlast (Nat.le_refl _) hc (by omega) (fun i j h1 h2 h3 => by
          have e1 := HP1.out.ageB i h1 (by omega)
          have e2 := HP1.out.ageB j (by omega) (by omega)
          rw [Nat.div_one, Nat.div_one] at e1 e2
          omega)).mono ?_
        rintro r w5 ⟨rfl, ⟨v1, hn5, hs5, hm5, ho5⟩, ht5⟩
        have HPN := Lib.hid (show Part ltR t v1 20 (20 * 2) 0 n from by
          obtain ⟨q, hq⟩ := HA.out
          exact (HP1.out.step (b := n) (s := 20) rfl (by omega) hq (by omega) (Nat.le_refl _) (by omega) (.inr (Nat.le_refl _)) hs5 hm5 ho5).next (by omega) _)
        have HN2 := Lib.hid hn5
        have HU2 := Lib.hid (HU1.out.trans ht5)
        clear hn5 hs5 hm5 ho5 ht5
        go_wp2_with fail
        go_loopw [6, 7, 8, 9] (fun s6 s7 s8 s9 wr => ∃ (B : Nat) (u : Nat → RowV × Nat), 0 < B ∧ B ≤ 2 * n + 20 ∧ s6 = .int .i64 (B : Int) ∧ Hid (Part ltR t u B (B * 2) 0 n) ∧ Hid (Nines wr g n (vals u)) ∧ Hid (Turns1 g w wr)) (fun s6 _ _ _ _ => n - (intOf s6).toNat)
        case atStart => exact ⟨20, v1, by omega, by omega, rfl, HPN, HN2, HU2⟩
        case round =>
          obtain ⟨B, u, hB0, hBn, rfl, HP, HN, HU⟩ := hrel
          rename World => wr
          by_cases hlt : B < n
          · have hlti : (B : Int) < (n : Int) := by omega
            go_wp2_with fail
            go_loopw [7, 8] (fun s7 s8 wq => ∃ (a b : Nat) (v : Nat → RowV × Nat), a ≤ n ∧ (b ≤ a + B * 2 ∧ a + B * 2 ≤ b) ∧ s7 = .int .i64 (a : Int) ∧ s8 = .int .i64 (b : Int) ∧ Hid (∃ q, a = q * (B * 2)) ∧ Hid (Part ltR t v B (B * 2) a n) ∧ Hid (Nines wq g n (vals v)) ∧ Hid (Turns1 g w wq)) (fun s7 _ _ => n - (intOf s7).toNat)
            case atStart => exact ⟨0, B * 2, u, by omega, ⟨by omega, by omega⟩, rfl, by first | rfl | go_num | exact congrArg (Value.int .i64) (by omega), Lib.hid ⟨0, by omega⟩, HP, HN, HU⟩
            case round =>
              obtain ⟨a, b, v, han, hab, rfl, rfl, HA, HP1, HN1, HU1⟩ := hrel
              rename World => wq
              obtain ⟨m, hm⟩ : ∃ m : Nat, m ≤ a + B ∧ a + B ≤ m := ⟨a + B, by omega⟩
              have wm : (a : Int) + (B : Int) = (m : Int) := by omega
              by_cases hbn : b ≤ n
              · have hbni : (b : Int) ≤ (n : Int) := by omega
                have hnx : a < b ∧ B * 2 + b ≤ 100000000000000 := by omega
                go_wp2_with fail
                refine (sym_all (b - a) wq g n c v a m b (Nat.le_refl _) HN1.out (Nat.lt_of_lt_of_le hg HU1.out.size) (by omega) (by omega) hbn hc (by omega) (by
                    obtain ⟨q, hq⟩ := HA.out
                    exact (HP1.out.two (m := m) (b := b) rfl hB0 hq (by omega) (by omega) (by omega) (by omega)).1) (by
                    obtain ⟨q, hq⟩ := HA.out
                    exact (HP1.out.two (m := m) (b := b) rfl hB0 hq (by omega) (by omega) (by omega) (by omega)).2.1) (by
                    obtain ⟨q, hq⟩ := HA.out
                    exact (HP1.out.two (m := m) (b := b) rfl hB0 hq (by omega) (by omega) (by omega) (by omega)).2.2)).mono ?_
                rintro r w5 ⟨rfl, ⟨v1, hn5, hs5, hm5, ho5⟩, ht5⟩
                have HP2 := Lib.hid (show Part ltR t v1 B (B * 2) b n from by
                  obtain ⟨q, hq⟩ := HA.out
                  have h := HP1.out.step (b := b) (s := 2) rfl (by omega) hq (by omega) hbn (by omega) (.inl (by omega)) hs5 hm5 ho5
                  rw [show a + B * 2 = b by omega] at h
                  exact h)
                have HA2 := Lib.hid (show ∃ q, b = q * (B * 2) from by
                  obtain ⟨q, hq⟩ := HA.out
                  exact ⟨q + 1, by rw [Nat.add_one_mul]; omega⟩)
                have HN2 := Lib.hid hn5
                have HU2 := Lib.hid (HU1.out.trans ht5)
                clear hn5 hs5 hm5 ho5 ht5
                go_wp2_with fail
                go_roundw
                case rel => exact ⟨b, b + B * 2, v1, hbn, ⟨by omega, by omega⟩, rfl, by first | rfl | go_num | exact congrArg (Value.int .i64) (by omega), HA2, HP2, HN2, HU2⟩
                case measure => simp [intOf]; omega
              · have hbni : ¬ (b : Int) ≤ (n : Int) := by omega
                by_cases hmn : m < n
                · have hmni : (m : Int) < (n : Int) := by omega
                  go_wp2_with fail
                  refine (sym_all (n - a) wq g n c v a m n (Nat.le_refl _) HN1.out (Nat.lt_of_lt_of_le hg HU1.out.size) (by omega) (by omega) (Nat.le_refl _) hc (by omega) (by
                      obtain ⟨q, hq⟩ := HA.out
                      exact (HP1.out.two (m := m) (b := n) rfl hB0 hq (by omega) (by omega) (by omega) (by omega)).1) (by
                      obtain ⟨q, hq⟩ := HA.out
                      exact (HP1.out.two (m := m) (b := n) rfl hB0 hq (by omega) (by omega) (by omega) (by omega)).2.1) (by
                      obtain ⟨q, hq⟩ := HA.out
                      exact (HP1.out.two (m := m) (b := n) rfl hB0 hq (by omega) (by omega) (by omega) (by omega)).2.2)).mono ?_
                  rintro r w5 ⟨rfl, ⟨v1, hn5, hs5, hm5, ho5⟩, ht5⟩
                  have HP2 := Lib.hid (show Part ltR t v1 B (B * 2) (a + B * 2) n from by
                    obtain ⟨q, hq⟩ := HA.out
                    exact HP1.out.step (b := n) (s := 2) rfl (by omega) hq (by omega) (Nat.le_refl _) (by omega) (.inr (Nat.le_refl _)) hs5 hm5 ho5)
                  have HN2 := Lib.hid hn5
                  have HU2 := Lib.hid (HU1.out.trans ht5)
                  clear hn5 hs5 hm5 ho5 ht5
                  have HPN := Lib.hid (HP2.out.next (by omega) (B * 2 * 2))
                  go_wp2_with fail
                  go_roundw
                  case rel => exact ⟨B * 2, v1, by omega, by omega, by go_num, HPN, HN2, HU2⟩
                  case measure => simp [intOf]; omega
                · have hmni : ¬ (m : Int) < (n : Int) := by omega
                  have HP2 := Lib.hid (show Part ltR t v B (B * 2) (a + B * 2) n from by
                    obtain ⟨q, hq⟩ := HA.out
                    exact HP1.out.rest rfl hB0 hq han (by omega))
                  have HPN := Lib.hid (HP2.out.next (by omega) (B * 2 * 2))
                  go_wp2_with fail
                  go_roundw
                  case rel => exact ⟨B * 2, v, by omega, by omega, by go_num, HPN, HN1, HU1⟩
                  case measure => simp [intOf]; omega
          · have hlti : ¬ (B : Int) < (n : Int) := by omega
            go_wp2_with fail
            first | go_end0 | refine bodyPost_ret (results_none rfl _ _ _) rfl ?_ | go_ret
            exact ⟨rfl, ⟨u, HN.out, HST.out u _ _ HP.out (by omega)⟩, HU.out⟩
      · have HPN := Lib.hid (show Part ltR t v 20 (20 * 2) 0 n from HP1.out.next (by omega) _)
        go_wp2_with fail
        refine (ins_nil (a := a) (b := n) (by omega) (by omega)).mono ?_
        rintro r w5 ⟨rfl, hb5⟩
        have HN2 := Lib.hid (HN1.out.below (Nat.lt_of_lt_of_le hg HU1.out.size) hb5)
        have HU2 := Lib.hid (HU1.out.below hb5)
        clear hb5
        go_wp2_with fail
        go_loopw [6, 7, 8, 9] (fun s6 s7 s8 s9 wr => ∃ (B : Nat) (u : Nat → RowV × Nat), 0 < B ∧ B ≤ 2 * n + 20 ∧ s6 = .int .i64 (B : Int) ∧ Hid (Part ltR t u B (B * 2) 0 n) ∧ Hid (Nines wr g n (vals u)) ∧ Hid (Turns1 g w wr)) (fun s6 _ _ _ _ => n - (intOf s6).toNat)
        case atStart => exact ⟨20, v, by omega, by omega, rfl, HPN, HN2, HU2⟩
        case round =>
          obtain ⟨B, u, hB0, hBn, rfl, HP, HN, HU⟩ := hrel
          rename World => wr
          by_cases hlt : B < n
          · have hlti : (B : Int) < (n : Int) := by omega
            go_wp2_with fail
            go_loopw [7, 8] (fun s7 s8 wq => ∃ (a b : Nat) (v : Nat → RowV × Nat), a ≤ n ∧ (b ≤ a + B * 2 ∧ a + B * 2 ≤ b) ∧ s7 = .int .i64 (a : Int) ∧ s8 = .int .i64 (b : Int) ∧ Hid (∃ q, a = q * (B * 2)) ∧ Hid (Part ltR t v B (B * 2) a n) ∧ Hid (Nines wq g n (vals v)) ∧ Hid (Turns1 g w wq)) (fun s7 _ _ => n - (intOf s7).toNat)
            case atStart => exact ⟨0, B * 2, u, by omega, ⟨by omega, by omega⟩, rfl, by first | rfl | go_num | exact congrArg (Value.int .i64) (by omega), Lib.hid ⟨0, by omega⟩, HP, HN, HU⟩
            case round =>
              obtain ⟨a, b, v, han, hab, rfl, rfl, HA, HP1, HN1, HU1⟩ := hrel
              rename World => wq
              obtain ⟨m, hm⟩ : ∃ m : Nat, m ≤ a + B ∧ a + B ≤ m := ⟨a + B, by omega⟩
              have wm : (a : Int) + (B : Int) = (m : Int) := by omega
              by_cases hbn : b ≤ n
              · have hbni : (b : Int) ≤ (n : Int) := by omega
                have hnx : a < b ∧ B * 2 + b ≤ 100000000000000 := by omega
                go_wp2_with fail
                refine (sym_all (b - a) wq g n c v a m b (Nat.le_refl _) HN1.out (Nat.lt_of_lt_of_le hg HU1.out.size) (by omega) (by omega) hbn hc (by omega) (by
                    obtain ⟨q, hq⟩ := HA.out
                    exact (HP1.out.two (m := m) (b := b) rfl hB0 hq (by omega) (by omega) (by omega) (by omega)).1) (by
                    obtain ⟨q, hq⟩ := HA.out
                    exact (HP1.out.two (m := m) (b := b) rfl hB0 hq (by omega) (by omega) (by omega) (by omega)).2.1) (by
                    obtain ⟨q, hq⟩ := HA.out
                    exact (HP1.out.two (m := m) (b := b) rfl hB0 hq (by omega) (by omega) (by omega) (by omega)).2.2)).mono ?_
                rintro r w5 ⟨rfl, ⟨v1, hn5, hs5, hm5, ho5⟩, ht5⟩
                have HP2 := Lib.hid (show Part ltR t v1 B (B * 2) b n from by
                  obtain ⟨q, hq⟩ := HA.out
                  have h := HP1.out.step (b := b) (s := 2) rfl (by omega) hq (by omega) hbn (by omega) (.inl (by omega)) hs5 hm5 ho5
                  rw [show a + B * 2 = b by omega] at h
                  exact h)
                have HA2 := Lib.hid (show ∃ q, b = q * (B * 2) from by
                  obtain ⟨q, hq⟩ := HA.out
                  exact ⟨q + 1, by rw [Nat.add_one_mul]; omega⟩)
                have HN2 := Lib.hid hn5
                have HU2 := Lib.hid (HU1.out.trans ht5)
                clear hn5 hs5 hm5 ho5 ht5
                go_wp2_with fail
                go_roundw
                case rel => exact ⟨b, b + B * 2, v1, hbn, ⟨by omega, by omega⟩, rfl, by first | rfl | go_num | exact congrArg (Value.int .i64) (by omega), HA2, HP2, HN2, HU2⟩
                case measure => simp [intOf]; omega
              · have hbni : ¬ (b : Int) ≤ (n : Int) := by omega
                by_cases hmn : m < n
                · have hmni : (m : Int) < (n : Int) := by omega
                  go_wp2_with fail
                  refine (sym_all (n - a) wq g n c v a m n (Nat.le_refl _) HN1.out (Nat.lt_of_lt_of_le hg HU1.out.size) (by omega) (by omega) (Nat.le_refl _) hc (by omega) (by
                      obtain ⟨q, hq⟩ := HA.out
                      exact (HP1.out.two (m := m) (b := n) rfl hB0 hq (by omega) (by omega) (by omega) (by omega)).1) (by
                      obtain ⟨q, hq⟩ := HA.out
                      exact (HP1.out.two (m := m) (b := n) rfl hB0 hq (by omega) (by omega) (by omega) (by omega)).2.1) (by
                      obtain ⟨q, hq⟩ := HA.out
                      exact (HP1.out.two (m := m) (b := n) rfl hB0 hq (by omega) (by omega) (by omega) (by omega)).2.2)).mono ?_
                  rintro r w5 ⟨rfl, ⟨v1, hn5, hs5, hm5, ho5⟩, ht5⟩
                  have HP2 := Lib.hid (show Part ltR t v1 B (B * 2) (a + B * 2) n from by
                    obtain ⟨q, hq⟩ := HA.out
                    exact HP1.out.step (b := n) (s := 2) rfl (by omega) hq (by omega) (Nat.le_refl _) (by omega) (.inr (Nat.le_refl _)) hs5 hm5 ho5)
                  have HN2 := Lib.hid hn5
                  have HU2 := Lib.hid (HU1.out.trans ht5)
                  clear hn5 hs5 hm5 ho5 ht5
                  have HPN := Lib.hid (HP2.out.next (by omega) (B * 2 * 2))
                  go_wp2_with fail
                  go_roundw
                  case rel => exact ⟨B * 2, v1, by omega, by omega, by go_num, HPN, HN2, HU2⟩
                  case measure => simp [intOf]; omega
                · have hmni : ¬ (m : Int) < (n : Int) := by omega
                  have HP2 := Lib.hid (show Part ltR t v B (B * 2) (a + B * 2) n from by
                    obtain ⟨q, hq⟩ := HA.out
                    exact HP1.out.rest rfl hB0 hq han (by omega))
                  have HPN := Lib.hid (HP2.out.next (by omega) (B * 2 * 2))
                  go_wp2_with fail
                  go_roundw
                  case rel => exact ⟨B * 2, v, by omega, by omega, by go_num, HPN, HN1, HU1⟩
                  case measure => simp [intOf]; omega
          · have hlti : ¬ (B : Int) < (n : Int) := by omega
            go_wp2_with fail
            first | go_end0 | refine bodyPost_ret (results_none rfl _ _ _) rfl ?_ | go_ret
            exact ⟨rfl, ⟨u, HN.out, HST.out u _ _ HP.out (by omega)⟩, HU.out⟩

set_option maxRecDepth 100000 in
theorem stable_nil {w : World} {s cmp : Value} :
    Calls Try.prog 101 #[s, .int .i64 0, cmp] w fun e w' => e = .returned undef ∧ Below w.heap.size w w' := by
  go_enter Try.func101, Try.ntmps101
  go_wp2_with fail
  go_loopw [7, 8] (fun s7 s8 wq => s7 = .int .i64 0 ∧ s8 = .int .i64 20 ∧ Hid (Below w.heap.size w wq)) (fun _ _ _ => 0)
  case atStart => exact ⟨rfl, rfl, Lib.hid (Below.refl _ _)⟩
  case round =>
    obtain ⟨rfl, rfl, HB⟩ := hrel
    rename World => wq
    go_wp2_with fail
    refine (ins_nil (s := s) (cmp := cmp) (a := 0) (b := 0) (by omega) (by omega)).mono ?_
    rintro r w5 ⟨rfl, hb5⟩
    have HB5 := Lib.hid (HB.out.trans (hb5.mono HB.out.size))
    clear hb5
    go_wp2_with fail
    go_loopw [6, 7, 8, 9] (fun s6 s7 s8 s9 wr => s6 = .int .i64 20 ∧ Hid (Below w.heap.size w wr)) (fun _ _ _ _ _ => 0)
    case atStart => exact ⟨rfl, HB5⟩
    case round =>
      obtain ⟨rfl, HB6⟩ := hrel
      rename World => wr
      go_wp2_with fail
      first | go_end0 | refine bodyPost_ret (results_none rfl _ _ _) rfl ?_ | go_ret
      exact ⟨rfl, HB6.out⟩

set_option maxRecDepth 100000 in
theorem sorts_any {w : World} {g n c : Nat} {f : Nat → RowV} (h : Nines w g n f) (hg : g < w.heap.size) (hc : n ≤ c) (hcm : c ≤ 10000000000000) :
    Calls Try.prog 79 #[.slice (some ⟨g, 0, none⟩) n c, .func (.func 43) #[] #[]] w fun e w' => e = .returned undef ∧ (∃ u, Nines w' g n (vals u) ∧ Stable ltR f (vals u) n) ∧ Turns1 g w w' := by
  have H := Lib.hid h
  clear h
  go_enter Try.func79, Try.ntmps79
  go_wp2_with fail
  refine (stable_any H.out hg hc hcm).mono ?_
  rintro r w5 ⟨rfl, h5, ht5⟩
  have H5 := Lib.hid h5
  have HT := Lib.hid ht5
  clear h5 ht5
  go_wp2_with fail
  first | go_end0 | refine bodyPost_ret (results_none rfl _ _ _) rfl ?_ | go_ret
  exact ⟨rfl, H5.out, HT.out⟩
set_option maxRecDepth 100000 in
theorem sorts_nil {w : World} {a : Option Addr} {c : Nat} :
    Calls Try.prog 79 #[.slice a 0 c, .func (.func 43) #[] #[]] w fun e w' => e = .returned undef ∧ Below w.heap.size w w' := by
  go_enter Try.func79, Try.ntmps79
  go_wp2_with fail
  refine stable_nil.mono ?_
  rintro r w5 ⟨rfl, hb5⟩
  have HB := Lib.hid hb5
  clear hb5
  go_wp2_with fail
  first | go_end0 | refine bodyPost_ret (results_none rfl _ _ _) rfl ?_ | go_ret
  exact ⟨rfl, HB.out⟩
end Go.Proofs.Ytjbljplgkbnpmaa
