/- Twin, PutI and the document's PutU, walked. Condition: what comes in takes at most the reach. -/
import Derived.Test.YtbpimhklekcaiaaNumsPut
import Derived.Test.YtbpimhklekcaiaaNumsZig
import Derived.Laws.AppendOwnNone
namespace Go.Proofs.Ytbpimhklekcaiaa
open Go.RowKit NumsPlain
set_option linter.unusedVariables false

set_option maxRecDepth 100000 in
set_option maxHeartbeats 1000000 in
theorem twin_any {a : Option Addr} {n c : Nat} {xs : List Nat} {w : World} (h : BytesAt w a n c xs) :
    Calls Try.prog 19 #[.slice a n c] w fun e w' => ∃ v, e = .returned v ∧ w'.ownsRow w.heap.size 5 1 v n (bv xs) ∧ v ≠ .slice none 0 0 ∧ Below w.heap.size w w' := by
  obtain ⟨i0, hi, hz0, hz1, hz2⟩ := info_parts info_u8
  have hown0 := World.ownsRow_lit (base := w.heap.size) (e := 5) (size := 1) w #[] 0 (Nat.le_refl _) (by unfold maxLen; omega) rfl
  have hreach := h.reach
  have hlen := h.len
  rcases a with _ | ad
  · have hc0 := h.nl rfl
    have hn0 : n = 0 := by have := h.cap; omega
    subst hn0
    subst hc0
    obtain rfl : xs = [] := List.eq_nil_of_length_eq_zero hlen
    clear h
    go_enter Try.func19, Try.ntmps19
    go_wp2_with (at_builtin; refine wpList_append_own_none rfl (.tmp 3) (.tmp 4) 24 rfl w.heap.size 5 i0 1 Try.underlying24 hi _ _ _ rfl hown0 rfl ?_)
    go_ret
    exact ⟨_, rfl, hown0, (fun e => by cases e), (Below.refl _ _).alloc (Nat.le_refl _) _⟩
  · have hsrc := (h.alloc (.cells #[] 5)).src
    have HS := Lib.hid hsrc
    clear hsrc h
    go_enter Try.func19, Try.ntmps19
    go_wp2_with (at_builtin; refine wpList_append_own _ rfl (.tmp 3) (.tmp 4) 24 rfl w.heap.size 5 i0 (.int .u8 0) 1 1 Try.underlying24 hi hz0 hz1 hz2 rfl (by decide) _ _ _ rfl hown0 ad n c (bv xs) rfl ?c1 HS.out (bv_oneCell _) ?c3 ?c4 (by simp) ?_)
    case c1 => simp [bv_length, hlen]
    case c3 => unfold maxLen; omega
    case c4 => omega
    intro v' w1 hown' hgrow hnil
    go_wp2
    go_ret
    refine ⟨v', rfl, ?_, ?_, ?_⟩
    · simpa using hown'
    · exact hnil
    · exact ((Below.refl _ _).alloc (Nat.le_refl _) _).grown hgrow (by simp) (fun k hk => by simp [Value.ownBlock] at hk; omega)

/-- as a slice of bytes wherever -/
theorem twin {a : Option Addr} {n c : Nat} {xs : List Nat} {w : World} (h : BytesAt w a n c xs) :
    Calls Try.prog 19 #[.slice a n c] w fun e w' => ∃ g k, e = .returned (.slice (some ⟨g, 0, none⟩) n k) ∧ w.heap.size ≤ g ∧ g < w'.heap.size ∧
      w'.ownsRow w.heap.size 5 1 (.slice (some ⟨g, 0, none⟩) n k) n (bv xs) ∧ BytesAt w' (some ⟨g, 0, none⟩) n k xs ∧ Below w.heap.size w w' := by
  refine (twin_any h).mono ?_
  rintro e w' ⟨v, rfl, hown, hnn, hb⟩
  rcases hown.2 with ⟨h0, _⟩ | ⟨g, cap, cur, rfl, hg, hh, hn, hcap, hsz, htake⟩
  · exact absurd h0 hnn
  · have hlt : g < w'.heap.size := (Array.getElem?_eq_some_iff.1 hh).1
    refine ⟨g, cap, rfl, hg, hlt, hown, ⟨h.len, hn, h.byte, h.reach, (by unfold maxLen at hcap; exact hcap), (fun e => by cases e), fun hp => ⟨g, 0, rfl, hlt, fun i hi => ?_⟩⟩, hb⟩
    have := hown.cellAt i (by omega)
    rw [Nat.zero_add, this, bv_get _ _ (by have := h.len; omega)]

set_option maxHeartbeats 1000000 in
theorem puti (m : Int) (hlo : -9223372036854775808 ≤ m) (hhi : m ≤ 9223372036854775807) (w : World) :
    Calls Try.prog 18 #[.int .i64 m] w fun e w' => ∃ g c, e = .returned (.slice (some ⟨g, 0, none⟩) (pu (zig m)).length c) ∧ w.heap.size ≤ g ∧ BytesAt w' (some ⟨g, 0, none⟩) (pu (zig m)).length c (pu (zig m)) ∧ Below w.heap.size w w' := by
  have h1 := zig_any m hlo hhi w
  have h2 := putu (zig m) (zig_lt hlo hhi) w
  have H1 := Lib.hid h1
  have H2 := Lib.hid h2
  clear h1 h2
  go_enter Try.func18, Try.ntmps18
  go_wp2_with fail
  refine H1.out.mono ?_
  rintro e w' ⟨rfl, rfl⟩
  go_wp2_with fail
  refine H2.out.mono ?_
  rintro e w1 ⟨g1, c1, rfl, hg, hp1, hb1⟩
  go_wp2_with fail
  go_ret
  exact ⟨g1, c1, rfl, hg, hp1, hb1⟩

set_option maxRecDepth 100000 in
set_option maxHeartbeats 1000000 in
theorem rputu_any (n : Nat) (hn : n < 18446744073709551616) (w : World) :
    Calls Try.prog 13 #[.int .u64 n] w fun e w' => ∃ v, e = .returned v ∧ w'.ownsRow w.heap.size 5 1 v (pu n).length (bv (pu n)) ∧ Below w.heap.size w w' := by
  obtain ⟨i0, hi, hz0, hz1, hz2⟩ := info_parts info_u8
  have hown0 := World.ownsRow_lit (base := w.heap.size) (e := 5) (size := 1) w #[] 0 (Nat.le_refl _) (by unfold maxLen; omega) rfl
  have h3 := pu_ten hn
  have HN := Lib.hid hn
  clear hn
  go_enter Try.func13, Try.ntmps13
  go_wp2
  go_loopw [0, 3] (fun sn b wr => ∃ (m : Nat) (xs : List Nat), Hid (m < 18446744073709551616) ∧ sn = .int .u64 m ∧ wr.ownsRow w.heap.size 5 1 b xs.length (bv xs) ∧ Hid (xs ++ pu m = pu n) ∧ Below w.heap.size w wr) (fun sn _ _ => (intOf sn).toNat)
  case atStart => exact ⟨n, [], HN, rfl, hown0, Lib.hid rfl, (Below.refl _ _).alloc (Nat.le_refl _) _⟩
  case round =>
    obtain ⟨m, xs, HM, rfl, hown, HX, hnx⟩ := hrel
    have hl : xs.length ≤ 9 := by
      have h1 := congrArg List.length HX.out
      rw [List.length_append] at h1
      have h2 := pu_pos m
      omega
    have hB := hnx.size
    have hmm : m ≤ 18446744073709551615 := by have := HM.out; omega
    by_cases hlt : m < 128
    · have hq : ¬ (0 : Int) < (m : Int) / 128 := by omega
      go_wp2_with (at_builtin; refine wpList_append_own _ rfl (.tmp 17) (.tmp 20) 24 rfl w.heap.size 5 i0 (.int .u8 0) 1 1 Try.underlying24 hi hz0 hz1 hz2 rfl (by decide) _ _ _ rfl (hown.alloc _) ⟨wr.heap.size, 0, none⟩ 1 1 [.int .u8 m] rfl rfl (one_src _ _ _) (one_oneCell rfl) (by unfold maxLen; omega) (by omega) (by simp; omega) ?_)
      intro v' w1 hown' hgrow _
      go_wp2
      go_ret
      have hs := pu_small hlt
      have e1 : pu n = xs ++ [m] := by rw [← HX.out, hs]
      refine ⟨v', rfl, ?_, ?_⟩
      · rw [e1]; simpa [bv] using hown'
      · exact (hnx.alloc hnx.size _).grown hgrow (by simp; omega) (fun k hk => (hown.lt k hk).1)
    · have hq : (0 : Int) < (m : Int) / 128 := by omega
      go_wp2_with (at_builtin; refine wpList_append_own _ rfl (.tmp 8) (.tmp 13) 24 rfl w.heap.size 5 i0 (.int .u8 0) 1 1 Try.underlying24 hi hz0 hz1 hz2 rfl (by decide) _ _ _ rfl (hown.alloc _) ⟨wr.heap.size, 0, none⟩ 1 1 [.int .u8 (128 + (m : Int) % 128)] rfl rfl (one_src _ _ _) (one_oneCell rfl) (by unfold maxLen; omega) (by omega) (by simp; omega) ?_)
      intro v' w1 hown' hgrow _
      go_wp2
      have hs := pu_big (show 128 ≤ m by omega)
      have hm' := HM.out
      go_roundw
      case rel =>
        refine ⟨m / 128, xs ++ [128 + m % 128], Lib.hid (by omega), by go_num, ?_, ?_, ?_⟩
        · simpa [bv] using hown'
        · exact Lib.hid (by rw [← HX.out, hs]; simp)
        · exact (hnx.alloc hnx.size _).grown hgrow (by simp; omega) (fun k hk => (hown.lt k hk).1)
      case measure => simp [intOf]; omega

/-- as a slice of bytes wherever -/
theorem rputu (n : Nat) (hn : n < 18446744073709551616) (w : World) :
    Calls Try.prog 13 #[.int .u64 n] w fun e w' => ∃ g c, e = .returned (.slice (some ⟨g, 0, none⟩) (pu n).length c) ∧ w.heap.size ≤ g ∧ BytesAt w' (some ⟨g, 0, none⟩) (pu n).length c (pu n) ∧ Below w.heap.size w w' := by
  refine (rputu_any n hn w).mono ?_
  rintro e w' ⟨v, rfl, hown, hb⟩
  obtain ⟨g, c, rfl, h1, _, h2⟩ := BytesAt.own hown (pu_bytes hn) (pu_pos n) (by have := pu_ten hn; omega)
  exact ⟨g, c, rfl, h1, h2, hb⟩
end Go.Proofs.Ytbpimhklekcaiaa
