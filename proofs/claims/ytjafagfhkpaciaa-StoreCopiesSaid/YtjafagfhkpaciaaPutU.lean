/- The document's PutU, walked (XNPuti's part, for seats without package nums). -/
import Derived.Test.YtjafagfhkpaciaaNumsPlain
import Derived.Test.YtjafagfhkpaciaaOwn
import Derived.Laws.AppendOwnNone
namespace Go.Proofs.Ytjafagfhkpaciaa
open Go.RowKit NumsPlain
set_option linter.unusedVariables false

set_option maxRecDepth 100000 in
set_option maxHeartbeats 1000000 in
theorem rputu_any (n : Nat) (hn : n < 18446744073709551616) (w : World) :
    Calls Try.prog 35 #[.int .u64 n] w fun e w' => ∃ v, e = .returned v ∧ w'.ownsRow w.heap.size 5 1 v (pu n).length (bv (pu n)) ∧ Below w.heap.size w w' := by
  obtain ⟨i0, hi, hz0, hz1, hz2⟩ := info_parts info_u8
  have hown0 := World.ownsRow_lit (base := w.heap.size) (e := 5) (size := 1) w #[] 0 (Nat.le_refl _) (by unfold maxLen; omega) rfl
  have h3 := pu_ten hn
  have HN := Lib.hid hn
  clear hn
  go_enter Try.func35, Try.ntmps35
  go_wp2
  go_loopw [0, 3] (fun sn b wr => ∃ (m : Nat) (xs : List Nat), Hid (m < 18446744073709551616) ∧ sn = .int .u64 m ∧ wr.ownsRow w.heap.size 5 1 b xs.length (bv xs) ∧ Hid (xs ++ pu m = pu n) ∧ Below w.heap.size w wr) (fun sn _ _ => (intOf sn).toNat)
  case atStart => exact ⟨n, [], HN, rfl, hown0, Lib.hid rfl, (Below.refl _ _).alloc (Nat.le_refl _) _⟩
  case round =>
    obtain ⟨m, xs, HM, rfl, hown, HX, hnx⟩ := hrel
    have hl : xs.length ≤ 9 := by
      have h1 := congrArg List.length HX.out
      rw [List.length_append] at h1
      have h2 := pu_pos m
      omega
    have hB := hnx.size
    have hmm : m ≤ 18446744073709551615 := by have := HM.out; omega
    by_cases hlt : m < 128
    · have hq : ¬ (0 : Int) < (m : Int) / 128 := by omega
      go_wp2_with (at_builtin; refine wpList_append_own _ rfl (.tmp 17) (.tmp 20) 27 rfl w.heap.size 5 i0 (.int .u8 0) 1 1 Try.underlying27 hi hz0 hz1 hz2 rfl (by decide) _ _ _ rfl (hown.alloc _) ⟨wr.heap.size, 0, none⟩ 1 1 [.int .u8 m] rfl rfl (one_src _ _ _) (one_oneCell rfl) (by unfold maxLen; omega) (by omega) (by simp; omega) ?_)
      intro v' w1 hown' hgrow _
      go_wp2
      go_ret
      have hs := pu_small hlt
      have e1 : pu n = xs ++ [m] := by rw [← HX.out, hs]
      refine ⟨v', rfl, ?_, ?_⟩
      · rw [e1]; simpa [bv] using hown'
      · exact (hnx.alloc hnx.size _).grown hgrow (by simp; omega) (fun k hk => (hown.lt k hk).1)
    · have hq : (0 : Int) < (m : Int) / 128 := by omega
      go_wp2_with (at_builtin; refine wpList_append_own _ rfl (.tmp 8) (.tmp 13) 27 rfl w.heap.size 5 i0 (.int .u8 0) 1 1 Try.underlying27 hi hz0 hz1 hz2 rfl (by decide) _ _ _ rfl (hown.alloc _) ⟨wr.heap.size, 0, none⟩ 1 1 [.int .u8 (128 + (m : Int) % 128)] rfl rfl (one_src _ _ _) (one_oneCell rfl) (by unfold maxLen; omega) (by omega) (by simp; omega) ?_)
      intro v' w1 hown' hgrow _
      go_wp2
      have hs := pu_big (show 128 ≤ m by omega)
      have hm' := HM.out
      go_roundw
      case rel =>
        refine ⟨m / 128, xs ++ [128 + m % 128], Lib.hid (by omega), by go_num, ?_, ?_, ?_⟩
        · simpa [bv] using hown'
        · exact Lib.hid (by rw [← HX.out, hs]; simp)
        · exact (hnx.alloc hnx.size _).grown hgrow (by simp; omega) (fun k hk => (hown.lt k hk).1)
      case measure => simp [intOf]; omega
/-- as a slice of bytes wherever -/
theorem rputu (n : Nat) (hn : n < 18446744073709551616) (w : World) :
    Calls Try.prog 35 #[.int .u64 n] w fun e w' => ∃ g c, e = .returned (.slice (some ⟨g, 0, none⟩) (pu n).length c) ∧ w.heap.size ≤ g ∧ BytesAt w' (some ⟨g, 0, none⟩) (pu n).length c (pu n) ∧ Below w.heap.size w w' := by
  refine (rputu_any n hn w).mono ?_
  rintro e w' ⟨v, rfl, hown, hb⟩
  obtain ⟨g, c, rfl, h1, _, h2⟩ := BytesAt.own hown (pu_bytes hn) (pu_pos n) (by have := pu_ten hn; omega)
  exact ⟨g, c, rfl, h1, h2, hb⟩
end Go.Proofs.Ytjafagfhkpaciaa
