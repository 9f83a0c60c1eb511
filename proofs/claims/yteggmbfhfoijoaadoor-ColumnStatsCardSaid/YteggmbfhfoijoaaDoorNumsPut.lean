/- PutU of package nums, walked: the bytes that it makes are the plain function's, in memory of its own. Condition: the number fits 64 bits. -/
import Derived.Test.YteggmbfhfoijoaaDoorKit
import Derived.Test.YteggmbfhfoijoaaDoorNumsPlain
namespace Go.Proofs.YteggmbfhfoijoaaDoor
open Go.RowKit NumsPlain
set_option linter.unusedVariables false

theorem or128_fin : ∀ x : Fin 256, bits .or .u8 ((x.val : Nat) : Int) 128 = ((128 + x.val % 128 : Nat) : Int) := by decide +kernel
theorem or128 (m : Nat) : bits .or .u8 ((m : Int) % 256) 128 = ((128 + m % 128 : Nat) : Int) := by
  have h := or128_fin ⟨m % 256, by omega⟩
  simp only at h
  have e1 : ((m % 256 : Nat) : Int) = (m : Int) % 256 := by omega
  have e2 : m % 256 % 128 = m % 128 := by omega
  rw [e1, e2] at h
  exact h

set_option maxRecDepth 100000 in
set_option maxHeartbeats 1000000 in
theorem putu_any (n : Nat) (hn : n < 18446744073709551616) (w : World) :
    Calls Tryd.prog 25 #[.int .u64 n] w fun e w' => ∃ v, e = .returned v ∧ w'.ownsRow w.heap.size 5 1 v (pu n).length (bv (pu n)) ∧ Below w.heap.size w w' := by
  obtain ⟨i0, hi, hz0, hz1, hz2⟩ := info_parts info_u8
  go_enter Tryd.func25, Tryd.ntmps25
  go_wp2_with (at_make; refine wpList_make_own _ rfl _ _ 24 rfl w.heap.size 5 i0 (.int .u8 0) 1 Tryd.underlying24 hi hz0 hz1 _ _ _ 10 rfl rfl (by omega) ?b2 ?b3 (Nat.le_refl _) ?_)
  case b2 => rw [hz2]; omega
  case b3 => unfold maxLen; omega
  intro w0 hown0 hgrow0
  go_wp2
  go_loopw [0, 3] (fun sn b wr => ∃ (m : Nat) (xs : List Nat), m < 18446744073709551616 ∧ sn = .int .u64 m ∧ wr.ownsRow w.heap.size 5 1 b xs.length (bv xs) ∧ xs ++ pu m = pu n ∧ Below w.heap.size w wr) (fun sn _ _ => (intOf sn).toNat)
  case atStart => exact ⟨n, [], hn, rfl, hown0, rfl, (Below.refl _ _).grown hgrow0 (Nat.le_refl _) (fun k h => by cases h)⟩
  case round =>
    obtain ⟨m, xs, hm, rfl, hown, hx, hnx⟩ := hrel
    have hl : xs.length ≤ 9 := by
      have h1 := congrArg List.length hx
      rw [List.length_append] at h1
      have h2 := pu_pos m
      have h3 := pu_ten hn
      omega
    have hB := hnx.size
    have HX := Lib.hid hx
    have HM := Lib.hid hm
    have HN := Lib.hid hn
    by_cases hlt : m < 128
    · clear hx hm hn
      go_wp2_with (at_builtin; refine wpList_append_own _ rfl (.tmp 15) (.tmp 18) 24 rfl w.heap.size 5 i0 (.int .u8 0) 1 1 Tryd.underlying24 hi hz0 hz1 hz2 rfl (by decide) _ _ _ rfl (hown.alloc _) ⟨wr.heap.size, 0, none⟩ 1 1 [.int .u8 m] rfl rfl ?c1 ?c2 ?c3 ?c4 ?c5 ?_)
      case c1 =>
        intro j u hj
        match j, hj with
        | 0, hj => simp at hj; subst hj; simp [Addr.add]
      case c2 => intro u hu; simp at hu; subst hu; rfl
      case c3 => unfold maxLen; omega
      case c4 => omega
      case c5 => simp; omega
      intro v' w1 hown' hgrow _
      go_wp2
      go_ret
      have hs := pu_small hlt
      have e1 : pu n = xs ++ [m] := by rw [← HX.out, hs]
      refine ⟨v', rfl, ?_, ?_⟩
      · rw [e1]; simpa [bv] using hown'
      · exact (hnx.alloc hnx.size _).grown hgrow (by simp; omega) (fun k hk => (hown.lt k hk).1)
    · clear hx hm hn
      go_wp2_with (at_builtin; refine wpList_append_own _ rfl (.tmp 7) (.tmp 11) 24 rfl w.heap.size 5 i0 (.int .u8 0) 1 1 Tryd.underlying24 hi hz0 hz1 hz2 rfl (by decide) _ _ _ rfl (hown.alloc _) ⟨wr.heap.size, 0, none⟩ 1 1 [.int .u8 (bits .or .u8 ((m : Int) % 256) 128)] rfl rfl ?d1 ?d2 ?d3 ?d4 ?d5 ?_)
      case d1 =>
        intro j u hj
        match j, hj with
        | 0, hj => simp at hj; subst hj; simp [Addr.add]
      case d2 => intro u hu; simp at hu; subst hu; rfl
      case d3 => unfold maxLen; omega
      case d4 => omega
      case d5 => simp; omega
      intro v' w1 hown' hgrow _
      go_wp2
      have hs := pu_big (show 128 ≤ m by omega)
      have hm' := HM.out
      go_roundw
      case rel =>
        refine ⟨m / 128, xs ++ [128 + m % 128], by omega, by go_num, ?_, ?_, ?_⟩
        · rw [or128] at hown'; simpa [bv] using hown'
        · rw [← HX.out, hs]; simp
        · exact (hnx.alloc hnx.size _).grown hgrow (by simp; omega) (fun k hk => (hown.lt k hk).1)
      case measure => simp [intOf]; omega

/-- as a slice of bytes wherever -/
theorem putu (n : Nat) (hn : n < 18446744073709551616) (w : World) :
    Calls Tryd.prog 25 #[.int .u64 n] w fun e w' => ∃ g c, e = .returned (.slice (some ⟨g, 0, none⟩) (pu n).length c) ∧ w.heap.size ≤ g ∧ BytesAt w' (some ⟨g, 0, none⟩) (pu n).length c (pu n) ∧ Below w.heap.size w w' := by
  refine (putu_any n hn w).mono ?_
  rintro e w' ⟨v, rfl, hown, hb⟩
  obtain ⟨g, c, rfl, h1, _, h2⟩ := BytesAt.own hown (pu_bytes hn) (pu_pos n) (by have := pu_ten hn; omega)
  exact ⟨g, c, rfl, h1, h2, hb⟩
end Go.Proofs.YteggmbfhfoijoaaDoor
