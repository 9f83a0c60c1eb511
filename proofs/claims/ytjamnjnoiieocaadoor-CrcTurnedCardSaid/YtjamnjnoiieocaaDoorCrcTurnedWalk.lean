/- The walk of CrcTurned, given what the table holds: it returns true for all bytes, places and turned bits. -/
import Derived.Test.YtjamnjnoiieocaaDoorCrcBackWalk
import Derived.Test.YtjamnjnoiieocaaDoorCrcTurnedPlain
import Derived.BigRegion
namespace Go.Proofs.YtjamnjnoiieocaaDoor
open Go.RowKit CrcPlain
set_option linter.unusedVariables false

/-- the bytes behind k rounds -/
structure Turns (l ys : List Nat) (at_ T k n : Nat) : Prop where
  v : val ys = val l ^^^ (2 ^ at_ * (T % 2 ^ k))
  byte : ∀ y ∈ ys, y < 256
  len : ys.length = n
  same : T % 2 ^ k = 0 → ys = l
/-- the word for whether one is turned -/
structure Told (b : Bool) (T k : Nat) : Prop where
  iff : b = true ↔ T % 2 ^ k ≠ 0

set_option maxRecDepth 100000 in
set_option maxHeartbeats 4000000 in
theorem crcTurned_walk (a0 : Option Addr) (len0 cap0 : Nat) (z0 : List Int) (a1 a2 : Int) (w : World) (hT : Table w) (w0 : IsRow .u8 1 w a0 len0 cap0 z0) (w1 : (Lit.int .i64 a1).wf = true) (w2 : (Lit.int .u32 a2).wf = true) :
    Calls Tryd.prog 6 #[.slice a0 len0 cap0, .int .i64 a1, .int .u32 a2] w fun e w' => e = .returned (.bool true) ∧ Below w.heap.size w w' := by
  obtain ⟨xs, hb⟩ := w0.bytes
  obtain ⟨T, rfl, hT32⟩ := u32_of_wf' w2
  have h1 := i64_of_wf w1
  have HL := Lib.hid (lives_any hT)
  have HH := Lib.hid hb
  have HT := Lib.hid hT
  clear w0 hb hT w1 w2
  by_cases hbig : (4096 : Int) < (len0 : Int)
  · go_enter Tryd.func6, Tryd.ntmps6
    go_wp2_with fail
    refine HL.out.mono ?_
    rintro e w1 ⟨rfl, hb1⟩
    have HB1 := Lib.hid hb1
    have HL1 := Lib.hid (lives_any (HT.out.below hb1))
    clear hb1
    go_wp2_with fail
    refine HL1.out.mono ?_
    rintro e w2 ⟨rfl, hb2⟩
    have HB2 := Lib.hid (HB1.out.trans (hb2.mono HB1.out.size))
    clear hb2
    go_wp2_with fail
    go_ret
    exact ⟨rfl, HB2.out⟩
  by_cases hz : T = 0
  · subst hz
    have hbig2 : (len0 : Int) ≤ 4096 := by omega
    clear hbig
    go_enter Tryd.func6, Tryd.ntmps6
    go_wp2_with fail
    refine HL.out.mono ?_
    rintro e w1 ⟨rfl, hb1⟩
    have HB1 := Lib.hid hb1
    have HL1 := Lib.hid (lives_any (HT.out.below hb1))
    clear hb1
    go_wp2_with fail
    refine HL1.out.mono ?_
    rintro e w2 ⟨rfl, hb2⟩
    have HB2 := Lib.hid (HB1.out.trans (hb2.mono HB1.out.size))
    clear hb2
    go_wp2_with fail
    go_ret
    exact ⟨rfl, HB2.out⟩
  · have hbig2 : (len0 : Int) ≤ 4096 := by omega
    have hbig3 : len0 ≤ 4096 := by omega
    have hz0 : ((T : Int) == 0) = false := by rw [beq_eq_false_iff_ne]; omega
    have HZ := Lib.hid hz
    have hne : (((len0 + 4 : Nat) : Int) != (len0 : Int) + 4) = false := by simp
    have hne2 : ((len0 : Int) + 4 != (len0 : Int) + 4) = false := by simp
    clear hbig hz
    go_enter Tryd.func6, Tryd.ntmps6
    go_wp2_with fail
    refine HL.out.mono ?_
    rintro e w1 ⟨rfl, hb1⟩
    have HB1 := Lib.hid hb1
    have HH1 := Lib.hid (HH.out.kept hb1)
    have HS := Lib.hid (seal_any (HT.out.below hb1) (HH.out.kept hb1) (by omega))
    clear hb1
    go_wp2_with fail
    refine HS.out.mono ?_
    rintro e w2 ⟨a2, c2, rfl, hb2, hbel2, _, ho2⟩
    have HB2 := Lib.hid (HB1.out.trans (hbel2.mono HB1.out.size))
    have HY2 := Lib.hid hb2
    have HO2 := Lib.hid ho2
    obtain ⟨g, rfl⟩ : ∃ g, a2 = some ⟨g, 0, none⟩ := by
      rcases ho2.2 with ⟨_, h0⟩ | ⟨g, cap, cur, he, _⟩
      · omega
      · simp only [Value.slice.injEq] at he
        exact ⟨g, he.1⟩
    obtain ⟨N, hN⟩ : ∃ N : Nat, N = 8 * (len0 + 4) := ⟨_, rfl⟩
    have hNi : 8 * ((len0 : Int) + 4) = (N : Int) := by omega
    obtain ⟨at_, hat, hatN⟩ : ∃ at_ : Nat, wrap64 ((IntKind.u64.wrap a1).tmod (8 * ((len0 : Int) + 4))) = (at_ : Int) ∧ at_ < N := by
      have h0 : 0 ≤ IntKind.u64.wrap a1 := by rw [IntKind.wrap_u64]; omega
      rw [hNi]
      have h2 : (IntKind.u64.wrap a1).tmod (N : Int) = (IntKind.u64.wrap a1) % (N : Int) := Int.tmod_eq_emod_of_nonneg h0
      have h3 := Int.emod_lt_of_pos (IntKind.u64.wrap a1) (show (0 : Int) < (N : Int) by omega)
      have h4 := Int.emod_nonneg (IntKind.u64.wrap a1) (show ((N : Nat) : Int) ≠ 0 by omega)
      refine ⟨(IntKind.u64.wrap a1 % (N : Int)).toNat, ?_, by omega⟩
      rw [h2, IntWalk.wrap64_in _ (by omega)]
      omega
    have hown0 : w2.ownsRow w1.heap.size 5 1 (.slice (some ⟨g, 0, none⟩) (len0 + 4) c2) (len0 + 4) (bv (sealed xs)) := ho2
    have hpure0 : Turns (sealed xs) (sealed xs) at_ T 0 (len0 + 4) := ⟨by rw [Nat.pow_zero, Nat.mod_one]; simp, HY2.out.byte, HY2.out.len, fun _ => rfl⟩
    have HO0 := Lib.hid hown0
    have HP0 := Lib.hid hpure0
    have HAT := Lib.hid hat
    have HN := Lib.hid hN
    have HNI := Lib.hid hNi
    have hzw := HB1.out.size
    have hNb : N ≤ 32800 := by omega
    clear hb2 hbel2 ho2 hown0 hpure0 hat hN hNi
    go_wp2_with fail
    rw [HAT.out, HNI.out]
    clear HAT
    go_loopw [9, 10] (fun s9 s10 wr => ∃ (k : Nat) (b : Bool) (ys : List Nat), k ≤ 32 ∧ at_ + k ≤ N ∧ s10 = .int .i64 k ∧ s9 = .bool b ∧ Told b T k ∧
      Hid (wr.ownsRow w1.heap.size 5 1 (.slice (some ⟨g, 0, none⟩) (len0 + 4) c2) (len0 + 4) (bv ys)) ∧
      Turns (sealed xs) ys at_ T k (len0 + 4) ∧ Hid (Below w.heap.size w wr)) (fun _ s10 _ => 32 - (intOf s10).toNat)
    case atStart => exact ⟨0, false, sealed xs, by omega, by omega, rfl, rfl, ⟨by simp [Nat.mod_one]⟩, HO0, HP0.out, HB2⟩
    case round =>
      obtain ⟨k, b, ys, hk, hkN, rfl, rfl, HBK, HO, HP, HB⟩ := hrel
      rename World => wr
      by_cases hgo : k < 32 ∧ at_ + k < N
      · obtain ⟨hk32, hkN2⟩ := hgo
        have hlt : (k : Int) < (N : Int) - (at_ : Int) := by omega
        obtain ⟨j, hj⟩ : ∃ j, j = (at_ + k) / 8 := ⟨_, rfl⟩
        obtain ⟨r, hr⟩ : ∃ r, r = (at_ + k) % 8 := ⟨_, rfl⟩
        have hjl : j < len0 + 4 := by have := HN.out; omega
        have hjl2 : (j : Int) < (len0 : Int) + 4 := by omega
        have hr8 : r < 8 := by omega
        have hji : ((at_ : Int) + (k : Int)) / 8 = (j : Int) := by omega
        have hri : ((at_ : Int) + (k : Int)) % 8 = (r : Int) := by omega
        have HJR := Lib.hid (show at_ + k = 8 * j + r by omega)
        obtain ⟨y, hy⟩ : ∃ y, y = ys.getD j 0 := ⟨_, rfl⟩
        have hcell : wr.cell? ⟨g, j, none⟩ = some (.int .u8 (y : Int)) := by
          rw [HO.out.cellAt j (by omega), bv_get _ _ (by rw [HP.len]; exact hjl), hy]
        have hfr := HO.out.frozenAt j
        have hb1 : bits .and .u32 ((T : Int) / 2 ^ k) 1 = ((T / 2 ^ k % 2 : Nat) : Int) := by
          have h5 : T / 2 ^ k < 4294967296 := Nat.lt_of_le_of_lt (Nat.div_le_self _ _) hT32
          have := u32_and_nat (T / 2 ^ k) 1 h5 (by omega)
          rw [Nat.and_one_is_mod] at this
          rw [← this]; push_cast; rfl
        clear hj hr
        by_cases hbit : T / 2 ^ k % 2 = 1
        · rw [hbit] at hb1
          have HBIT := Lib.hid hbit
          have HY := Lib.hid hy
          clear hbit hy
          go_wp2_with fail
          go_region
          go_wp2_with fail
          go_roundw
          case rel =>
            have hy256 : y < 256 := by
              rw [HY.out]
              have h1 : j < ys.length := by rw [HP.len]; exact hjl
              have : ys.getD j 0 = ys[j] := by simp [h1]
              rw [this]
              exact HP.byte _ (List.getElem_mem h1)
            have h2r : 2 ^ r < 256 := Nat.lt_of_lt_of_le (Nat.pow_lt_pow_right (by omega) hr8) (by decide)
            have e1 : bits .xor .u8 (y : Int) (2 ^ r % 256) = ((y ^^^ 2 ^ r : Nat) : Int) := by
              have h2i : (2 : Int) ^ r = ((2 ^ r : Nat) : Int) := by push_cast; rfl
              rw [h2i]
              generalize 2 ^ r = q at h2r ⊢
              rw [← u8_xor_nat y q hy256 h2r, show ((q : Int) % 256) = (q : Int) from by omega]
            have hst := HO.out.stored j (.int .u8 ((y ^^^ 2 ^ r : Nat) : Int))
            have hbv : (bv ys).set j (.int .u8 ((y ^^^ 2 ^ r : Nat) : Int)) = bv (ys.set j (y ^^^ 2 ^ r)) := by simp [bv, List.map_set]
            rw [hbv] at hst
            rw [e1]
            refine ⟨k + 1, true, ys.set j (y ^^^ 2 ^ r), by omega, by omega, by go_num, rfl, ⟨by simp [turn_succ_ne T k HBIT.out]⟩, Lib.hid hst.1.drew, ?_, Lib.hid ?_⟩
            · have hv := val_set ys j r HP.byte (by rw [HP.len]; exact hjl) hr8
              rw [← HY.out] at hv
              refine ⟨?_, set_byte ys j _ HP.byte (Nat.xor_lt_two_pow (n := 8) hy256 h2r), by rw [List.length_set, HP.len], fun h => absurd h (turn_succ_ne T k HBIT.out)⟩
              rw [hv, HP.v, ← HJR.out, turn_succ_one T k at_ _ HBIT.out]
            · exact (HB.out.grown hst.2 HB.out.size (fun k hk => by cases hk; exact Nat.le_trans hzw (HO.out.lt g rfl).1)).drew
          case measure => simp [intOf]; omega
        · have hq0 : T / 2 ^ k % 2 = 0 := by omega
          rw [hq0] at hb1
          have HBIT := Lib.hid hbit
          clear hbit hy hq0
          go_wp2_with fail
          go_roundw
          case rel =>
            have e2 := turn_succ_zero T k HBIT.out
            exact ⟨k + 1, b, ys, by omega, by omega, by go_num, rfl, ⟨by rw [e2]; exact HBK.iff⟩, HO, ⟨by rw [e2]; exact HP.v, HP.byte, HP.len, by rw [e2]; exact HP.same⟩, HB⟩
          case measure => simp [intOf]; omega
      · have hby : BytesAt wr (some ⟨g, 0, none⟩) (len0 + 4) c2 ys := by
          obtain ⟨a', c', he, hb, _⟩ := BytesAt.ofOwn HO.out HP.byte (by omega)
          simp only [Value.slice.injEq, true_and] at he
          obtain ⟨rfl, rfl⟩ := he
          exact hb
        have HOP := Lib.hid (open_any (HT.out.below HB.out) hby (by omega))
        have hTk : T % 2 ^ k < 4294967296 := Nat.lt_of_le_of_lt (Nat.mod_le _ _) hT32
        have hend : (k : Int) < 32 → (N : Int) - (at_ : Int) ≤ (k : Int) := by omega
        have hxb := Lib.hid HH.out.byte
        by_cases hT0 : T % 2 ^ k = 0
        · have hbf : b = false := by
            cases hbb : b with
            | false => rfl
            | true => exact absurd hT0 (HBK.iff.1 hbb)
          subst hbf
          have hop : op ys = (xs, 0) := by rw [HP.same hT0, op_sealed]
          rw [hop] at HOP
          clear hT0 hop hTk hby
          by_cases hk32 : (k : Int) < 32
          · have hk2 := hend hk32
            clear hend
            go_wp2_with fail
            refine HOP.out.mono ?_
            rintro e w5 ⟨a5, m5, c5, rfl, _, hb5, _⟩
            have HB5 := Lib.hid (HB.out.trans (hb5.mono HB.out.size))
            clear hb5
            go_wp2_with fail
            go_ret
            exact ⟨rfl, HB5.out⟩
          · clear hend
            go_wp2_with fail
            refine HOP.out.mono ?_
            rintro e w5 ⟨a5, m5, c5, rfl, _, hb5, _⟩
            have HB5 := Lib.hid (HB.out.trans (hb5.mono HB.out.size))
            clear hb5
            go_wp2_with fail
            go_ret
            exact ⟨rfl, HB5.out⟩
        · have hbf : b = true := HBK.iff.2 hT0
          subst hbf
          have hop : op ys = ([], 6) := turned_open xs ys at_ (T % 2 ^ k) hxb.out HP.byte (by rw [HP.len]; exact HY2.out.len.symm) hTk hT0 (by rw [HP.len, ← HN.out]; omega) HP.v
          rw [hop] at HOP
          clear hT0 hop hTk hby
          by_cases hk32 : (k : Int) < 32
          · have hk2 := hend hk32
            clear hend
            go_wp2_with fail
            refine HOP.out.mono ?_
            rintro e w5 ⟨a5, m5, c5, rfl, _, hb5, _⟩
            have HB5 := Lib.hid (HB.out.trans (hb5.mono HB.out.size))
            clear hb5
            go_wp2_with fail
            go_ret
            exact ⟨rfl, HB5.out⟩
          · clear hend
            go_wp2_with fail
            refine HOP.out.mono ?_
            rintro e w5 ⟨a5, m5, c5, rfl, _, hb5, _⟩
            have HB5 := Lib.hid (HB.out.trans (hb5.mono HB.out.size))
            clear hb5
            go_wp2_with fail
            go_ret
            exact ⟨rfl, HB5.out⟩
end Go.Proofs.YtjamnjnoiieocaaDoor
