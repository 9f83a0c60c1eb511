/- merge.Heap[int]: sink. -/
import Derived.Test.YteihbbmbdkkbbaaHpOwn
namespace Go.Proofs.Yteihbbmbdkkbbaa
open Go.ChangeShapes Go.WideShapes Go.Deep Go.RowKit Hp
set_option linter.unusedVariables false

theorem HpAt.bound {w : World} {p g c n : Nat} {z : Nat → Int} (h : HpAt w p g c n z) : w.cell? ⟨p, 1, none⟩ = some (.slice (some ⟨g, 0, none⟩) n c) := cell_blk h.hd rfl
/-- the least of a place and what is right below it, as far as seen -/
structure Lst (z : Nat → Int) (n a l b : Nat) : Prop where
  lo : 2 * a + 1 ≤ b
  hi : b ≤ 2 * a + 3
  bn : b = 2 * a + 1 ∨ b ≤ n
  wh : l = a ∨ (2 * a + 1 ≤ l ∧ l < b ∧ z l < z a)
  le : ∀ k, 2 * a + 1 ≤ k → k < b → z l ≤ z k
  la : z l ≤ z a
theorem Lst.start (z : Nat → Int) (n a : Nat) : Lst z n a a (2 * a + 1) := ⟨Nat.le_refl _, by omega, .inl rfl, .inl rfl, fun k h1 h2 => by omega, Int.le_refl _⟩
theorem Lst.yes {z : Nat → Int} {n a l b : Nat} (h : Lst z n a l b) (hb : b ≤ 2 * a + 2) (hn : b < n) (hz : z b < z l) : Lst z n a b (b + 1) := by
  have h1 := h.lo
  have h2 := h.la
  refine ⟨by omega, by omega, .inr (by omega), .inr ⟨by omega, by omega, by omega⟩, fun k hk1 hk2 => ?_, by omega⟩
  rcases Nat.lt_or_ge k b with g | g
  · have := h.le k hk1 g; omega
  · obtain rfl : k = b := by omega
    exact Int.le_refl _
theorem Lst.no {z : Nat → Int} {n a l b : Nat} (h : Lst z n a l b) (hb : b ≤ 2 * a + 2) (hn : b < n) (hz : ¬ z b < z l) : Lst z n a l (b + 1) := by
  have h1 := h.lo
  refine ⟨by omega, by omega, .inr (by omega), ?_, fun k hk1 hk2 => ?_, h.la⟩
  · rcases h.wh with e | ⟨e1, e2, e3⟩
    · exact .inl e
    · exact .inr ⟨e1, by omega, e3⟩
  · rcases Nat.lt_or_ge k b with g | g
    · exact h.le k hk1 g
    · obtain rfl : k = b := by omega
      omega

set_option maxRecDepth 100000 in
set_option maxHeartbeats 4000000 in
theorem sink_at {w : World} {p g c n : Nat} {z : Nat → Int} (h : HpAt w p g c n z) (hd : Dn z n 0) (hn : n ≤ 1000000000) :
    Calls Try.prog 28 #[.pointer (some ⟨p, 0, none⟩)] w fun e w' => e = .returned (.tuple #[]) ∧ (∃ y, HpAt w' p g c n y ∧ Ok y n ∧ ∀ v, cnt y v n = cnt z v n) ∧ w.grownBy w' (some g) := by
  have H := Lib.hid h
  have HD := Lib.hid hd
  clear h hd
  go_enter Try.func28, Try.ntmps28
  go_wp2_with fail
  go_loopw [2, 3, 4] (fun s2 s3 s4 wr => ∃ (a : Nat) (y : Nat → Int), s2 = .int .i64 (a : Int) ∧ (a = 0 ∨ a < n) ∧ Hid (HpAt wr p g c n y) ∧ Hid (Dn y n a) ∧ Hid (∀ v, cnt y v n = cnt z v n) ∧ Hid (w.grownBy wr (some g))) (fun s2 _ _ _ => n - (intOf s2).toNat)
  case atStart => exact ⟨0, z, rfl, .inl rfl, H, HD, Lib.hid (fun _ => rfl), Lib.hid (World.grownBy.refl _ _)⟩
  case round =>
    obtain ⟨a, y, rfl, han, HY, HN, HC, HG⟩ := hrel
    rename World => wr
    have w1 : IntKind.i64.wrap (2 * (a : Int)) = 2 * (a : Int) := IntWalk.i64_in _ (by omega)
    have w2 : IntKind.i64.wrap (2 * (a : Int) + 1) = 2 * (a : Int) + 1 := IntWalk.i64_in _ (by omega)
    have w3 : IntKind.i64.wrap (2 * (a : Int) + 2) = 2 * (a : Int) + 2 := IntWalk.i64_in _ (by omega)
    go_wp2_with fail
    go_loopw [3, 4] (fun s3 s4 wq => ∃ l b : Nat, s3 = .int .i64 (l : Int) ∧ s4 = .int .i64 (b : Int) ∧ Hid (Lst y n a l b) ∧ Hid (HpAt wq p g c n y) ∧ Hid (w.grownBy wq (some g))) (fun _ s4 _ => 2 * a + 3 - (intOf s4).toNat)
    case atStart => exact ⟨a, 2 * a + 1, rfl, by go_num, Lib.hid (Lst.start y n a), HY, HG⟩
    case round =>
      clear HY HG
      obtain ⟨l, b, rfl, rfl, HL, HQ, HU⟩ := hrel
      rename World => wq
      have c1 := HQ.out.bound
      have hb1 := HL.out.lo
      have hb2 := HL.out.hi
      by_cases hc1 : b ≤ 2 * a + 2
      case neg =>
        have z1 : ¬ (b : Int) ≤ 2 * (a : Int) + 2 := by omega
        have hbe := HL.out.bn
        by_cases hla : l = a
        case pos =>
          have HOK := Lib.hid (show Ok y n from HN.out.done fun k h0 hk hka => by
            have h2 := HL.out.le k (by omega) (by omega)
            rw [hla] at h2
            exact h2)
          have HCC := Lib.hid HC.out
          subst hla
          go_wp2_with fail
          first | go_end0 | go_ret | refine bodyPost_ret (results_none rfl _ _ _) rfl ?_
          exact ⟨rfl, ⟨y, HQ.out, HOK.out, HCC.out⟩, HU.out⟩
        case neg =>
          have hlw : 2 * a + 1 ≤ l ∧ l < b ∧ y l < y a := by rcases HL.out.wh with e | e; exact absurd e hla; exact e
          have hl1 := hlw.1
          have hl2 := hlw.2.1
          have hln : l < n := by omega
          have hDN := Lib.hid (HN.out.step (c := l) (by omega) hln (by omega) hlw.2.2 (fun k h0 hk hka => HL.out.le k (by omega) (by omega)))
          have zne : ((l : Int) == (a : Int)) = false := by rw [beq_eq_false_iff_ne]; omega
          have HCN := Lib.hid (show ∀ v, cnt (sw y a l) v n = cnt z v n from fun v => (cnt_sw (by omega) hln).trans (HC.out v))
          clear hlw hla
          go_wp2_with fail
          refine (swap_at HQ.out (i := a) (k := l) (by omega) hln).mono ?_
          rintro e w6 ⟨rfl, hq6, hg6⟩
          have HQ6 := Lib.hid hq6
          have HU6 := Lib.hid (grown_over HU.out hg6 (fun _ e => .inr e))
          clear hq6 hg6
          go_wp2_with fail
          go_roundw
          case rel => exact ⟨l, sw y a l, rfl, .inr hln, HQ6, hDN, HCN, HU6⟩
          case measure => simp [intOf]; omega
      case pos =>
        by_cases hc2 : b < n
        case neg =>
          have z1 : (b : Int) ≤ 2 * (a : Int) + 2 := by omega
          have z2 : ¬ (b : Int) < (n : Int) := by omega
          have hbe := HL.out.bn
          by_cases hla : l = a
          case pos =>
            have HOK := Lib.hid (show Ok y n from HN.out.done fun k h0 hk hka => by
              have h2 := HL.out.le k (by omega) (by omega)
              rw [hla] at h2
              exact h2)
            have HCC := Lib.hid HC.out
            subst hla
            go_wp2_with fail
            first | go_end0 | go_ret | refine bodyPost_ret (results_none rfl _ _ _) rfl ?_
            exact ⟨rfl, ⟨y, HQ.out, HOK.out, HCC.out⟩, HU.out⟩
          case neg =>
            have hlw : 2 * a + 1 ≤ l ∧ l < b ∧ y l < y a := by rcases HL.out.wh with e | e; exact absurd e hla; exact e
            have hl1 := hlw.1
            have hl2 := hlw.2.1
            have hln : l < n := by omega
            have hDN := Lib.hid (HN.out.step (c := l) (by omega) hln (by omega) hlw.2.2 (fun k h0 hk hka => HL.out.le k (by omega) (by omega)))
            have zne : ((l : Int) == (a : Int)) = false := by rw [beq_eq_false_iff_ne]; omega
            have HCN := Lib.hid (show ∀ v, cnt (sw y a l) v n = cnt z v n from fun v => (cnt_sw (by omega) hln).trans (HC.out v))
            clear hlw hla
            go_wp2_with fail
            refine (swap_at HQ.out (i := a) (k := l) (by omega) hln).mono ?_
            rintro e w6 ⟨rfl, hq6, hg6⟩
            have HQ6 := Lib.hid hq6
            have HU6 := Lib.hid (grown_over HU.out hg6 (fun _ e => .inr e))
            clear hq6 hg6
            go_wp2_with fail
            go_roundw
            case rel => exact ⟨l, sw y a l, rfl, .inr hln, HQ6, hDN, HCN, HU6⟩
            case measure => simp [intOf]; omega
        case pos =>
          have z1 : (b : Int) ≤ 2 * (a : Int) + 2 := by omega
          have z2 : (b : Int) < (n : Int) := by omega
          have hln : l < n := by rcases HL.out.wh with e | e <;> omega
          go_wp2_with fail
          refine (before_at HQ.out hc2 hln).mono ?_
          rintro e w5 ⟨rfl, hq5, hb5⟩
          have HQ5 := Lib.hid hq5
          have HU5 := Lib.hid (grown_below HU.out hb5)
          clear hq5 hb5
          have w4 : IntKind.i64.wrap ((b : Int) + 1) = (b : Int) + 1 := IntWalk.i64_in _ (by omega)
          by_cases hz : y b < y l
          case pos =>
            have HL5 := Lib.hid (HL.out.yes hc1 hc2 hz)
            rw [decide_eq_true hz]
            clear hz
            go_wp2_with fail
            go_roundw
            case rel => exact ⟨b, b + 1, rfl, by go_num, HL5, HQ5, HU5⟩
            case measure => simp [intOf]; omega
          case neg =>
            have HL5 := Lib.hid (HL.out.no hc1 hc2 hz)
            rw [decide_eq_false hz]
            clear hz
            go_wp2_with fail
            go_roundw
            case rel => exact ⟨l, b + 1, rfl, by go_num, HL5, HQ5, HU5⟩
            case measure => simp [intOf]; omega
end Go.Proofs.Yteihbbmbdkkbbaa
