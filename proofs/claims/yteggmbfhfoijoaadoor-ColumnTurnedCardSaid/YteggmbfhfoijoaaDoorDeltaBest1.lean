/- Best, walked, for seats beside stage 4's: cut out of XDeltaBestW. -/
import Derived.Test.YteggmbfhfoijoaaDoorDeltaEnc
namespace Go.Proofs.YteggmbfhfoijoaaDoor
open Go.RowKit NumsPlain DeltaPlain
set_option linter.unusedVariables false

def el (l : List Int) (k : Nat) : Nat := (enc l (k : Int)).length
/-- the best of the first k ways, and its length -/
def bu (l : List Int) : Nat → Nat × Nat
  | 0 => (0, 0)
  | k + 1 => if k = 0 ∨ el l k < (bu l k).2 then (k, el l k) else bu l k
theorem bu_len (l : List Int) : ∀ k, (bu l (k + 1)).2 = el l (bu l (k + 1)).1
  | 0 => by simp [bu]
  | k + 1 => by
    rw [bu]
    split
    · rfl
    · exact bu_len l k
theorem bu_lt (l : List Int) : ∀ k, (bu l (k + 1)).1 ≤ k
  | 0 => by simp [bu]
  | k + 1 => by
    rw [bu]
    split
    · simp
    · exact Nat.le_trans (bu_lt l k) (by omega)
/-- of the first ways none is shorter, no lesser one as short -/
theorem bu_best (l : List Int) : ∀ k j, j ≤ k → el l (bu l (k + 1)).1 ≤ el l j ∧ (j < (bu l (k + 1)).1 → el l (bu l (k + 1)).1 < el l j)
  | 0, j, hj => by
    obtain rfl : j = 0 := by omega
    simp [bu]
  | k + 1, j, hj => by
    have hl := bu_len l k
    have hb := bu_lt l k
    rw [bu]
    split
    · rename_i h
      simp only
      rcases Nat.lt_or_ge j (k + 1) with g | g
      · have := bu_best l k j (by omega)
        omega
      · obtain rfl : j = k + 1 := by omega
        exact ⟨Nat.le_refl _, fun h => absurd h (Nat.lt_irrefl _)⟩
    · rename_i h
      rcases Nat.lt_or_ge j (k + 1) with g | g
      · exact bu_best l k j (by omega)
      · obtain rfl : j = k + 1 := by omega
        rw [hl] at h
        exact ⟨by omega, fun h => by omega⟩
def bst (l : List Int) : Nat := if chk l 0 ≠ 0 then 0 else (bu l 3).1
theorem chk_way {l : List Int} {a b : Int} (ha : 0 ≤ a ∧ a ≤ 2) (hb : 0 ≤ b ∧ b ≤ 2) : chk l a = chk l b := by
  unfold chk
  rw [(known_iff a).2 ha, (known_iff b).2 hb]
theorem el_le {l : List Int} (h : chk l 0 = 0) (k : Nat) : el l k ≤ 30000 := by
  obtain ⟨_, _, hl, hb⟩ := chk_ok h
  have h1 := pu_ten (n := l.length) (by omega)
  have h2 := flat_len (tl_bound hb (k : Int))
  rw [tl_length] at h2
  simp only [el, enc, List.length_append]; omega
theorem eb_el {l : List Int} (h : chk l 0 = 0) (k : Nat) (hk : k ≤ 2) : (eb l (k : Int)).length = el l k := by
  rw [eb_ok (by rw [chk_way (a := (k : Int)) (b := 0) (by omega) (by omega)]; exact h)]; rfl

set_option maxRecDepth 100000 in
set_option maxHeartbeats 2000000 in
theorem best_any {w : World} {a : Option Addr} {n c : Nat} {zs : List Int} (h : IntsAt .i64 w a n c zs) :
    Calls Tryd.prog 27 #[.slice a n c] w fun e w' => e = .returned (.int .i64 ((bst zs : Nat) : Int)) ∧ Below w.heap.size w w' := by
  have HH := Lib.hid h
  by_cases hc : chk zs 0 = 0
  · have HV := Lib.hid (show bst zs = (bu zs 3).1 by unfold bst; rw [if_neg (by simpa using hc)])
    have HC := Lib.hid hc
    clear h hc
    go_enter Tryd.func27, Tryd.ntmps27
    go_wp2_with fail
    go_loopw [3, 4, 5] (fun s3 s4 s5 wr => ∃ k b f : Nat, k ≤ 3 ∧ s5 = .int .i64 k ∧ s3 = .int .i64 b ∧ s4 = .int .i64 f ∧ Hid (bu zs k = (b, f)) ∧ Hid (Below w.heap.size w wr)) (fun _ _ s5 _ => 3 - (intOf s5).toNat)
    case atStart => exact ⟨0, 0, 0, by omega, rfl, rfl, rfl, Lib.hid rfl, Lib.hid (Below.refl _ _)⟩
    case round =>
      obtain ⟨k, b, f, hk, rfl, rfl, rfl, HBU, HB⟩ := hrel
      rename World => wr
      by_cases hk2 : k ≤ 2
      · have hck : chk zs (k : Int) = 0 := by rw [chk_way (a := (k : Int)) (b := 0) (by omega) (by omega)]; exact HC.out
        have hE := encode_any (HH.out.kept HB.out) (k : Int)
        rw [hck] at hE
        have HE := Lib.hid hE
        have hbu : bu zs (k + 1) = if k = 0 ∨ el zs k < f then (k, el zs k) else (b, f) := by rw [bu, HBU.out]
        have HBU2 := Lib.hid hbu
        have HEL := Lib.hid (eb_el HC.out k hk2)
        have hz : ((0 : Int) != 0) = false := by decide
        clear hck hE hbu
        go_wp2_with fail
        refine HE.out.mono ?_
        rintro e w2 ⟨a2, n2, c2, rfl, _, hy2, hb2⟩
        have hn2 : el zs k = n2 := by rw [← HEL.out]; exact hy2.len
        have HB2 := Lib.hid (HB.out.trans (hb2.mono HB.out.size))
        rw [hn2] at HBU2
        clear hy2 hb2 hn2
        by_cases hk0 : k = 0
        · have HV2 := Lib.hid (show bu zs (k + 1) = (k, n2) by rw [HBU2.out, if_pos (.inl hk0)])
          have hkb : ((k : Int) == 0) = true := by rw [beq_iff_eq]; omega
          clear hk0
          go_wp2_with fail
          go_roundw
          case rel => exact ⟨k + 1, k, n2, by omega, by go_num, rfl, rfl, HV2, HB2⟩
          case measure => simp [intOf]; omega
        · have hkb : ((k : Int) == 0) = false := by rw [beq_eq_false_iff_ne]; omega
          by_cases hlt : (n2 : Int) < (f : Int)
          · have HV2 := Lib.hid (show bu zs (k + 1) = (k, n2) by rw [HBU2.out, if_pos (.inr (by omega))])
            go_wp2_with fail
            go_roundw
            case rel => exact ⟨k + 1, k, n2, by omega, by go_num, rfl, rfl, HV2, HB2⟩
            case measure => simp [intOf]; omega
          · have HV2 := Lib.hid (show bu zs (k + 1) = (b, f) by rw [HBU2.out, if_neg (by omega)])
            have hlt2 : (f : Int) ≤ (n2 : Int) := by omega
            clear hlt
            go_wp2_with fail
            go_roundw
            case rel => exact ⟨k + 1, b, f, by omega, by go_num, rfl, rfl, HV2, HB2⟩
            case measure => simp [intOf]; omega
      · obtain rfl : k = 3 := by omega
        have HV2 := Lib.hid (show bst zs = b by rw [HV.out, HBU.out])
        go_wp2_with fail
        go_ret
        rw [HV2.out]
        exact ⟨rfl, HB.out⟩
  · have HV := Lib.hid (show bst zs = 0 by unfold bst; rw [if_pos (by simpa using hc)])
    obtain ⟨q, hq⟩ : ∃ q, q = chk zs 0 := ⟨_, rfl⟩
    have hE := encode_any h (0 : Int)
    rw [← hq] at hE hc
    have HE := Lib.hid hE
    have hq1 : ((q : Int) != 0) = true := by rw [bne_iff_ne]; omega
    clear h hc hq hE
    go_enter Tryd.func27, Tryd.ntmps27
    go_wp2_with fail
    go_loopw [3, 4, 5] (fun s3 s4 s5 wr => s5 = .int .i64 0 ∧ Hid (wr = w)) (fun _ _ s5 _ => 3 - (intOf s5).toNat)
    case atStart => exact ⟨rfl, Lib.hid rfl⟩
    case round =>
      obtain ⟨rfl, HW⟩ := hrel
      rename World => wr
      rw [HW.out]
      go_wp2_with fail
      refine HE.out.mono ?_
      rintro e w2 ⟨a2, n2, c2, rfl, _, hy2, hb2⟩
      have HB2 := Lib.hid hb2
      clear hy2 hb2
      go_wp2_with fail
      go_ret
      rw [HV.out]
      exact ⟨rfl, HB2.out⟩

end Go.Proofs.YteggmbfhfoijoaaDoor
