/- isKey, walked: a range over a text. -/
import Derived.Test.YtjafagfhkpaciaaStoPl
namespace Go.Proofs.Ytjafagfhkpaciaa
open Go.RowKit
set_option linter.unusedVariables false

theorem key_bad {s : ByteArray} {pos : Nat} (h : pos < s.size) (hb : okB (s[pos]'h) = false) : isKeyB s = false := by
  unfold isKeyB
  rw [Bool.and_eq_false_iff]
  right
  rw [Bool.eq_false_iff]
  intro hall
  have h2 := List.all_eq_true.1 hall (s[pos]'h) (by
    have : s[pos]'h = s.data.toList[pos]'(by simpa using h) := rfl
    rw [this]
    exact List.getElem_mem _)
  rw [h2] at hb; cases hb
theorem key_snoc {s : ByteArray} {pos : Nat} (h : pos < s.size) (ha : (s.data.toList.take pos).all okB = true) (hb : okB (s[pos]'h) = true) : (s.data.toList.take (pos + 1)).all okB = true := by
  rw [List.take_succ_eq_append_getElem (by simpa using h), List.all_append, ha]
  have : s.data.toList[pos]'(by simpa using h) = s[pos]'h := rfl
  simp [this, hb]
theorem byte_lt (s : ByteArray) (pos : Nat) (h : pos < s.size) : (s[pos]'h).toNat < 256 := (s[pos]'h).toNat_lt
set_option maxRecDepth 100000 in
set_option maxHeartbeats 2000000 in
theorem isKey_any (s : ByteArray) (w : World) :
    Calls Try.prog 40 #[.string s] w fun e w' => e = .returned (.bool (isKeyB s)) ∧ Below w.heap.size w w' := by
  by_cases h1 : s.size < 1
  case pos =>
    have z1 : (s.size : Int) < 1 := by omega
    have HR := Lib.hid (show isKeyB s = false from by unfold isKeyB; rw [decide_eq_false (by omega)]; rfl)
    clear h1
    go_enter Try.func40, Try.ntmps40
    go_wp2_with fail
    go_ret
    rw [HR.out]
    exact ⟨rfl, Below.refl _ _⟩
  have z1 : ¬ (s.size : Int) < 1 := by omega
  have z1b : decide ((s.size : Int) < 1) = false := decide_eq_false z1
  by_cases h2 : 40 < s.size
  case pos =>
    have z2 : (40 : Int) < (s.size : Int) := by omega
    have HR := Lib.hid (show isKeyB s = false from by unfold isKeyB; rw [decide_eq_false (show ¬ s.size ≤ 40 by omega)]; simp)
    clear h1 h2
    go_enter Try.func40, Try.ntmps40
    go_wp2_with fail
    go_ret
    rw [HR.out]
    exact ⟨rfl, Below.refl _ _⟩
  have z2 : ¬ (40 : Int) < (s.size : Int) := by omega
  have z2b : decide ((40 : Int) < (s.size : Int)) = false := decide_eq_false z2
  have HS1 := Lib.hid h1
  have HS2 := Lib.hid h2
  clear h1 h2
  go_enter Try.func40, Try.ntmps40
  go_wp2_with fail
  go_loopw [4] (fun s4 wr => ∃ pos : Nat, pos ≤ s.size ∧ wr = w.iter s pos ∧ Hid ((s.data.toList.take pos).all okB = true)) (fun _ wr => s.size - wr.iterPos w.heap.size)
  case atStart => exact ⟨0, by omega, rfl, Lib.hid rfl⟩
  case round =>
    obtain ⟨pos, hpos, rfl, HA⟩ := hrel
    have HB := Lib.hid (show ∀ p, Below w.heap.size w (w.iter s p) from fun p => (Below.refl _ _).alloc (Nat.le_refl _) _)
    by_cases hp : pos < s.size
    case neg =>
      have hnx := fun ty => run_next_end (P := Try.prog) w s pos ty hp
      have HR := Lib.hid (show isKeyB s = true from by
        unfold isKeyB
        have h3 := HA.out
        have h9 : s.data.toList.length = s.size := by simp
        rw [show pos = s.data.toList.length from by omega, List.take_length] at h3
        have := HS1.out
        have := HS2.out
        rw [h3, decide_eq_true (show 1 ≤ s.size by omega), decide_eq_true (show s.size ≤ 40 by omega)]
        rfl)
      go_wp2_with fail
      go_ret
      rw [HR.out]
      exact ⟨rfl, HB.out _⟩
    case pos =>
      by_cases hb : (s[pos]'hp).toNat < 128
      case pos =>
        have hnx := fun ty => run_next_ascii (P := Try.prog) w s pos ty hp hb
        have HI := Lib.hid (World.iterPos_iter w s pos)
        have HJ := Lib.hid (World.iterPos_iter w s (pos + 1))
        obtain ⟨b, hbb⟩ : ∃ b : Nat, b = (s[pos]'hp).toNat := ⟨_, rfl⟩
        by_cases hok : okB (s[pos]'hp) = true
        case pos =>
          have HN := Lib.hid (key_snoc hp HA.out hok)
          have hok2 : 33 ≤ b ∧ b ≤ 126 := by unfold okB at hok; rw [hbb]; simpa using hok
          have y1 : ¬ (b : Int) < 33 := by omega
          have y2 : ¬ (126 : Int) < (b : Int) := by omega
          have y1b : decide ((b : Int) < 33) = false := decide_eq_false y1
          have y2b : decide ((126 : Int) < (b : Int)) = false := decide_eq_false y2
          rw [← hbb] at hnx
          clear hbb hok hb HA
          go_wp2_with fail
          go_roundw
          case rel => exact ⟨pos + 1, by omega, rfl, HN⟩
          case measure => rw [HI.out, HJ.out]; omega
        case neg =>
          have HR := Lib.hid (key_bad hp (by simpa using hok))
          have hok2 : b < 33 ∨ 126 < b := by
            have h3 : okB (s[pos]'hp) = false := by simpa using hok
            unfold okB at h3
            rw [hbb]
            simp at h3
            omega
          rw [← hbb] at hnx
          clear hbb hok hb HA
          rcases hok2 with g | g
          · have y1 : (b : Int) < 33 := by omega
            have y1b : decide ((b : Int) < 33) = true := decide_eq_true y1
            go_wp2_with fail
            go_ret
            rw [HR.out]
            exact ⟨rfl, HB.out _⟩
          · have y1 : ¬ (b : Int) < 33 := by omega
            have y1b : decide ((b : Int) < 33) = false := decide_eq_false y1
            have y2 : (126 : Int) < (b : Int) := by omega
            have y2b : decide ((126 : Int) < (b : Int)) = true := decide_eq_true y2
            go_wp2_with fail
            go_ret
            rw [HR.out]
            exact ⟨rfl, HB.out _⟩
      case neg =>
        have hnx := fun ty => run_next_any (P := Try.prog) w s pos ty hp
        have hd := (decode_high s pos hp (by omega)).1
        have HR := Lib.hid (key_bad hp (by unfold okB; rw [decide_eq_false (show ¬ (s[pos]'hp).toNat ≤ 126 by omega)]; simp))
        obtain ⟨r, hr⟩ : ∃ r : Nat, r = (Utf8.decode s pos).1 := ⟨_, rfl⟩
        rw [← hr] at hnx hd
        have y1 : ¬ (r : Int) < 33 := by omega
        have y1b : decide ((r : Int) < 33) = false := decide_eq_false y1
        have y2 : (126 : Int) < (r : Int) := by omega
        have y2b : decide ((126 : Int) < (r : Int)) = true := decide_eq_true y2
        clear hr HA hb
        go_wp2_with fail
        go_ret
        rw [HR.out]
        exact ⟨rfl, HB.out _⟩
end Go.Proofs.Ytjafagfhkpaciaa
