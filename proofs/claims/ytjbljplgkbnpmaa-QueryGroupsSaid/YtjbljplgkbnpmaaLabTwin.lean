/- Labels: the reference's Twin, walked. -/
import Derived.Test.YtjbljplgkbnpmaaLabSame
namespace Go.Proofs.Ytjbljplgkbnpmaa
open Go.RowKit LabPlain
set_option linter.unusedVariables false

set_option maxRecDepth 100000 in
set_option maxHeartbeats 1000000 in
theorem twin_any {w : World} {a : Option Addr} {n c : Nat} {l : List Lab} (h : LabsAt w a n c l) (hn : n ≤ 1000) :
    Calls Try.prog 17 #[.slice a n c] w fun e w' => ∃ a' c', e = .returned (.slice a' n c') ∧ LabsAt w' a' n c' l ∧ Below w.heap.size w w' := by
  obtain ⟨i0, hi, hz0, hz1, hz2⟩ := info_parts lab_info
  have hown0 := World.ownsRow_lit (base := w.heap.size) (e := 41) (size := 2) w #[] 0 (Nat.le_refl _) (by unfold maxLen; omega) rfl
  have hlen := h.len
  have hsize := h.size
  have hb0 : Below w.heap.size w (w.alloc (.cells #[] 41)) := (Below.refl _ _).alloc (Nat.le_refl _) _
  have hk := h.kept hb0
  have HK := Lib.hid hk
  have HB0 := Lib.hid hb0
  have HSZ := Lib.hid hsize
  have HL := Lib.hid hlen
  have hnl := h.nl
  have hcap := h.cap
  clear h hb0 hk hsize
  rcases a with _ | ad
  · have hc0 := hnl rfl
    have hn0 : n = 0 := by omega
    subst hn0
    subst hc0
    have HE := Lib.hid (show l = [] from List.eq_nil_of_length_eq_zero hlen)
    clear hnl hlen
    go_enter Try.func17, Try.ntmps17
    go_wp2_with (at_builtin; refine wpList_append_own_none rfl (.tmp 3) (.tmp 4) 22 rfl w.heap.size 41 i0 2 Try.underlying22 hi _ _ _ rfl hown0 rfl ?_)
    go_wp2_with fail
    go_ret
    refine ⟨_, _, rfl, ?_, HB0.out⟩
    rw [HE.out]
    exact LabsAt.empty _ _ _ (by omega) (fun e => by cases e)
  · clear hnl
    go_enter Try.func17, Try.ntmps17
    go_wp2_with (at_builtin; refine wpList_append_own_at _ rfl (.tmp 3) (.tmp 4) 22 rfl w.heap.size 41 i0 _ 2 32 Try.underlying22 hi hz0 hz1 hz2 rfl (by decide) _ _ _ rfl hown0 ad n c (lcells l) rfl (by rw [lcells_len, HL.out]) HK.out.src (lcells_one l) (by unfold maxLen; omega) (by omega) (by simp) ?_)
    intro v' w1 hown' hgrow _ _
    have hown2 : w1.ownsRow w.heap.size 41 2 v' n (lcells l) := by simpa using hown'
    have hb : Below w.heap.size w w1 := HB0.out.grown hgrow (by simp) (fun k hk => by simp [Value.ownBlock] at hk; omega)
    obtain ⟨a', c', rfl, hat⟩ := LabsAt.ofOwn hown2 HL.out HSZ.out
    have HAT := Lib.hid hat
    have HB := Lib.hid hb
    clear hown' hown2 hgrow hb hat
    go_wp2_with fail
    go_ret
    exact ⟨a', c', rfl, HAT.out, HB.out⟩
end Go.Proofs.Ytjbljplgkbnpmaa
