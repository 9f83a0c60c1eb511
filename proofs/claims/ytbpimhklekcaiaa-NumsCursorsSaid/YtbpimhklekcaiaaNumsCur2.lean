/- Package nums' New, At, End and bytes.Clone, walked. -/
import Derived.Test.YtbpimhklekcaiaaNumsCur
import Derived.WalkSpells
namespace Go.Proofs.Ytbpimhklekcaiaa
open Go.RowKit NumsPlain
set_option linter.unusedVariables false

set_option maxRecDepth 100000 in
set_option maxHeartbeats 1000000 in
theorem clone_any {a : Option Addr} {n c : Nat} {xs : List Nat} {w : World} (h : BytesAt w a n c xs) :
    Calls Try.prog 37 #[.slice a n c] w fun e w' => ∃ a' c', e = .returned (.slice a' n c') ∧ BytesAt w' a' n c' xs ∧ Below w.heap.size w w' ∧ (∀ b off s, a' = some ⟨b, off, s⟩ → w.heap.size ≤ b) := by
  have q : ∀ (w : World) (a : Option Addr) (n c n' c' : Nat), (binOp .eql 24 (.slice a n c) (.slice none n' c')).run Try.prog w = .ok (.bool a.isNone) w := fun w a n c n' c' => Lib.run_eql_slice_nil w _ _ a n c n' c' Try.underlying24
  have hown0 := World.ownsRow_lit (base := w.heap.size) (e := 5) (size := 1) w #[] 0 (Nat.le_refl _) (by unfold maxLen; omega) rfl
  have hreach := h.reach
  have hlen := h.len
  rcases a with _ | ad
  · have hc0 := h.nl rfl
    have hn0 : n = 0 := by have := h.cap; omega
    subst hn0
    subst hc0
    have HH := Lib.hid h
    clear h hlen
    go_enter Try.func37, Try.ntmps37
    go_wp2_with fail
    go_ret
    exact ⟨none, 0, rfl, HH.out, Below.refl _ _, fun _ _ _ e => by cases e⟩
  · have HH := Lib.hid h
    have ha := h.alloc (.cells #[] 5)
    have HA := Lib.hid ha
    clear h ha
    go_enter Try.func37, Try.ntmps37
    go_wp2_with (at_builtin; refine wpList_append_bytes rfl (.tmp 5) (.tmp 6) rfl w.heap.size _ _ [] rfl hown0 _ _ _ _ rfl HA.out (by omega) (by simp) ?_)
    intro v' w1 hown' hgrow
    have hown2 : w1.ownsRow w.heap.size 5 1 v' n (bv xs) := by simpa using hown'
    clear hown'
    have hb : Below w.heap.size w w1 := ((Below.refl _ _).alloc (Nat.le_refl _) _).grown hgrow (by simp) (fun k hk => by simp [Value.ownBlock] at hk; omega)
    go_wp2_with fail
    go_ret
    rcases hown2.2 with ⟨h0, h1⟩ | ⟨g, cap, cur, rfl, hg, hh, hn, hcap, hsz, htake⟩
    · subst h0
      subst h1
      obtain rfl : xs = [] := List.eq_nil_of_length_eq_zero hlen
      exact ⟨none, 0, rfl, BytesAt.empty _ _ _ (by omega) (fun _ => rfl), hb, fun _ _ _ e => by cases e⟩
    · have hlt : g < w1.heap.size := (Array.getElem?_eq_some_iff.1 hh).1
      refine ⟨some ⟨g, 0, none⟩, cap, rfl, ⟨hlen, hn, HH.out.byte, hreach, (by unfold maxLen at hcap; exact hcap), (fun e => by cases e), fun hp => ⟨g, 0, rfl, hlt, fun i hi => ?_⟩⟩, hb, fun b off s e => by cases e; exact hg⟩
      have := hown2.cellAt i (by omega)
      rw [Nat.zero_add, this, bv_get _ _ (by omega)]

set_option maxRecDepth 100000 in
set_option maxHeartbeats 1000000 in
theorem new_any {a : Option Addr} {n c : Nat} {xs : List Nat} {w : World} (h : BytesAt w a n c xs) :
    Calls Try.prog 23 #[.slice a n c] w fun e w' => ∃ B a' c', e = .returned (.pointer (some ⟨B, 0, none⟩)) ∧ CurAt 59 w' B a' n c' xs 0 0 ∧ Below w.heap.size w w' ∧ w.heap.size ≤ B ∧ (∀ b off s, a' = some ⟨b, off, s⟩ → w.heap.size ≤ b) := by
  have hc := clone_any h
  have HC := Lib.hid hc
  clear hc h
  go_enter Try.func23, Try.ntmps23
  go_wp2_with fail
  refine HC.out.mono ?_
  rintro e w1 ⟨a', c', rfl, hb1, hbel, hfresh⟩
  have HB := Lib.hid hb1
  clear hb1
  go_wp2_with fail
  go_ret
  refine ⟨w1.heap.size, a', c', rfl, ⟨?_, HB.out.alloc _, ?_, Nat.zero_le _⟩, hbel.alloc hbel.size _, hbel.size, hfresh⟩
  · exact heap_alloc_new w1 _
  · intro b off s hp ha
    obtain ⟨b', off', ha', hlt, _⟩ := HB.out.cells hp
    rw [ha] at ha'
    cases ha'
    omega

set_option maxHeartbeats 400000 in
theorem at_any {w : World} {B : Nat} {a : Option Addr} {n c : Nat} {xs : List Nat} {i e : Nat} (h : CurAt 59 w B a n c xs i e) :
    Calls Try.prog 34 #[.pointer (some ⟨B, 0, none⟩)] w fun e w' => e = .returned (.int .i64 (i : Int)) ∧ w = w' := by
  have h1 := h.c1
  clear h
  go_enter Try.func34, Try.ntmps34
  go_wp2_with fail
  go_ret
  exact ⟨rfl, rfl⟩

/-- what the end answers -/
def cend (n i e : Nat) : Nat := if e = 0 then (if i < n then 5 else 0) else e

set_option maxHeartbeats 400000 in
theorem end_any {w : World} {B : Nat} {a : Option Addr} {n c : Nat} {xs : List Nat} {i e : Nat} (h : CurAt 59 w B a n c xs i e) :
    Calls Try.prog 35 #[.pointer (some ⟨B, 0, none⟩)] w fun r w' => r = .returned (.int .i64 (cend n i e : Int)) ∧ ∃ q, w' = w.drewN q := by
  have h0 := h.c0
  have h1 := h.c1
  have h2 := h.c2
  clear h
  by_cases he : e = 0
  · subst he
    by_cases hi : i < n
    · have HE := Lib.hid (show cend n i 0 = 5 from by unfold cend; rw [if_pos rfl, if_pos hi])
      have hi' : (i : Int) < (n : Int) := by omega
      go_enter Try.func35, Try.ntmps35
      go_wp2_with fail
      go_quiet (fail)
      go_wp2_with fail
      go_ret
      exact ⟨by rw [HE.out]; rfl, _, rfl⟩
    · have HE := Lib.hid (show cend n i 0 = 0 from by unfold cend; rw [if_pos rfl, if_neg hi])
      have hi' : ¬ (i : Int) < (n : Int) := by omega
      go_enter Try.func35, Try.ntmps35
      go_wp2_with fail
      go_quiet (fail)
      go_wp2_with fail
      go_ret
      exact ⟨by rw [HE.out]; rfl, _, rfl⟩
  · have HE := Lib.hid (show cend n i e = e from by unfold cend; rw [if_neg he])
    have z : ((e : Int) != 0) = true := by rw [bne_iff_ne]; omega
    clear he
    go_enter Try.func35, Try.ntmps35
    go_wp2_with fail
    go_ret
    exact ⟨by rw [HE.out]; rfl, 0, rfl⟩
end Go.Proofs.Ytbpimhklekcaiaa
