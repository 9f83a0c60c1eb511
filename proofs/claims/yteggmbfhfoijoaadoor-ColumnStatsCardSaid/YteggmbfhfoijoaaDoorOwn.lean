/- Bytes that the call owns, kept behind calls that leave old memory alone; bytes.Clone gives such ones. -/
import Derived.Test.YteggmbfhfoijoaaDoorTwin
import Derived.Deep.Onto
namespace Go.Proofs.YteggmbfhfoijoaaDoor
open Go.RowKit
set_option linter.unusedVariables false

theorem own_below {w w' : World} {base : Nat} {e : TypeId} {size : Nat} {v : Value} {n : Nat} {xs : List Value} (h : w.ownsRow base e size v n xs) (hb : Below w.heap.size w w') : w'.ownsRow base e size v n xs :=
  h.kept (row := none) ⟨hb.os, hb.tape, hb.output, hb.size, fun k hk _ => hb.block k hk⟩ (by cases hv : v.ownBlock <;> simp)

theorem own_nil_bytes (w : World) (base : Nat) : w.ownsRow base 5 1 (.slice none 0 0) 0 (bv []) := World.ownsRow_nil w base _ _

/-- what is appended to what a call owns: the frame stays below -/
theorem below_own {w w' : World} {B base : Nat} {e : TypeId} {size : Nat} {v : Value} {n : Nat} {xs : List Value} {w0 : World} (hb : Below B w0 w) (hown : w.ownsRow base e size v n xs) (hg : w.grownBy w' v.ownBlock) (hB : B ≤ base) (hs : B ≤ w.heap.size) : Below B w0 w' :=
  hb.grown hg hs (fun k hk => Nat.le_trans hB (hown.lt k hk).1)
/-- what a call owns of one type, and of another: not in one block -/
theorem own_ne2 {w : World} {base base' : Nat} {e e' : TypeId} {size size' : Nat} {v v' : Value} {n n' : Nat} {xs xs' : List Value} (h : w.ownsRow base e size v n xs) (h' : w.ownsRow base' e' size' v' n' xs') (hne : e ≠ e') : v.ownBlock = none ∨ v.ownBlock ≠ v'.ownBlock := by
  rcases h.2 with ⟨rfl, _⟩ | ⟨g, cap, cur, rfl, _, hg, _⟩
  · exact .inl rfl
  · rcases h'.2 with ⟨rfl, _⟩ | ⟨g', cap', cur', rfl, _, hg', _⟩
    · exact .inr (by simp [Value.ownBlock])
    · refine .inr fun e1 => ?_
      simp [Value.ownBlock] at e1
      subst e1
      rw [hg] at hg'
      simp at hg'
      exact hne hg'.2

/-- what was made later than another one's row is kept when that one is appended to -/
theorem own_other {w w' w0 : World} {base base' : Nat} {e e' : TypeId} {size size' : Nat} {v v' : Value} {n n' : Nat} {xs xs' : List Value} (h : w.ownsRow base e size v n xs) (hg : w.grownBy w' v'.ownBlock) (h' : w0.ownsRow base' e' size' v' n' xs') (hb : w0.heap.size ≤ base) : w'.ownsRow base e size v n xs := by
  refine h.kept hg ?_
  cases hv : v.ownBlock with
  | none => exact .inl rfl
  | some k =>
    refine .inr fun e => ?_
    have h1 := (h.lt k hv).1
    have h2 := (h'.lt k e.symm).2
    omega

set_option maxRecDepth 100000 in
set_option maxHeartbeats 1000000 in
theorem clone_own {a : Option Addr} {n c : Nat} {xs : List Nat} {w : World} (h : BytesAt w a n c xs) :
    Calls Tryd.prog 49 #[.slice a n c] w fun e w' => ∃ v, e = .returned v ∧ w'.ownsRow w.heap.size 5 1 v n (bv xs) ∧ Below w.heap.size w w' := by
  have q : ∀ (w : World) (a : Option Addr) (n c n' c' : Nat), (binOp .eql 24 (.slice a n c) (.slice none n' c')).run Tryd.prog w = .ok (.bool a.isNone) w := fun w a n c n' c' => Lib.run_eql_slice_nil w _ _ a n c n' c' Tryd.underlying24
  have hown0 := World.ownsRow_lit (base := w.heap.size) (e := 5) (size := 1) w #[] 0 (Nat.le_refl _) (by unfold maxLen; omega) rfl
  have hreach := h.reach
  have hlen := h.len
  rcases a with _ | ad
  · have hc0 := h.nl rfl
    have hn0 : n = 0 := by have := h.cap; omega
    subst hn0
    subst hc0
    obtain rfl : xs = [] := List.eq_nil_of_length_eq_zero hlen
    have HH := Lib.hid h
    clear h hlen
    go_enter Tryd.func49, Tryd.ntmps49
    go_wp2_with fail
    go_ret
    exact ⟨_, rfl, own_nil_bytes _ _, Below.refl _ _⟩
  · have HH := Lib.hid h
    have ha := h.alloc (.cells #[] 5)
    have HA := Lib.hid ha
    clear h ha
    go_enter Tryd.func49, Tryd.ntmps49
    go_wp2_with (at_builtin; refine wpList_append_bytes rfl (.tmp 5) (.tmp 6) rfl w.heap.size _ _ [] rfl hown0 _ _ _ _ rfl HA.out (by omega) (by simp) ?_)
    intro v' w1 hown' hgrow
    have hown2 : w1.ownsRow w.heap.size 5 1 v' n (bv xs) := by simpa using hown'
    clear hown'
    have hb : Below w.heap.size w w1 := ((Below.refl _ _).alloc (Nat.le_refl _) _).grown hgrow (by simp) (fun k hk => by simp [Value.ownBlock] at hk; omega)
    go_wp2_with fail
    go_ret
    exact ⟨v', rfl, hown2, hb⟩
end Go.Proofs.YteggmbfhfoijoaaDoor
