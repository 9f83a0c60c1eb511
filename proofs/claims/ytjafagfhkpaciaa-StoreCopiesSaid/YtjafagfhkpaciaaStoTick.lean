/- The clock, and the keys, over a law's own store. -/
import Derived.Test.YtjafagfhkpaciaaStoStep
import Derived.Test.YtjafagfhkpaciaaStoKeys
namespace Go.Proofs.Ytjafagfhkpaciaa
open Go.RowKit Go.Shelf Go.Maps Go.Sort
set_option linter.unusedVariables false

def tickE (now n : Int) : Int := if n < 0 ∨ 1099511627776 < n then 1 else if 1099511627775 < now + n then 2 else 0
def tickS (σ : Sto) (n : Int) : Sto := if tickE σ.now n = 0 then { σ with now := σ.now + n } else σ
theorem StIn.now {base : Nat} {W : World} {s : Nat} {σ : Sto} (h : StIn base W s σ) : W.cell? ⟨s, 5, none⟩ = some (.int .i64 σ.now) ∧ W.frozen? ⟨s, 5, none⟩ = false := by
  obtain ⟨_, ⟨Mo, Mu, h1, _⟩ | ⟨h1, _⟩⟩ := h
  · exact ⟨cell_blk2 h1.blk rfl, fro_blk2 h1.blk 5⟩
  · exact ⟨h1.cell5, h1.fro 5⟩
theorem StIn.set_now {base : Nat} {W : World} {s : Nat} {σ : Sto} (h : StIn base W s σ) (z : Int) : StIn base (W.setCell ⟨s, 5, none⟩ (.int .i64 z)) s { σ with now := z } := by
  obtain ⟨h0, ⟨Mo, Mu, h1, h2⟩ | ⟨h1, h2⟩⟩ := h
  · refine ⟨h0, .inl ⟨Mo, Mu, ?_, h2⟩⟩
    exact h1.num' ((Frm.refl (fun b => b = s) W).set (p := s) (.inl rfl) 5 _) ((heap_setCell_same W s 5 _ _ _ h1.blk).trans rfl) rfl rfl
  · refine ⟨h0, .inr ⟨h1.set5 z, ?_⟩⟩
    rw [h2]
    rfl
theorem StIn.set_below {base : Nat} {W : World} {s : Nat} {σ : Sto} (h : StIn base W s σ) (hb : base ≤ W.heap.size) (z : Int) : RowKit.Below base W (W.setCell ⟨s, 5, none⟩ (.int .i64 z)) :=
  ((Frm.refl (fun b => b = s) W).set (p := s) (.inl rfl) 5 (.int .i64 z)).toBelow hb (fun i e => by rw [e]; exact h.1)
theorem StIn.set_keep {base : Nat} {W : World} {s : Nat} {σ : Sto} (h : StIn base W s σ) (z : Int) : KeepC W (W.setCell ⟨s, 5, none⟩ (.int .i64 z)) := fun b cs t fr hb ht =>
  ((Frm.refl (fun b => b = s) W).set (p := s) (.inl rfl) 5 (.int .i64 z)).at hb fun e => by
    subst e
    obtain ⟨_, ⟨Mo, Mu, h1, _⟩ | ⟨h1, _⟩⟩ := h
    · have := h1.blk
      rw [hb] at this
      cases this; exact ht rfl
    · exact ht (h1.notStore hb)
set_option maxRecDepth 100000 in
set_option maxHeartbeats 2000000 in
theorem tick_any {base : Nat} {W : World} {s : Nat} {σ : Sto} (h : StIn base W s σ) (hb : base ≤ W.heap.size) (hn : 0 ≤ σ.now ∧ σ.now ≤ 1099511627775) (n : Int) :
    Calls Try.prog 16 #[.pointer (some ⟨s, 0, none⟩), .int .i64 n] W fun e W' => e = .returned (.int .i64 (tickE σ.now n)) ∧ StIn base W' s (tickS σ n) ∧ RowKit.Below base W W' ∧ KeepC W W' := by
  obtain ⟨c5, f5⟩ := h.now
  have HH := Lib.hid h
  clear h
  by_cases h1 : n < 0 ∨ 1099511627776 < n
  · have HE := Lib.hid (show tickE σ.now n = 1 by unfold tickE; rw [if_pos h1])
    have HS := Lib.hid (show tickS σ n = σ by unfold tickS; rw [HE.out, if_neg (by decide)])
    rcases (by omega : n < 0 ∨ (0 ≤ n ∧ 1099511627776 < n)) with g | ⟨g, g2⟩
    all_goals
      clear h1
      go_enter Try.func16, Try.ntmps16
      go_wp2_with fail
      first | go_ret2 | go_ret
      exact ⟨by rw [HE.out]; rfl, by rw [HS.out]; exact HH.out, RowKit.Below.refl _ _, fun b cs t fr g _ => g⟩
  · have g : 0 ≤ n := by omega
    have g2 : n ≤ 1099511627776 := by omega
    have wa : IntKind.i64.wrap (σ.now + n) = σ.now + n := IntWalk.i64_in _ (by omega)
    by_cases h2 : 1099511627775 < σ.now + n
    · have HE := Lib.hid (show tickE σ.now n = 2 by unfold tickE; rw [if_neg h1, if_pos h2])
      have HS := Lib.hid (show tickS σ n = σ by unfold tickS; rw [HE.out, if_neg (by decide)])
      clear h1
      go_enter Try.func16, Try.ntmps16
      go_wp2_with fail
      first | go_ret2 | go_ret
      exact ⟨by rw [HE.out]; rfl, by rw [HS.out]; exact HH.out, RowKit.Below.refl _ _, fun b cs t fr g _ => g⟩
    · have g3 : σ.now + n ≤ 1099511627775 := by omega
      have HE := Lib.hid (show tickE σ.now n = 0 by unfold tickE; rw [if_neg h1, if_neg h2])
      have HS := Lib.hid (show tickS σ n = { σ with now := σ.now + n } by unfold tickS; rw [HE.out, if_pos rfl])
      clear h1 h2
      go_enter Try.func16, Try.ntmps16
      go_wp2_with fail
      first | go_ret2 | go_ret
      exact ⟨by rw [HE.out]; rfl, by rw [HS.out]; exact HH.out.set_now _, HH.out.set_below hb _, HH.out.set_keep _⟩
set_option maxRecDepth 100000 in
theorem now_any {base : Nat} {W : World} {s : Nat} {σ : Sto} (h : StIn base W s σ) :
    Calls Try.prog 21 #[.pointer (some ⟨s, 0, none⟩)] W fun e W' => e = .returned (.int .i64 σ.now) ∧ W' = W := by
  obtain ⟨c5, f5⟩ := h.now
  clear h
  go_enter Try.func21, Try.ntmps21
  go_wp2_with fail
  first | go_ret2 | go_ret
  exact ⟨rfl, rfl⟩
theorem Inv.tick {σ : Sto} (h : Inv σ) (n : Int) : Inv (tickS σ n) ∧ (tickS σ n).ver = σ.ver ∧ (tickS σ n).id = σ.id ∧ (tickS σ n).objs = σ.objs ∧ σ.now ≤ (tickS σ n).now ∧ ((tickS σ n).now = σ.now ∨ (tickS σ n).now ≤ 1099511627775) := by
  unfold tickS
  split
  · rename_i he
    have hn : 0 ≤ n ∧ σ.now + n ≤ 1099511627775 := by
      unfold tickE at he
      split at he
      · cases he
      · split at he
        · cases he
        · omega
    refine ⟨⟨h.ver, h.id, by have := h.now; show 0 ≤ σ.now + n; omega, h.siz, h.tot, h.nob, h.nup, fun p hp => ?_, fun p hp => ?_, h.prt⟩, rfl, rfl, rfl, by show σ.now ≤ σ.now + n; omega, .inr hn.2⟩
    · obtain ⟨q1, q2, q3, q4, q5, q6⟩ := h.obj p hp
      exact ⟨q1, q2, q3, q4, q5, by show p.2.born ≤ σ.now + n; omega⟩
    · obtain ⟨q1, q2, q3, q4, q5, q6⟩ := h.upl p hp
      exact ⟨q1, q2, q3, q4, by show p.2.born ≤ σ.now + n; omega, q6⟩
  · exact ⟨h, rfl, rfl, rfl, Int.le_refl _, .inl rfl⟩
/-- of two objects the one with the greater version is no older -/
def BornI (σ : Sto) : Prop := ∀ p ∈ σ.objs, ∀ q ∈ σ.objs, (p.2.ver = q.2.ver → p.1 = q.1) ∧ (p.2.ver < q.2.ver → p.2.born ≤ q.2.born)
theorem born0 : BornI (sto0 0) := fun p hp => by cases hp
theorem BornI.step {σ σ' : Sto} {ki x v : Int} (h : BornI σ) (hi : Inv σ) (hd : DoRes σ σ' ki x v) : BornI σ' := by
  rcases hd.objs with e | ⟨k, e⟩ | ⟨k, d, e, _⟩
  · intro p hp q hq
    rw [e] at hp hq
    exact h p hp q hq
  · intro p hp q hq
    rw [e] at hp hq
    exact h p (mem_drop hp) q (mem_drop hq)
  · intro p hp q hq
    rw [e] at hp hq
    rcases mem_put hp with rfl | hp
    · rcases mem_put hq with rfl | hq
      · exact ⟨fun _ => rfl, fun _ => Int.le_refl _⟩
      · have h1 := (hi.obj q hq).2.2.2.1
        exact ⟨fun e1 => by simp only at e1; omega, fun e1 => by simp only at e1; omega⟩
    · rcases mem_put hq with rfl | hq
      · have h1 := (hi.obj p hp).2.2.2.1
        exact ⟨fun e1 => by simp only at e1; omega, fun _ => (hi.obj p hp).2.2.2.2.2⟩
      · exact h p hp q hq
theorem BornI.tick {σ : Sto} (h : BornI σ) (hi : Inv σ) (n : Int) : BornI (tickS σ n) := by
  have e := (hi.tick n).2.2.2.1
  intro p hp q hq
  rw [e] at hp hq
  exact h p hp q hq
end Go.Proofs.Ytjafagfhkpaciaa
