/- A law's steps over the store, its maps made or not. -/
import Derived.Test.YtjafagfhkpaciaaStoAny
import Derived.Test.YtjafagfhkpaciaaStoLiv
namespace Go.Proofs.Ytjafagfhkpaciaa
open Go.RowKit
set_option linter.unusedVariables false

/-- a store of the law's own -/
def StIn (base : Nat) (W : World) (s : Nat) (σ : Sto) : Prop := base ≤ s ∧ ((∃ Mo Mu, StAt W s Mo Mu σ ∧ ∀ b, StF s Mo Mu σ b → base ≤ b) ∨ (FreshAt W s σ.now ∧ σ = sto0 σ.now))
theorem StIn.below {base : Nat} {W W' : World} {s : Nat} {σ : Sto} (h : StIn base W s σ) (hb : Below W.heap.size W W') : StIn base W' s σ := by
  obtain ⟨h0, h | ⟨h1, h2⟩⟩ := h
  · obtain ⟨Mo, Mu, h1, h2⟩ := h
    exact ⟨h0, .inl ⟨Mo, Mu, h1.below hb, h2⟩⟩
  · exact ⟨h0, .inr ⟨h1.below hb, h2⟩⟩
theorem StIn.sat {base : Nat} {W : World} {s : Nat} {σ : Sto} (h : StIn base W s σ) (hb : base ≤ W.heap.size) : ∃ Mo Mu, SAt W s Mo Mu σ ∧ ∀ b, StF s Mo Mu σ b → base ≤ b := by
  obtain ⟨h0, h | ⟨h1, h2⟩⟩ := h
  · obtain ⟨Mo, Mu, h1, h2⟩ := h
    exact ⟨Mo, Mu, .inl h1, h2⟩
  · refine ⟨W.heap.size + 2, W.heap.size + 3, .inr ⟨h1, h2, rfl, rfl⟩, ?_⟩
    rintro b (g | g | g | ⟨p, hp, g⟩)
    · omega
    · omega
    · omega
    · rw [h2] at hp; cases hp
theorem SAt.not {W : World} {s Mo Mu : Nat} {σ : Sto} (h : SAt W s Mo Mu σ) {b : Nat} {cs : Array Value} {t : TypeId} {fr : Nat × Nat} (hb : W.heap[b]? = some (.cells cs t fr)) (ht : t ≠ 61) : ¬ StF s Mo Mu σ b := by
  rcases h with h | ⟨h, he, hMo, hMu⟩
  · exact h.not hb ht
  · have hl := (Array.getElem?_eq_some_iff.1 hb).1
    rintro (g | g | g | ⟨p, hp, g⟩)
    · rw [g] at hb
      exact ht (h.notStore hb)
    · omega
    · omega
    · rw [he] at hp; cases hp
/-- other cells stay -/
def KeepC (W W' : World) : Prop := ∀ (b : Nat) (cs : Array Value) (t : TypeId) (fr : Nat × Nat), W.heap[b]? = some (.cells cs t fr) → t ≠ 61 → W'.heap[b]? = some (.cells cs t fr)
theorem keepC_of {W W' : World} {s Mo Mu : Nat} {σ : Sto} (h : SAt W s Mo Mu σ) (hF : Frm (StF s Mo Mu σ) W W') : KeepC W W' := fun b cs t fr hb ht => hF.at hb (h.not hb ht)
theorem KeepC.below {W W1 W' : World} (h : KeepC W W1) (hb : Below W1.heap.size W1 W') : KeepC W W' := fun b cs t fr g ht => (hb.block _ (Array.getElem?_eq_some_iff.1 (h b cs t fr g ht)).1).trans (h b cs t fr g ht)
def repV (x v b i : Int) (d l : Value) (m : Bool) : Value := .agg #[.int .i64 x, d, .int .i64 v, .int .i64 b, .int .i64 i, l, .bool m]
section
variable {base : Nat} {W : World} {s : Nat} {σ : Sto} {ki vr at_ nn id : Int} {ky : ByteArray} {a : Option Addr} {n c : Nat} {xs : List Nat}
theorem step_any (h : StIn base W s σ) (hb : base ≤ W.heap.size) (hi : Inv σ) (hv : σ.ver ≤ 1000000000) (hidb : σ.id ≤ 1000000000) (hx : BytesAt W a n c xs) (hk : ky.size ≤ 1000000000000000) (hid : (Lit.int .i64 id).wf = true) :
    Calls Try.prog 12 #[.pointer (some ⟨s, 0, none⟩), .agg #[.int .i64 ki, .string ky, .slice a n c, .int .i64 vr, .int .i64 at_, .int .i64 nn, .int .i64 id]] W fun e W' => ∃ x v b i ra rn rc la ln lc m σ', e = .returned (repV x v b i (.slice ra rn rc) (.slice la ln lc) m) ∧ DoRes σ σ' ki x v ∧ StIn base W' s σ' ∧ Below base W W' ∧ KeepC W W' := by
  obtain ⟨Mo, Mu, hs, hF⟩ := h.sat hb
  refine (doAny hs hi hv hidb hx hk hid).mono ?_
  rintro e W' ⟨x, ra, rn, rc, v, b, i, la, ln, lc, m, σ', rfl, hr, hst, hf, hsub⟩
  exact ⟨x, v, b, i, ra, rn, rc, la, ln, lc, m, σ', rfl, hr, ⟨h.1, .inl ⟨Mo, Mu, hst, fun b hb' => (hsub b hb').elim (hF b) (fun g => Nat.le_trans hb g)⟩⟩, hf.toBelow hb hF, keepC_of hs hf⟩
theorem step_put (h : StIn base W s σ) (hb : base ≤ W.heap.size) (hi : Inv σ) (hv : σ.ver ≤ 1000000000) (hidb : σ.id ≤ 1000000000) (hx : BytesAt W a n c xs) (hk : ky.size ≤ 1000000000000000) :
    Calls Try.prog 12 #[.pointer (some ⟨s, 0, none⟩), .agg #[.int .i64 2, .string ky, .slice a n c, .int .i64 vr, .int .i64 at_, .int .i64 nn, .int .i64 id]] W fun e W' => ∃ v b, e = .returned (repV (putE σ 2 ky vr n) v b 0 (.slice none 0 0) (.slice none 0 0) false) ∧ Below base W W' ∧ KeepC W W' ∧
      StIn base W' s (if putE σ 2 ky vr n = 0 then makeS σ ky (bs xs) else σ) := by
  obtain ⟨Mo, Mu, hs, hF⟩ := h.sat hb
  refine (doPutIf hs hx hk (hi.ok hv hidb)).mono ?_
  rintro e W' ⟨hf, h1, h2⟩
  rcases Classical.em (putE σ 2 ky vr n = 0) with g | g
  · obtain ⟨rfl, hst⟩ := h2 g
    rw [g, if_pos rfl]
    exact ⟨_, _, rfl, hf.toBelow hb hF, keepC_of hs hf, h.1, .inl ⟨Mo, Mu, hst, fun b hb' => hF b (make_blk hb')⟩⟩
  · obtain ⟨rfl, hst⟩ := h1 g
    rw [if_neg g]
    exact ⟨0, 0, rfl, hf.toBelow hb hF, keepC_of hs hf, h.1, .inl ⟨Mo, Mu, hst, hF⟩⟩
theorem step_get (h : StIn base W s σ) (hb : base ≤ W.heap.size) (hi : Inv σ) (hv : σ.ver ≤ 1000000000) (hidb : σ.id ≤ 1000000000) (hk : ky.size ≤ 1000000000000000) :
    Calls Try.prog 12 #[.pointer (some ⟨s, 0, none⟩), .agg #[.int .i64 3, .string ky, .slice a n c, .int .i64 vr, .int .i64 at_, .int .i64 nn, .int .i64 id]] W fun e W' => Below base W W' ∧ KeepC W W' ∧ StIn base W' s σ ∧ ∃ x b ga gn gc, e = .returned (repV x (oldVer σ ky) b 0 (.slice ga gn gc) (.slice none 0 0) false) ∧
      (x = if (objOf σ ky).isSome = true then 0 else 7) ∧ (∀ o, objOf σ ky = some o → b = o.born ∧ BytesAt W' ga gn gc (numsOf o.data)) := by
  obtain ⟨Mo, Mu, hs, hF⟩ := h.sat hb
  refine (doGet hs hk (hi.ok hv hidb)).mono ?_
  rintro e W' ⟨hf, hst, hq⟩
  refine ⟨hf.toBelow hb hF, keepC_of hs hf, ⟨h.1, .inl ⟨Mo, Mu, hst, hF⟩⟩, ?_⟩
  have hov : oldVer σ ky = match objOf σ ky with | some o => o.ver | none => 0 := by unfold oldVer; rfl
  rw [hov]
  cases hg : objOf σ ky with
  | none => rw [hg] at hq; exact ⟨7, 0, none, 0, 0, hq, rfl, fun o e => by cases e⟩
  | some o =>
    rw [hg] at hq
    obtain ⟨g, c, he, _, hby⟩ := hq
    exact ⟨0, o.born, _, _, _, he, rfl, fun o' e => by cases e; exact ⟨rfl, hby⟩⟩
end
end Go.Proofs.Ytjafagfhkpaciaa
