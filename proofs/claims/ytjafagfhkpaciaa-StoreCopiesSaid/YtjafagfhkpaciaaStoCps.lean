/- Put together out of XStoTwo, XStoCpy, XStoCpT. -/
import Derived.Test.YtjafagfhkpaciaaStoCpP
import Derived.Test.YtjafagfhkpaciaaGmR
import Derived.BigRegion
import Derived.Deep.CutBlock
import Derived.WalkSmall
import Derived.Laws.IdiomRangeMap
section SecStoCps0
/- Two stores beside each other: what is done to one leaves the other. -/
namespace Go.Proofs.Ytjafagfhkpaciaa
open Go.RowKit
set_option linter.unusedVariables false

/-- a store within these blocks -/
structure StW (A : Nat → Prop) (W : World) (s : Nat) (σ : Sto) : Prop where
  own : A s
  at_ : (∃ Mo Mu, StAt W s Mo Mu σ ∧ ∀ b, StF s Mo Mu σ b → A b) ∨ (σ = sto0 σ.now ∧ ∃ mu, W.heap[s]? = some (.cells (freC mu σ.now) 61 (0, 0)) ∧ (mu = none ∨ ∃ m, mu = some m ∧ A m ∧ GM TU ilit uplC W m []))
theorem StW.zero {A : Nat → Prop} {W : World} {s : Nat} {σ : Sto} (h : StW A W s σ) : StIn 0 W s σ := by
  refine ⟨Nat.zero_le _, ?_⟩
  rcases h.at_ with ⟨Mo, Mu, h1, _⟩ | ⟨h1, mu, h2, h3⟩
  · exact .inl ⟨Mo, Mu, h1, fun b _ => Nat.zero_le _⟩
  · refine .inr ⟨⟨mu, h2, ?_⟩, h1⟩
    rcases h3 with h3 | ⟨m, e, _, h3⟩
    · exact .inl h3
    · exact .inr ⟨m, e, h3⟩
theorem StW.same {A : Nat → Prop} {W W' : World} {s : Nat} {σ : Sto} (h : StW A W s σ) (e : ∀ b, A b → b < W.heap.size → W'.heap[b]? = W.heap[b]?) : StW A W' s σ := by
  refine ⟨h.own, ?_⟩
  rcases h.at_ with ⟨Mo, Mu, h1, h2⟩ | ⟨h1, mu, h2, h3⟩
  · exact .inl ⟨Mo, Mu, h1.same fun b hb => e b (h2 b hb) (h1.lt hb), h2⟩
  · refine .inr ⟨h1, mu, (e s h.own (Array.getElem?_eq_some_iff.1 h2).1).trans h2, ?_⟩
    rcases h3 with h3 | ⟨m, em, ha, h3⟩
    · exact .inl h3
    · exact .inr ⟨m, em, ha, h3.same (e m ha h3.lt)⟩
theorem StW.imp {A B : Nat → Prop} {W : World} {s : Nat} {σ : Sto} (h : StW A W s σ) (hi : ∀ b, A b → B b) : StW B W s σ := by
  refine ⟨hi _ h.own, ?_⟩
  rcases h.at_ with ⟨Mo, Mu, h1, h2⟩ | ⟨h1, mu, h2, h3⟩
  · exact .inl ⟨Mo, Mu, h1, fun b hb => hi b (h2 b hb)⟩
  · refine .inr ⟨h1, mu, h2, ?_⟩
    rcases h3 with h3 | ⟨m, em, ha, h3⟩
    · exact .inl h3
    · exact .inr ⟨m, em, hi m ha, h3⟩
theorem StW.sat {A : Nat → Prop} {W : World} {s : Nat} {σ : Sto} (h : StW A W s σ) : ∃ Mo Mu, SAt W s Mo Mu σ ∧ ∀ b, StF s Mo Mu σ b → A b ∨ W.heap.size ≤ b := by
  rcases h.at_ with ⟨Mo, Mu, h1, h2⟩ | ⟨h1, mu, h2, h3⟩
  · exact ⟨Mo, Mu, .inl h1, fun b hb => .inl (h2 b hb)⟩
  · refine ⟨W.heap.size + 2, W.heap.size + 3, .inr ⟨⟨mu, h2, ?_⟩, h1, rfl, rfl⟩, ?_⟩
    · rcases h3 with h3 | ⟨m, em, ha, h3⟩
      · exact .inl h3
      · exact .inr ⟨m, em, h3⟩
    · rintro b (g | g | g | ⟨p, hp, g⟩)
      · exact .inl (by rw [g]; exact h.own)
      · exact .inr (by omega)
      · exact .inr (by omega)
      · rw [h1] at hp; cases hp
/-- two stores, apart -/
def Two (bw : Nat) (W : World) (s : Nat) (σ : Sto) (c : Nat) (τ : Sto) : Prop := bw ≤ W.heap.size ∧ ∃ A B, StW A W s σ ∧ StW B W c τ ∧ (∀ b, A b → ¬ B b) ∧ (∀ b, A b → bw ≤ b ∧ b < W.heap.size) ∧ (∀ b, B b → bw ≤ b ∧ b < W.heap.size)
section
variable {bw : Nat} {W W' : World} {s c : Nat} {σ τ σ' : Sto}
theorem Two.symm (h : Two bw W s σ c τ) : Two bw W c τ s σ := by
  obtain ⟨h0, A, B, h1, h2, h3, h4, h5⟩ := h
  exact ⟨h0, B, A, h2, h1, fun b hb ha => h3 b ha hb, h5, h4⟩
theorem Two.below (h : Two bw W s σ c τ) (hb : Below W.heap.size W W') : Two bw W' s σ c τ := by
  obtain ⟨h0, A, B, h1, h2, h3, h4, h5⟩ := h
  exact ⟨Nat.le_trans h0 hb.size, A, B, h1.same fun b _ hl => hb.block b hl, h2.same fun b _ hl => hb.block b hl, h3, fun b ha => ⟨(h4 b ha).1, Nat.lt_of_lt_of_le (h4 b ha).2 hb.size⟩, fun b ha => ⟨(h5 b ha).1, Nat.lt_of_lt_of_le (h5 b ha).2 hb.size⟩⟩
theorem Two.zero (h : Two bw W s σ c τ) : StIn 0 W s σ := by
  obtain ⟨h0, A, B, h1, _⟩ := h
  exact h1.zero
/-- behind a step over the first of them -/
theorem Two.next {A B : Nat → Prop} {Mo Mu Mo' Mu' : Nat} (h0 : bw ≤ W.heap.size) (h2 : StW B W c τ) (h3 : ∀ b, A b → ¬ B b) (h4 : ∀ b, A b → bw ≤ b ∧ b < W.heap.size) (h5 : ∀ b, B b → bw ≤ b ∧ b < W.heap.size) (hA : ∀ b, StF s Mo Mu σ b → A b ∨ W.heap.size ≤ b)
    (hst : StAt W' s Mo' Mu' σ') (hf : Frm (StF s Mo Mu σ) W W') (hsub : ∀ b, StF s Mo' Mu' σ' b → StF s Mo Mu σ b ∨ W.heap.size ≤ b) : Two bw W' s σ' c τ ∧ Below bw W W' := by
  have hA' : ∀ b, StF s Mo' Mu' σ' b → A b ∨ W.heap.size ≤ b := fun b hb => (hsub b hb).elim (hA b) .inr
  refine ⟨⟨Nat.le_trans h0 hf.size, fun b => A b ∨ (W.heap.size ≤ b ∧ b < W'.heap.size), B, ⟨?_, .inl ⟨Mo', Mu', hst, fun b hb => ?_⟩⟩, h2.same fun b hb hl => hf.block b hl fun g => ?_, ?_, ?_, ?_⟩, hf.toBelow h0 fun b hb => ?_⟩
  · exact (hA' s (.inl rfl)).imp id fun g => ⟨g, hst.lts⟩
  · exact (hA' b hb).imp id fun g => ⟨g, hst.lt hb⟩
  · rcases hA b g with g | g
    · exact h3 b g hb
    · omega
  · rintro b (g | g) hb
    · exact h3 b g hb
    · have := (h5 b hb).2; omega
  · rintro b (g | g)
    · exact ⟨(h4 b g).1, Nat.lt_of_lt_of_le (h4 b g).2 hf.size⟩
    · omega
  · exact fun b hb => ⟨(h5 b hb).1, Nat.lt_of_lt_of_le (h5 b hb).2 hf.size⟩
  · rcases hA b hb with g | g
    · exact (h4 b g).1
    · omega
end
set_option maxRecDepth 100000 in
set_option maxHeartbeats 2000000 in
theorem tick_raw {W : World} {s : Nat} {now : Int} (c5 : W.cell? ⟨s, 5, none⟩ = some (.int .i64 now)) (f5 : W.frozen? ⟨s, 5, none⟩ = false) (hn : 0 ≤ now ∧ now ≤ 1099511627775) (n : Int) :
    Calls Try.prog 16 #[.pointer (some ⟨s, 0, none⟩), .int .i64 n] W fun e W' => e = .returned (.int .i64 (tickE now n)) ∧ ((tickE now n ≠ 0 ∧ W' = W) ∨ (tickE now n = 0 ∧ W' = W.setCell ⟨s, 5, none⟩ (.int .i64 (now + n)))) := by
  by_cases h1 : n < 0 ∨ 1099511627776 < n
  · have HE := Lib.hid (show tickE now n = 1 by unfold tickE; rw [if_pos h1])
    rcases (by omega : n < 0 ∨ (0 ≤ n ∧ 1099511627776 < n)) with g | ⟨g, g2⟩
    all_goals
      clear h1
      go_enter Try.func16, Try.ntmps16
      go_wp2_with fail
      first | go_ret2 | go_ret
      exact ⟨by rw [HE.out]; rfl, .inl ⟨by rw [HE.out]; decide, rfl⟩⟩
  · have g : 0 ≤ n := by omega
    have g2 : n ≤ 1099511627776 := by omega
    have wa : IntKind.i64.wrap (now + n) = now + n := IntWalk.i64_in _ (by omega)
    by_cases h2 : 1099511627775 < now + n
    · have HE := Lib.hid (show tickE now n = 2 by unfold tickE; rw [if_neg h1, if_pos h2])
      clear h1
      go_enter Try.func16, Try.ntmps16
      go_wp2_with fail
      first | go_ret2 | go_ret
      exact ⟨by rw [HE.out]; rfl, .inl ⟨by rw [HE.out]; decide, rfl⟩⟩
    · have g3 : now + n ≤ 1099511627775 := by omega
      have HE := Lib.hid (show tickE now n = 0 by unfold tickE; rw [if_neg h1, if_neg h2])
      clear h1 h2
      go_enter Try.func16, Try.ntmps16
      go_wp2_with fail
      first | go_ret2 | go_ret
      exact ⟨by rw [HE.out]; rfl, .inr ⟨HE.out, rfl⟩⟩
section
variable {bw : Nat} {W : World} {s c : Nat} {σ τ : Sto} {ki vr at_ nn id : Int} {ky : ByteArray} {a : Option Addr} {n cc : Nat} {xs : List Nat}
theorem step_two (h : Two bw W s σ c τ) (hi : Inv σ) (hv : σ.ver ≤ 1000000000) (hidb : σ.id ≤ 1000000000) (hx : BytesAt W a n cc xs) (hk : ky.size ≤ 1000000000000000) (hid : (Lit.int .i64 id).wf = true) :
    Calls Try.prog 12 #[.pointer (some ⟨s, 0, none⟩), .agg #[.int .i64 ki, .string ky, .slice a n cc, .int .i64 vr, .int .i64 at_, .int .i64 nn, .int .i64 id]] W fun e W' => ∃ x v b i ra rn rc la ln lc m σ', e = .returned (repV x v b i (.slice ra rn rc) (.slice la ln lc) m) ∧ DoRes σ σ' ki x v ∧ Two bw W' s σ' c τ ∧ Below bw W W' ∧ KeepC W W' := by
  obtain ⟨h0, A, B, h1, h2, h3, h4, h5⟩ := h
  obtain ⟨Mo, Mu, hs, hF⟩ := h1.sat
  refine (doAny hs hi hv hidb hx hk hid).mono ?_
  rintro e W' ⟨x, ra, rn, rc, v, b, i, la, ln, lc, m, σ', rfl, hr, hst, hf, hsub⟩
  obtain ⟨q1, q2⟩ := Two.next h0 h2 h3 h4 h5 hF hst hf hsub
  exact ⟨x, v, b, i, ra, rn, rc, la, ln, lc, m, σ', rfl, hr, q1, q2, keepC_of hs hf⟩
theorem get_two (h : Two bw W s σ c τ) (hi : Inv σ) (hv : σ.ver ≤ 1000000000) (hidb : σ.id ≤ 1000000000) (hk : ky.size ≤ 1000000000000000) :
    Calls Try.prog 12 #[.pointer (some ⟨s, 0, none⟩), .agg #[.int .i64 3, .string ky, .slice a n cc, .int .i64 vr, .int .i64 at_, .int .i64 nn, .int .i64 id]] W fun e W' => Below bw W W' ∧ KeepC W W' ∧ Two bw W' s σ c τ ∧ GetIs σ ky e W' := by
  obtain ⟨h0, A, B, h1, h2, h3, h4, h5⟩ := h
  obtain ⟨Mo, Mu, hs, hF⟩ := h1.sat
  refine (doGet hs hk (hi.ok hv hidb)).mono ?_
  rintro e W' ⟨hf, hst, hq⟩
  obtain ⟨q1, q2⟩ := Two.next h0 h2 h3 h4 h5 hF hst hf (fun b hb => .inl hb)
  refine ⟨q2, keepC_of hs hf, q1, ?_⟩
  unfold GetIs
  have hov : oldVer σ ky = match objOf σ ky with | some o => o.ver | none => 0 := by unfold oldVer; rfl
  rw [hov]
  cases hg : objOf σ ky with
  | none => rw [hg] at hq; exact ⟨7, 0, none, 0, 0, hq, rfl, fun o e => by cases e⟩
  | some o =>
    rw [hg] at hq
    obtain ⟨g, cg, he, _, hby⟩ := hq
    exact ⟨0, o.born, _, _, _, he, rfl, fun o' e => by cases e; exact ⟨rfl, hby⟩⟩
theorem opened_two (h : Two bw W s σ c τ) (hi : Inv σ) (hidb : σ.id ≤ 1000000000) :
    Calls Try.prog 12 #[.pointer (some ⟨s, 0, none⟩), .agg #[.int .i64 11, .string ky, .slice a n cc, .int .i64 vr, .int .i64 at_, .int .i64 nn, .int .i64 id]] W fun e W' => Below bw W W' ∧ KeepC W W' ∧ Two bw W' s σ c τ ∧ SeesIs W (opnL σ id) e W' := by
  obtain ⟨h0, A, B, h1, h2, h3, h4, h5⟩ := h
  obtain ⟨Mo, Mu, hs, hF⟩ := h1.sat
  refine (doOpened hs hi hidb).mono ?_
  rintro e W' ⟨W0, w1, g2, g3, ⟨q1, q2, la, ln, lc, he, hr, hn⟩, g5, g6⟩
  have hf := out_frm g2 g5 g6
  have hst := out_st hs g3 q1 (fun b hb => .inl hb) g6
  obtain ⟨p1, p2⟩ := Two.next h0 h2 h3 h4 h5 hF hst hf (fun b hb => .inl hb)
  refine ⟨p2, keepC_of hs hf, p1, la, ln, lc, he, hn, ?_, lst_row g3 hr g6⟩
  have h1 := hr.1
  have h2 := ItemS.flat_len ((opnL σ id).take 16)
  have h3 : ItemS.K = 4 := rfl
  rw [h3] at h2
  unfold opnL at h2 ⊢
  omega
theorem dump_two (h : Two bw W s σ c τ) (hi : Inv σ) (hv : σ.ver ≤ 1000) (hidb : σ.id ≤ 1000) (hnw : σ.now ≤ 1099511627775) :
    Calls Try.prog 15 #[.pointer (some ⟨s, 0, none⟩)] W fun e w' => e = .returned (.string (dumpT σ)) ∧ Below bw W w' ∧ KeepC W w' ∧ Two bw w' s σ c τ :=
  dump_gen (fun W => Two bw W s σ c τ) h h.1 hi hv hidb hnw (fun W W' h hb => h.below hb) (fun W h => h.zero)
    (fun W ky h hb hk => get_two h hi (by omega) (by omega) hk) (fun W id h hb => opened_two h hi (by omega))
/-- the clock of one of two -/
theorem tick_two (h : Two bw W s σ c τ) (hn : 0 ≤ σ.now ∧ σ.now ≤ 1099511627775) (n : Int) :
    Calls Try.prog 16 #[.pointer (some ⟨s, 0, none⟩), .int .i64 n] W fun e W' => e = .returned (.int .i64 (tickE σ.now n)) ∧ Two bw W' s (tickS σ n) c τ ∧ Below bw W W' ∧ KeepC W W' := by
  refine (tick_raw h.zero.now.1 h.zero.now.2 hn n).mono ?_
  rintro e W' ⟨rfl, hq⟩
  refine ⟨rfl, ?_⟩
  unfold tickS
  rcases hq with ⟨h1, rfl⟩ | ⟨h1, rfl⟩
  · rw [if_neg h1]
    exact ⟨h, Below.refl _ _, fun b cs t fr g _ => g⟩
  · rw [if_pos h1]
    obtain ⟨h0, A, B, h1, h2, h3, h4, h5⟩ := h
    have hf := (Frm.refl (fun b => b = s) W).set (p := s) (.inl rfl) 5 (.int .i64 (σ.now + n))
    have hsz : (W.setCell ⟨s, 5, none⟩ (.int .i64 (σ.now + n))).heap.size = W.heap.size := by simp [World.setCell]
    refine ⟨⟨Nat.le_trans h0 hf.size, A, B, ⟨h1.own, ?_⟩, h2.same fun b hb hl => hf.block b hl fun e => h3 s h1.own (by rw [← e]; exact hb), h3, by rw [hsz]; exact h4, by rw [hsz]; exact h5⟩, hf.toBelow h0 fun b e => by rw [e]; exact (h4 s h1.own).1, ?_⟩
    · rcases h1.at_ with ⟨Mo, Mu, q1, q2⟩ | ⟨q1, mu, q2, q3⟩
      · exact .inl ⟨Mo, Mu, q1.num' hf ((heap_setCell_same W s 5 _ _ _ q1.blk).trans rfl) rfl rfl, q2⟩
      · refine .inr ⟨by rw [q1]; rfl, mu, (heap_setCell_same W s 5 _ _ _ q2).trans rfl, ?_⟩
        rcases q3 with q3 | ⟨m, em, ha, q3⟩
        · exact .inl q3
        · refine .inr ⟨m, em, ha, q3.same (hf.block m q3.lt fun e => ?_)⟩
          obtain ⟨es, cl, hb⟩ := gm_obj q3
          rw [e, q2] at hb
          cases hb
    · intro b cs t fr hb ht
      refine hf.at hb fun e => ?_
      subst e
      rcases h1.at_ with ⟨Mo, Mu, q1, q2⟩ | ⟨q1, mu, q2, q3⟩
      · have := q1.blk
        rw [hb] at this
        cases this; exact ht rfl
      · rw [hb] at q2
        cases q2; exact ht rfl
end
end Go.Proofs.Ytjafagfhkpaciaa
end SecStoCps0
section SecStoCps1
/- The store's Copy, walked. -/
namespace Go.Proofs.Ytjafagfhkpaciaa
open Go.RowKit
set_option linter.unusedVariables false

theorem store_blk {w : World} {b : Nat} {cs : Array Value} {t : TypeId} (h : w.heap[b]? = some (.cells cs t (0, 0))) (j : Nat) (u : Value) : (w.setCell ⟨b, j, none⟩ u).heap[b]? = some (.cells (cs.setIfInBounds j u) t (0, 0)) := heap_setCell_same w b j cs t u h
theorem set_frm (w : World) (b j : Nat) (u : Value) : Frm (fun i => i = b) w (w.setCell ⟨b, j, none⟩ u) := (Frm.refl (fun i => i = b) w).set (p := b) (.inl rfl) j u
theorem GM.frm {κ α : Type} {lit : κ → Lit} {f : α → Value} {l : List (κ × α)} {T : MTy} {w w' : World} {M : Nat} {F : Nat → Prop} (h : GM T lit f w M l) (hF : Frm F w w') (hn : ¬ F M) : GM T lit f w' M l := h.same (hF.block M h.lt hn)
/-- what Copy leaves -/
def CopyD (w : World) (σ : Sto) (e : Ending) (w' : World) : Prop := ∃ c Mo' Mu' f, e = .returned (.pointer (some ⟨c, 0, none⟩)) ∧ StAt w' c Mo' Mu' (reB f σ) ∧ (∀ b, StF c Mo' Mu' (reB f σ) b → w.heap.size ≤ b) ∧ Below w.heap.size w w'
set_option maxRecDepth 100000 in
set_option maxHeartbeats 16000000 in
theorem copy_any {w : World} {s Mo Mu : Nat} {σ : Sto} (h : StAt w s Mo Mu σ) (hw : ∀ p ∈ σ.ups, (Lit.int .i64 p.1).wf = true) (hl : σ.ups.length ≤ 1000000) :
    Calls Try.prog 14 #[.pointer (some ⟨s, 0, none⟩)] w (CopyD w σ) := by
  have HH := Lib.hid h
  have c0 := cell_blk2 h.blk (i := 0) (u := .map (some Mo)) rfl
  have c1 := cell_blk2 h.blk (i := 1) (u := .map (some Mu)) rfl
  have c2 := cell_blk2 h.blk (i := 2) (u := .int .i64 σ.ver) rfl
  have c3 := cell_blk2 h.blk (i := 3) (u := .int .i64 σ.id) rfl
  have c4 := cell_blk2 h.blk (i := 4) (u := .int .i64 σ.size) rfl
  have c5 := cell_blk2 h.blk (i := 5) (u := .int .i64 σ.now) rfl
  obtain ⟨c, hce⟩ : ∃ c, c = w.heap.size := ⟨_, rfl⟩
  obtain ⟨W1, hW1⟩ : ∃ W1, W1 = w.alloc (.cells (stC Mo Mu σ) 61) := ⟨_, rfl⟩
  have hb1 : Below w.heap.size w W1 := by rw [hW1]; exact (Below.refl _ _).alloc (Nat.le_refl _) _
  have hk1 : W1.heap[c]? = some (.cells (stC Mo Mu σ) 61 (0, 0)) := by rw [hW1, hce]; exact heap_new w _
  have hz1 : W1.heap.size = c + 1 := by rw [hW1, hce]; simp
  have hs1 := h.below hb1
  have d0 := cell_blk2 hs1.blk (i := 0) (u := .map (some Mo)) rfl
  have HCL := Lib.hid (cloneO_any hs1.obj)
  have HW1 := Lib.hid hW1
  have HB1 := Lib.hid hb1
  have HK1 := Lib.hid hk1
  have HS1 := Lib.hid hs1
  have HZ1 := Lib.hid hz1
  have HCE := Lib.hid hce
  have hlts := h.lts
  clear h hW1 hb1 hk1 hs1 hz1 hce
  go_enter Try.func14, Try.ntmps14
  go_upto_region 4 with fail
  have hW1 := HW1.out
  unfold stC at hW1
  rw [← hW1, ← HCE.out]
  clear hW1 c0 c1 c2 c3 c4 c5 HW1
  go_wp2_with fail
  refine HCL.out.mono ?_
  rintro e W2 ⟨rfl, hg2, hb2, hz2⟩
  have hk2 := (hb2.block _ (Array.getElem?_eq_some_iff.1 HK1.out).1).trans HK1.out
  have hs2 := HS1.out.below hb2
  have k0 := cell_blk2 hk2 (i := 0) (u := .map (some Mo)) rfl
  have f0 := fro_blk2 hk2 0
  have HG2 := Lib.hid hg2
  have HB2 := Lib.hid (HB1.out.trans (hb2.mono HB1.out.size))
  have HK2 := Lib.hid hk2
  have HS2 := Lib.hid hs2
  have HZ2 := Lib.hid hz2
  clear hg2 hb2 hk2 hs2 hz2 d0 HCL HB1 HK1 HS1
  go_upto_region 5 with fail
  obtain ⟨Mo', hMo⟩ : ∃ m, m = W1.heap.size := ⟨_, rfl⟩
  rw [← hMo]
  obtain ⟨W3, hW3⟩ : ∃ W3, W3 = W2.setCell ⟨c, 0, none⟩ (.map (some Mo')) := ⟨_, rfl⟩
  have hF3 : Frm (fun i => i = c) W2 W3 := by rw [hW3]; exact set_frm _ _ _ _
  have hk3 : W3.heap[c]? = some (.cells (stC Mo' Mu σ) 61 (0, 0)) := by rw [hW3]; exact (store_blk HK2.out 0 _).trans rfl
  have hg3 : GM TO slit objC W3 Mo' σ.objs := by rw [hMo]; exact HG2.out.frm hF3 (by have := HZ1.out; omega)
  have hz3 : W3.heap.size = c + 2 := by rw [hW3]; have := HZ2.out; have := HZ1.out; simp [World.setCell]; omega
  have hcw := HCE.out
  have hbe3 : Below w.heap.size w W3 := HB2.out.trans (hF3.toBelow HB2.out.size (fun i e => by omega))
  have hMo' : Mo' = c + 1 := by rw [hMo, HZ1.out]
  have k1 := cell_blk2 hk3 (i := 1) (u := .map (some Mu)) rfl
  have f1 := fro_blk2 hk3 1
  have hmk := @run_makeMap Try.prog
  have hcl : c < W3.heap.size := by omega
  have HW3 := Lib.hid hW3
  have HF3 := Lib.hid hF3
  have HK3 := Lib.hid hk3
  have HG3 := Lib.hid hg3
  have HZ3 := Lib.hid hz3
  have HB3 := Lib.hid hbe3
  have HMO := Lib.hid hMo'
  clear hMo hW3 hF3 hk3 hg3 hz3 hbe3 hMo' k0 f0 hcw HG2 HK2 HS2 HB2
  rw [← HW3.out]
  go_upto_region 6 with fail
  obtain ⟨Mu', hMu⟩ : ∃ m, m = W3.heap.size := ⟨_, rfl⟩
  rw [← hMu]
  obtain ⟨X, hX⟩ : ∃ X, X = W3.setCell ⟨c, 1, none⟩ (.map (some Mu')) := ⟨_, rfl⟩
  have hFX : Frm (fun i => i = c) W3 X := by rw [hX]; exact set_frm _ _ _ _
  have hzX : X.heap.size = c + 2 := by rw [hX]; have := HZ3.out; simp [World.setCell]; omega
  have hMu' : Mu' = c + 2 := by rw [hMu, HZ3.out]
  obtain ⟨W5, hW5⟩ : ∃ W5, W5 = X.alloc (.map #[] 0) := ⟨_, rfl⟩
  have hb5 : Below X.heap.size X W5 := by rw [hW5]; exact (Below.refl _ _).alloc (Nat.le_refl _) _
  have hcX : c < X.heap.size := by omega
  have hk5 : W5.heap[c]? = some (.cells (stC Mo' Mu' σ) 61 (0, 0)) := (hb5.block c hcX).trans (by rw [hX]; exact (store_blk HK3.out 1 _).trans rfl)
  have hg5 : GM TO slit objC W5 Mo' σ.objs := (HG3.out.frm hFX (by have := HMO.out; omega)).below hb5
  have hm5 : GM TU ilit uplC W5 Mu' [] := by
    have := GM.made TU ilit uplC X
    rw [← hW5, hzX, ← hMu'] at this
    exact this
  have hz5 : W5.heap.size = c + 3 := by rw [hW5]; simp [hzX]
  have hcw := HCE.out
  have hbX : Below w.heap.size w X := HB3.out.trans (hFX.toBelow HB3.out.size (fun i e => by omega))
  have hbe5 := hbX.trans (hb5.mono hbX.size)
  have hs5 := HH.out.below hbe5
  have e1 := cell_blk2 hs5.blk (i := 1) (u := .map (some Mu)) rfl
  have HU5 := Lib.hid hs5.upl
  have HK5 := Lib.hid hk5
  have HG5 := Lib.hid hg5
  have HM5 := Lib.hid hm5
  have HZ5 := Lib.hid hz5
  have HB5 := Lib.hid hbe5
  have HMU := Lib.hid hMu'
  have hMuc : Mu < c := by have := HH.out.upl.lt; omega
  rw [← hX, ← hW5]
  have HRI := Lib.hid HH.out.upl.rise
  have HAP := Lib.hid HH.out.upl.apart
  have HKY := Lib.hid HH.out.upl.key
  have HKV := Lib.hid (show ∀ p ∈ σ.ups, keyOf Try.prog TU.k (.int .i64 p.1) = some (ilit p.1) from fun p hp => keyI (hw p hp))
  have HW := Lib.hid hw
  clear hMu hX hFX hzX hMu' hW5 hb5 hcX hk5 hg5 hm5 hz5 hbX hbe5 hs5 hmk k1 f1 hcl HK3 HG3 HB3 HF3 HW3 hcw hw HZ3 HZ2 HZ1
  go_wp2_with (first
    | (at_range; refine wpList_range_gm (T := TU) (M := Mu) rfl _ rfl rfl HU5.out ?_; intro W6 hrg hgr hsz)
    | go_in)
  go_frame
  obtain ⟨r, hr⟩ : ∃ r, r = W5.heap.size := ⟨_, rfl⟩
  rw [← hr] at hrg hsz
  rw [← hr]
  have hr3 : r = c + 3 := by rw [hr, HZ5.out]
  have hF6 : Frm (fun _ => False) W5 W6 := ⟨hgr.os, hgr.tape, hgr.output, hgr.size, fun k hk _ => hgr.block k hk (by simp)⟩
  have HR6 := Lib.hid hrg
  have HK6 : Hid (W6.heap[c]? = some (.cells (stC Mo' Mu' σ) 61 (0, 0))) := Lib.hid (hF6.at HK5.out (fun h => h))
  have HG6 := Lib.hid (HG5.out.frm hF6 (fun h => h))
  have HM6 := Lib.hid (HM5.out.frm hF6 (fun h => h))
  have HB6 := Lib.hid (HB5.out.trans (hF6.toBelow HB5.out.size (fun i h => h.elim)))
  have hz6 : c + 4 ≤ W6.heap.size := by omega
  have HL0 := Lib.hid (show ∀ p ∈ σ.ups, Maps.has (.map (encK ilit uplC σ.ups)) (ilit p.1) = true from fun p hp => List.any_eq_true.2 ⟨(ilit p.1, .held (uplC p.2)), List.mem_map.2 ⟨p, hp, rfl⟩, WideAt.sameKey_self (HKY.out p hp)⟩)
  have HR3 := Lib.hid hr3
  clear hrg hgr hsz hr hr3 hF6 HK5 HG5 HM5 HB5 HU5 HZ5 e1
  go_loopw [4] (fun s4 wr => ∃ (left : Lit → Bool) (cnt : Nat) (f : Int → Nat), Hid (GR TU ilit uplC wr Mu r σ.ups left cnt) ∧ Hid (wr.heap[c]? = some (.cells (stC Mo' Mu' σ) 61 (0, 0))) ∧ Hid (GM TO slit objC wr Mo' σ.objs) ∧ Hid (GM TU ilit uplC wr Mu' (upsF left f σ.ups)) ∧ Hid (∀ p ∈ σ.ups, left (ilit p.1) = false → GM TP ilit prtC wr (f p.1) p.2.parts ∧ c + 4 ≤ f p.1) ∧ Hid (∀ p ∈ σ.ups, ∀ q ∈ σ.ups, left (ilit p.1) = false → left (ilit q.1) = false → f p.1 = f q.1 → p.1 = q.1) ∧ Hid (Below w.heap.size w wr) ∧ c + 4 ≤ wr.heap.size) (fun _ wr => wr.rangeLeft Mu r)
  case atStart => exact ⟨_, _, fun _ => 0, HR6, HK6, HG6, by rw [upsF_start HL0.out]; exact HM6, Lib.hid (fun p hp h => by rw [HL0.out p hp] at h; cases h), Lib.hid (fun p hp q hq h => by rw [HL0.out p hp] at h; cases h), HB6, hz6⟩
  case round =>
    clear HR6 HK6 HG6 HM6 HB6 hz6 HL0
    obtain ⟨left, cnt, f, HR, HK, HG, HM, HP, HQ, HB, hz⟩ := hrel
    rename World => wr
    go_wp2_with (first
      | (at_next; refine wpList_next_gm (T := TU) rfl _ rfl (fun k => .int .i64 k) HKV.out rfl HR.out ?_ ?_)
      | go_in)
    · intro hl0
      have HE := Lib.hid (upsF_end (l := σ.ups) (f := f) hl0)
      have HL := Lib.hid hl0
      clear hl0
      go_wp2_with fail
      first | go_ret2 | go_ret
      have hMO := HMO.out
      have hMU := HMU.out
      have hcw := HCE.out
      have hM := HM.out
      rw [HE.out] at hM
      refine ⟨c, Mo', Mu', f, rfl, ⟨HK.out, HG.out, hM, fun p hp => ?_, by omega, fun p hp => ?_, fun p hp q hq e => ?_⟩, ?_, HB.out⟩
      · obtain ⟨q, hq, rfl⟩ := List.mem_map.1 hp
        exact (HP.out q hq (HL.out _)).1
      · obtain ⟨q, hq, rfl⟩ := List.mem_map.1 hp
        have := (HP.out q hq (HL.out _)).2
        simp only
        omega
      · obtain ⟨p', hp', rfl⟩ := List.mem_map.1 hp
        obtain ⟨q', hq', rfl⟩ := List.mem_map.1 hq
        exact HQ.out p' hp' q' hq' (HL.out _) (HL.out _) e
      · rintro b (g | g | g | ⟨p, hp, g⟩)
        · omega
        · omega
        · omega
        · obtain ⟨q, hq, rfl⟩ := List.mem_map.1 hp
          have := (HP.out q hq (HL.out _)).2
          simp only at g
          omega
    · intro k u W7 cnt3 hq hlk hrg3 hlt hg3 hs3 hen
      have hF7 : Frm (fun i => i = r) wr W7 := ⟨hg3.os, hg3.tape, hg3.output, hg3.size, fun i hi hn => hg3.block i hi (fun e => hn (by simpa using e))⟩
      have hR3 := HR3.out
      have hMO := HMO.out
      have hMU := HMU.out
      have hcw := HCE.out
      have hen2 : (Instr.entry (.pointer (some ⟨r, 0, none⟩))).run Try.prog W7 = .ok (.tuple #[.int .i64 k, .agg #[.string u.key, .int .i64 u.born, .map (some u.pb)]]) W7 := hen
      have hb7 : Below w.heap.size w W7 := HB.out.trans (hF7.toBelow HB.out.size (fun i e => by omega))
      obtain ⟨bu, hbu⟩ : ∃ bu, bu = W7.heap.size := ⟨_, rfl⟩
      obtain ⟨W8, hW8⟩ : ∃ W8, W8 = W7.alloc (.cells #[.string u.key, .int .i64 u.born, .map (some u.pb)] 68) := ⟨_, rfl⟩
      have hb8' : Below W7.heap.size W7 W8 := by rw [hW8]; exact (Below.refl _ _).alloc (Nat.le_refl _) _
      have hz8 : W8.heap.size = bu + 1 := by rw [hW8, hbu]; simp
      have hk8 : W8.heap[bu]? = some (.cells #[.string u.key, .int .i64 u.born, .map (some u.pb)] 68 (0, 0)) := by rw [hW8, hbu]; exact heap_new W7 _
      have hb8 := hb7.trans (hb8'.mono hb7.size)
      have hpu := (HH.out.below hb8).prt (k, u) hq
      have HCL := Lib.hid (cloneP_any hpu)
      have b2 := cell_blk2 hk8 (i := 2) (u := .map (some u.pb)) rfl
      have hbc : c + 4 ≤ bu := by rw [hbu]; omega
      have HWF := Lib.hid (HW.out (k, u) hq)
      have HQM := Lib.hid hq
      have HLK := Lib.hid hlk
      have HF7 := Lib.hid hF7
      have HRG := Lib.hid hrg3
      have HLT := Lib.hid hlt
      have HB8' := Lib.hid hb8'
      have HB8 := Lib.hid hb8
      have HK8 := Lib.hid hk8
      have HZ8 := Lib.hid hz8
      have HW8 := Lib.hid hW8
      have HBU := Lib.hid hbu
      have HS3 := Lib.hid hs3
      clear hF7 hq hlk hrg3 hlt hg3 hs3 hen hb7 hW8 hb8' hz8 hk8 hb8 hpu hbu hR3 hMO hMU hcw
      go_upto_region 9 with fail
      rw [← HW8.out, ← HBU.out]
      clear hen2
      go_wp2_with fail
      refine HCL.out.mono ?_
      rintro e W9 ⟨rfl, hg9, hb9, hz9⟩
      obtain ⟨pn, hpn⟩ : ∃ pn, pn = W8.heap.size := ⟨_, rfl⟩
      rw [← hpn] at hg9 hz9
      rw [← hpn]
      have hk9 := (hb9.block _ (Array.getElem?_eq_some_iff.1 HK8.out).1).trans HK8.out
      have b2' := cell_blk2 hk9 (i := 2) (u := .map (some u.pb)) rfl
      have f2 := fro_blk2 hk9 2
      have HPN := Lib.hid (show pn = bu + 1 from by rw [hpn, HZ8.out])
      have HG9 := Lib.hid hg9
      have HB9 := Lib.hid hb9
      have HK9 := Lib.hid hk9
      have HZ9 := Lib.hid hz9
      clear b2 hpn hg9 hb9 hk9 hz9 HCL
      go_upto_region 10 with fail
      obtain ⟨W10, hW10⟩ : ∃ W10, W10 = W9.setCell ⟨bu, 2, none⟩ (.map (some pn)) := ⟨_, rfl⟩
      have hF10 : Frm (fun i => i = bu) W9 W10 := by rw [hW10]; exact set_frm _ _ _ _
      have hk10 : W10.heap[bu]? = some (.cells #[.string u.key, .int .i64 u.born, .map (some pn)] 68 (0, 0)) := by rw [hW10]; exact (store_blk HK9.out 2 _).trans rfl
      have g0 := cell_blk2 hk10 (i := 0) (u := .string u.key) rfl
      have g1 := cell_blk2 hk10 (i := 1) (u := .int .i64 u.born) rfl
      have g2 := cell_blk2 hk10 (i := 2) (u := .map (some pn)) rfl
      have hR3 := HR3.out
      have hMO := HMO.out
      have hMU := HMU.out
      have hcw := HCE.out
      have hPN := HPN.out
      have hZ8 := HZ8.out
      have hZ9 := HZ9.out
      have hz7 : bu = W7.heap.size := HBU.out
      have hb79 := HB8'.out.trans (HB9.out.mono HB8'.out.size)
      -- what stands at W10 of what stood at wr
      have hkc7 := HF7.out.at HK.out (by omega : ¬ c = r)
      have hkc9 := (hb79.block c (Array.getElem?_eq_some_iff.1 hkc7).1).trans hkc7
      have hkc10 := hF10.at hkc9 (by omega : ¬ c = bu)
      have hgo10 := ((HG.out.frm HF7.out (by omega)).below hb79).frm hF10 (by omega)
      have hgm10 := ((HM.out.frm HF7.out (by omega)).below hb79).frm hF10 (by omega)
      have hgr9 := HRG.out.below hb79
      have hgr10 := hgr9.kept (row := some bu) ⟨hF10.os, hF10.tape, hF10.output, hF10.size, fun i hi hn => hF10.block i hi (fun e => hn (by rw [e]))⟩ (by simp; omega) (by simp; omega)
      have hgp10 := HG9.out.frm hF10 (by omega : ¬ pn = bu)
      have hpp10 : ∀ p ∈ σ.ups, left (ilit p.1) = false → GM TP ilit prtC W10 (f p.1) p.2.parts ∧ c + 4 ≤ f p.1 ∧ f p.1 < bu := fun p hp hl => by
        obtain ⟨q1, q2⟩ := HP.out p hp hl
        have hlt := q1.lt
        have hz7' := HF7.out.size
        have hlt2 : f p.1 < bu := by have := HS3.out; omega
        exact ⟨((q1.frm HF7.out (by omega)).below hb79).frm hF10 (by omega), q2, hlt2⟩
      have hz10 : W10.heap.size = W9.heap.size := by rw [hW10]; simp [World.setCell]
      have hlen : (upsF left f σ.ups).length ≤ 1000000 := by
        unfold upsF
        rw [List.length_map]
        exact Nat.le_trans (List.length_filter_le _ _) hl
      obtain ⟨W11, hrun, hm11, htn⟩ := storeU hgm10 k HWF.out { u with pb := pn } hlen
      rw [upsF_step HRI.out HQM.out HLK.out] at hm11
      have hrun2 : (Instr.mapUpdate 59 (.map (some Mu')) (.int .i64 k) (.agg #[.string u.key, .int .i64 u.born, .map (some pn)])).run Try.prog W10 = .ok () W11 := hrun
      have hF11 : Frm (fun i => i = Mu') W10 W11 := (Frm.refl (fun i => i = Mu') W10).turned (.inl rfl) htn
      have HR11 := Lib.hid (hgr10.kept (row := some Mu') ⟨hF11.os, hF11.tape, hF11.output, hF11.size, fun i hi hn => hF11.block i hi (fun e => hn (by rw [e]))⟩ (by simp; omega) (by simp; omega))
      have HK11 := Lib.hid (hF11.at hkc10 (by omega : ¬ c = Mu'))
      have HG11 := Lib.hid (hgo10.frm hF11 (by omega))
      have HM11 := Lib.hid hm11
      have hgp11 := hgp10.frm hF11 (by omega)
      have e1 := cell_blk2 hkc10 (i := 1) (u := .map (some Mu')) rfl
      have HP11 : Hid (∀ p ∈ σ.ups, (left (ilit p.1) && !(ilit p.1).sameKey (ilit k)) = false → GM TP ilit prtC W11 (if p.1 = k then pn else f p.1) p.2.parts ∧ c + 4 ≤ (if p.1 = k then pn else f p.1)) := Lib.hid (fun p hp hl => by
        by_cases hk : p.1 = k
        · have hpe : p = (k, u) := by
            have h1 := get_of_mem litI HAP.out hp
            have h2 := get_of_mem litI HAP.out HQM.out
            rw [hk] at h1
            rw [h1] at h2
            cases h2
            rw [← hk]
          rw [if_pos hk, hpe]
          exact ⟨hgp11, by omega⟩
        · have hl2 : left (ilit p.1) = false := by
            cases hll : left (ilit p.1) with
            | false => rfl
            | true =>
              rw [hll] at hl
              have : (ilit p.1).sameKey (ilit k) = true := by simpa using hl
              exact absurd ((litI.iff _ _).1 this) hk
          rw [if_neg hk]
          obtain ⟨q1, q2, q3⟩ := hpp10 p hp hl2
          exact ⟨q1.frm hF11 (by omega), q2⟩)
      have HQ11 : Hid (∀ p ∈ σ.ups, ∀ q ∈ σ.ups, (left (ilit p.1) && !(ilit p.1).sameKey (ilit k)) = false → (left (ilit q.1) && !(ilit q.1).sameKey (ilit k)) = false → (if p.1 = k then pn else f p.1) = (if q.1 = k then pn else f q.1) → p.1 = q.1) := Lib.hid (fun p hp q hq hl hm e => by
        have hl2 : ∀ x : Int, x ≠ k → (left (ilit x) && !(ilit x).sameKey (ilit k)) = false → left (ilit x) = false := fun x hx hh => by
          cases hll : left (ilit x) with
          | false => rfl
          | true =>
            rw [hll] at hh
            have : (ilit x).sameKey (ilit k) = true := by simpa using hh
            exact absurd ((litI.iff _ _).1 this) hx
        by_cases hk : p.1 = k
        · by_cases hk2 : q.1 = k
          · rw [hk, hk2]
          · rw [if_pos hk, if_neg hk2] at e
            have := (hpp10 q hq (hl2 _ hk2 hm)).2.2
            omega
        · by_cases hk2 : q.1 = k
          · rw [if_neg hk, if_pos hk2] at e
            have := (hpp10 p hp (hl2 _ hk hl)).2.2
            omega
          · rw [if_neg hk, if_neg hk2] at e
            exact HQ.out p hp q hq (hl2 _ hk hl) (hl2 _ hk2 hm) e)
      have hb7 : Below w.heap.size w W7 := HB.out.trans (HF7.out.toBelow HB.out.size (fun i e => by omega))
      have hb9 := hb7.trans (hb79.mono hb7.size)
      have hb10 := hb9.trans (hF10.toBelow hb9.size (fun i e => by omega))
      have HB11 := Lib.hid (hb10.trans (hF11.toBelow hb10.size (fun i e => by omega)))
      have hz11 : c + 4 ≤ W11.heap.size := by have := hF11.size; omega
      have HW10 := Lib.hid hW10
      clear hrun htn hF11 hF10 hk10 hkc7 hkc9 hkc10 hgo10 hgm10 hgr9 hgr10 hgp10 hpp10 hz10 hlen hm11 hgp11 hb7 hb9 hb10 hR3 hMO hMU hcw hPN hZ8 hZ9 hz7 hb79 hW10 b2' f2
      rw [← HW10.out]
      go_wp2_with fail
      go_roundw
      case rel => exact ⟨_, cnt3, _, HR11, HK11, HG11, HM11, HP11, HQ11, HB11, hz11⟩
      case measure =>
        rw [HR11.out.left_eq, HR.out.left_eq]
        exact HLT.out
set_option maxRecDepth 100000 in
set_option maxHeartbeats 4000000 in
/-- a copy of a store that nothing was done to -/
theorem copy_new {w : World} {s : Nat} {now : Int} (h : w.heap[s]? = some (.cells (freC none now) 61 (0, 0))) :
    Calls Try.prog 14 #[.pointer (some ⟨s, 0, none⟩)] w fun e w' => e = .returned (.pointer (some ⟨w.heap.size, 0, none⟩)) ∧ w'.heap[w.heap.size]? = some (.cells (freC (some (w.heap.size + 1)) now) 61 (0, 0)) ∧ GM TU ilit uplC w' (w.heap.size + 1) [] ∧ Below w.heap.size w w' := by
  have c0 := cell_blk2 h (i := 0) (u := .map none) rfl
  have c1 := cell_blk2 h (i := 1) (u := .map none) rfl
  have c2 := cell_blk2 h (i := 2) (u := .int .i64 0) rfl
  have c3 := cell_blk2 h (i := 3) (u := .int .i64 0) rfl
  have c4 := cell_blk2 h (i := 4) (u := .int .i64 0) rfl
  have c5 := cell_blk2 h (i := 5) (u := .int .i64 now) rfl
  obtain ⟨c, hce⟩ : ∃ c, c = w.heap.size := ⟨_, rfl⟩
  obtain ⟨W1, hW1⟩ : ∃ W1, W1 = w.alloc (.cells (freC none now) 61) := ⟨_, rfl⟩
  have hb1 : Below w.heap.size w W1 := by rw [hW1]; exact (Below.refl _ _).alloc (Nat.le_refl _) _
  have hk1 : W1.heap[c]? = some (.cells (freC none now) 61 (0, 0)) := by rw [hW1, hce]; exact heap_new w _
  have hz1 : W1.heap.size = c + 1 := by rw [hW1, hce]; simp
  have hlts := (Array.getElem?_eq_some_iff.1 h).1
  have hsc : s ≠ c := by omega
  have hks := (hb1.block s hlts).trans h
  have HCL := Lib.hid (cloneO_nil W1)
  have HW1 := Lib.hid hW1
  have HB1 := Lib.hid hb1
  have HZ1 := Lib.hid hz1
  have HCE := Lib.hid hce
  have HK1 := Lib.hid hk1
  have HKS := Lib.hid hks
  have d0 := cell_blk2 hks (i := 0) (u := .map none) rfl
  have k0 := cell_blk2 hk1 (i := 0) (u := .map none) rfl
  have f0 := fro_blk2 hk1 0
  clear h hW1 hb1 hk1 hz1 hks hce
  go_enter Try.func14, Try.ntmps14
  go_upto_region 4 with fail
  have hW1 := HW1.out
  unfold freC at hW1
  rw [← hW1, ← HCE.out]
  clear hW1 c0 c1 c2 c3 c4 c5
  go_wp2_with fail
  refine HCL.out.mono ?_
  rintro e W2 ⟨rfl, rfl⟩
  clear d0
  go_upto_region 5 with fail
  obtain ⟨W3, hW3⟩ : ∃ W3, W3 = W2.setCell ⟨c, 0, none⟩ (.map none) := ⟨_, rfl⟩
  have hF3 : Frm (fun i => i = c) W2 W3 := by rw [hW3]; exact set_frm _ _ _ _
  have hk3 : W3.heap[c]? = some (.cells (freC none now) 61 (0, 0)) := by rw [hW3]; exact (store_blk HK1.out 0 _).trans rfl
  have hz3 : W3.heap.size = c + 1 := by rw [hW3]; have := HZ1.out; simp [World.setCell]; omega
  have hks3 := hF3.at HKS.out (by omega : ¬ s = c)
  have k1 := cell_blk2 hk3 (i := 1) (u := .map none) rfl
  have f1 := fro_blk2 hk3 1
  have hmk := @run_makeMap Try.prog
  have hcl : c < W3.heap.size := by omega
  have hcw := HCE.out
  have HB3 := Lib.hid (HB1.out.trans (hF3.toBelow HB1.out.size (fun i e => by omega)))
  have HW3 := Lib.hid hW3
  have HK3 := Lib.hid hk3
  have HZ3 := Lib.hid hz3
  have HKS3 := Lib.hid hks3
  clear hW3 hF3 hk3 hz3 hks3 hcw k0 f0
  rw [← HW3.out]
  go_upto_region 6 with fail
  obtain ⟨Mu', hMu⟩ : ∃ m, m = W3.heap.size := ⟨_, rfl⟩
  rw [← hMu]
  obtain ⟨X, hX⟩ : ∃ X, X = W3.setCell ⟨c, 1, none⟩ (.map (some Mu')) := ⟨_, rfl⟩
  have hFX : Frm (fun i => i = c) W3 X := by rw [hX]; exact set_frm _ _ _ _
  have hzX : X.heap.size = c + 1 := by rw [hX]; have := HZ3.out; simp [World.setCell]; omega
  have hMu' : Mu' = c + 1 := by rw [hMu, HZ3.out]
  obtain ⟨W5, hW5⟩ : ∃ W5, W5 = X.alloc (.map #[] 0) := ⟨_, rfl⟩
  have hb5 : Below X.heap.size X W5 := by rw [hW5]; exact (Below.refl _ _).alloc (Nat.le_refl _) _
  have hcX : c < X.heap.size := by omega
  have hk5 : W5.heap[c]? = some (.cells (freC (some Mu') now) 61 (0, 0)) := (hb5.block c hcX).trans (by rw [hX]; exact (store_blk HK3.out 1 _).trans rfl)
  have hm5 : GM TU ilit uplC W5 Mu' [] := by
    have := GM.made TU ilit uplC X
    rw [← hW5, hzX, ← hMu'] at this
    exact this
  have hcw := HCE.out
  have hbX : Below w.heap.size w X := HB3.out.trans (hFX.toBelow HB3.out.size (fun i e => by omega))
  have hbe5 := hbX.trans (hb5.mono hbX.size)
  have hkx := hFX.at HKS3.out (by omega : ¬ s = c)
  have hk5s := (hb5.block s (Array.getElem?_eq_some_iff.1 hkx).1).trans hkx
  have e1 := cell_blk2 hk5s (i := 1) (u := .map none) rfl
  have hrn := run_range_nilMap (P := Try.prog) W5 59 _ _ Try.underlying59
  have hnx := fun ty => run_next_nilMap (P := Try.prog) W5 ty 0 0 #[]
  rw [← hX, ← hW5]
  have hb6 : Below W5.heap.size W5 (W5.alloc (.mapIter none 0 #[] 0)) := (Below.refl _ _).alloc (Nat.le_refl _) _
  have HK6 := Lib.hid ((hb6.block c (Array.getElem?_eq_some_iff.1 hk5).1).trans hk5)
  have HM6 := Lib.hid (hm5.below hb6)
  have HB6 := Lib.hid (hbe5.trans (hb6.mono hbe5.size))
  have HMU := Lib.hid hMu'
  clear hMu hX hFX hzX hMu' hW5 hb5 hcX hk5 hm5 hbX hbe5 hkx hk5s hmk k1 f1 hcl hcw hb6
  go_wp2_with fail
  go_loopw [4] (fun s4 wr => wr = W5.alloc (.mapIter none 0 #[] 0)) (fun _ wr => 0)
  case atStart => rfl
  case round =>
    obtain rfl := hrel
    go_wp2_with fail
    first | go_ret2 | go_ret
    refine ⟨by rw [← HCE.out]; rfl, ?_, ?_, HB6.out⟩
    · rw [← HCE.out, ← HMU.out]; exact HK6.out
    · rw [← HCE.out, ← HMU.out]; exact HM6.out
end Go.Proofs.Ytjafagfhkpaciaa
end SecStoCps1
section SecStoCps2
/- A law's own store and its copy, beside each other. -/
namespace Go.Proofs.Ytjafagfhkpaciaa
open Go.RowKit
set_option linter.unusedVariables false

/-- a store of the law's own, that nothing was done to or whose maps are made -/
def StN (base : Nat) (W : World) (s : Nat) (σ : Sto) : Prop := base ≤ s ∧ ((∃ Mo Mu, StAt W s Mo Mu σ ∧ ∀ b, StF s Mo Mu σ b → base ≤ b) ∨ (W.heap[s]? = some (.cells (freC none σ.now) 61 (0, 0)) ∧ σ = sto0 σ.now))
theorem StN.toIn {base : Nat} {W : World} {s : Nat} {σ : Sto} (h : StN base W s σ) : StIn base W s σ := by
  obtain ⟨h0, h | ⟨h1, h2⟩⟩ := h
  · exact ⟨h0, .inl h⟩
  · exact ⟨h0, .inr ⟨⟨none, h1, .inl rfl⟩, h2⟩⟩
theorem StN.below {base : Nat} {W W' : World} {s : Nat} {σ : Sto} (h : StN base W s σ) (hb : Below W.heap.size W W') : StN base W' s σ := by
  obtain ⟨h0, ⟨Mo, Mu, h1, h2⟩ | ⟨h1, h2⟩⟩ := h
  · exact ⟨h0, .inl ⟨Mo, Mu, h1.below hb, h2⟩⟩
  · exact ⟨h0, .inr ⟨(hb.block s (Array.getElem?_eq_some_iff.1 h1).1).trans h1, h2⟩⟩
section
variable {base : Nat} {W : World} {s : Nat} {σ : Sto} {ki vr at_ nn id : Int} {ky : ByteArray} {a : Option Addr} {n c : Nat} {xs : List Nat}
theorem step_anyN (h : StN base W s σ) (hb : base ≤ W.heap.size) (hi : Inv σ) (hv : σ.ver ≤ 1000000000) (hidb : σ.id ≤ 1000000000) (hx : BytesAt W a n c xs) (hk : ky.size ≤ 1000000000000000) (hid : (Lit.int .i64 id).wf = true) :
    Calls Try.prog 12 #[.pointer (some ⟨s, 0, none⟩), .agg #[.int .i64 ki, .string ky, .slice a n c, .int .i64 vr, .int .i64 at_, .int .i64 nn, .int .i64 id]] W fun e W' => ∃ x v b i ra rn rc la ln lc m σ', e = .returned (repV x v b i (.slice ra rn rc) (.slice la ln lc) m) ∧ DoRes σ σ' ki x v ∧ StN base W' s σ' ∧ Below base W W' ∧ KeepC W W' := by
  obtain ⟨Mo, Mu, hs, hF⟩ := h.toIn.sat hb
  refine (doAny hs hi hv hidb hx hk hid).mono ?_
  rintro e W' ⟨x, ra, rn, rc, v, b, i, la, ln, lc, m, σ', rfl, hr, hst, hf, hsub⟩
  exact ⟨x, v, b, i, ra, rn, rc, la, ln, lc, m, σ', rfl, hr, ⟨h.1, .inl ⟨Mo, Mu, hst, fun b hb' => (hsub b hb').elim (hF b) (fun g => Nat.le_trans hb g)⟩⟩, hf.toBelow hb hF, keepC_of hs hf⟩
end
/-- what Copy leaves of two -/
def CpTwo (base : Nat) (W : World) (s : Nat) (σ : Sto) (e : Ending) (W' : World) : Prop := ∃ c τ, e = .returned (.pointer (some ⟨c, 0, none⟩)) ∧ Two base W' s σ c τ ∧ Inv τ ∧ τ.ver = σ.ver ∧ τ.id = σ.id ∧ τ.now = σ.now ∧ Below W.heap.size W W'
theorem copy_two {base : Nat} {W : World} {s : Nat} {σ : Sto} (h : StN base W s σ) (hb : base ≤ W.heap.size) (hi : Inv σ) (hid : σ.id ≤ 1000000) :
    Calls Try.prog 14 #[.pointer (some ⟨s, 0, none⟩)] W (CpTwo base W s σ) := by
  obtain ⟨h0, ⟨Mo, Mu, h1, h2⟩ | ⟨h1, h2⟩⟩ := h
  · refine (copy_any h1 (fun p hp => wf_small (by have := hi.upl p hp; omega)) (by have := hi.nup; omega)).mono ?_
    rintro e W' ⟨c, Mo', Mu', f, rfl, q1, q2, q3⟩
    refine ⟨c, reB f σ, rfl, ⟨Nat.le_trans hb q3.size, fun b => base ≤ b ∧ b < W.heap.size, fun b => W.heap.size ≤ b ∧ b < W'.heap.size, ⟨⟨h0, h1.lts⟩, .inl ⟨Mo, Mu, h1.below q3, fun b hb' => ⟨h2 b hb', h1.lt hb'⟩⟩⟩, ⟨⟨q2 c (.inl rfl), q1.lts⟩, .inl ⟨Mo', Mu', q1, fun b hb' => ⟨q2 b hb', q1.lt hb'⟩⟩⟩, fun b ha hb' => by omega, fun b ha => ⟨ha.1, Nat.lt_of_lt_of_le ha.2 q3.size⟩, fun b hb' => ⟨Nat.le_trans hb hb'.1, hb'.2⟩⟩, inv_reB f hi, rfl, rfl, rfl, q3⟩
  · refine (copy_new h1).mono ?_
    rintro e W' ⟨rfl, q1, q2, q3⟩
    have hlt := (Array.getElem?_eq_some_iff.1 h1).1
    have hl1 := (Array.getElem?_eq_some_iff.1 q1).1
    have hl2 := q2.lt
    refine ⟨W.heap.size, σ, rfl, ⟨Nat.le_trans hb q3.size, fun b => base ≤ b ∧ b < W.heap.size, fun b => W.heap.size ≤ b ∧ b < W'.heap.size, ⟨⟨h0, hlt⟩, .inr ⟨h2, none, (q3.block s hlt).trans h1, .inl rfl⟩⟩, ⟨⟨Nat.le_refl _, hl1⟩, .inr ⟨h2, _, q1, .inr ⟨_, rfl, ⟨Nat.le_succ _, hl2⟩, q2⟩⟩⟩, fun b ha hb' => by omega, fun b ha => ⟨ha.1, Nat.lt_of_lt_of_le ha.2 q3.size⟩, fun b hb' => ⟨Nat.le_trans hb hb'.1, hb'.2⟩⟩, hi, rfl, rfl, rfl, q3⟩
end Go.Proofs.Ytjafagfhkpaciaa
end SecStoCps2
