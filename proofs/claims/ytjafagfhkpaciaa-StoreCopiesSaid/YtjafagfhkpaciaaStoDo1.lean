/- The store's Do, walked: it hands a call to the method of its kind. Written by genstodo2.py. -/
import Derived.Test.YtjafagfhkpaciaaStoRep
import Derived.WalkSpells
import Derived.Deep.CutBlock
namespace Go.Proofs.Ytjafagfhkpaciaa
open Go.RowKit
set_option linter.unusedVariables false

theorem map_nil (mt : TypeId) (k e : TypeId) (h : Try.prog.underlying mt = some (.map k e)) (p : Option Nat) (w : World) : (binOp .eql mt (.map p) (.map none)).run Try.prog w = .ok (.bool p.isNone) w := by
  have h2 : ∀ d : Nat, (Op.equalIn (d + 1) mt (.map p) (.map none)).run Try.prog w = .ok p.isNone w := fun d => by
    cases p <;> simp [Op.equalIn, run_underlying h]
  simp only [binOp]
  simp [show Op.equal mt (.map p) (.map none) = Op.equalIn (9999 + 1) mt (.map p) (.map none) from rfl, h2 9999]
/-- a store that nothing was done to -/
def sto0 (now : Int) : Sto := ⟨[], [], 0, 0, 0, now⟩
def freC (mu : Option Nat) (now : Int) : Array Value := #[.map none, .map mu, .int .i64 0, .int .i64 0, .int .i64 0, .int .i64 now]
/-- a store that nothing was done to: of no maps, or a copy of such a one (its second map made, and empty) -/
def FreshAt (w : World) (s : Nat) (now : Int) : Prop := ∃ mu, w.heap[s]? = some (.cells (freC mu now) 61 (0, 0)) ∧ (mu = none ∨ ∃ m, mu = some m ∧ GM TU ilit uplC w m [])
theorem FreshAt.new {w : World} {s : Nat} {now : Int} (h : w.heap[s]? = some (.cells #[.map none, .map none, .int .i64 0, .int .i64 0, .int .i64 0, .int .i64 now] 61 (0, 0))) : FreshAt w s now := ⟨none, h, .inl rfl⟩
theorem FreshAt.lt {w : World} {s : Nat} {now : Int} (h : FreshAt w s now) : s < w.heap.size := by
  obtain ⟨mu, h, _⟩ := h
  exact (Array.getElem?_eq_some_iff.1 h).1
theorem FreshAt.same {w w' : World} {s : Nat} {now : Int} (h : FreshAt w s now) (e1 : w'.heap[s]? = w.heap[s]?) (e2 : ∀ (m : Nat) (es : Array MapEntry) (c : Nat), w.heap[m]? = some (Obj.map es c) → w'.heap[m]? = w.heap[m]?) : FreshAt w' s now := by
  obtain ⟨mu, h, hm⟩ := h
  refine ⟨mu, e1.trans h, ?_⟩
  rcases hm with rfl | ⟨m, rfl, hm⟩
  · exact .inl rfl
  · obtain ⟨es, c, hb⟩ := gm_obj hm
    exact .inr ⟨m, rfl, hm.same (e2 m es c hb)⟩
theorem FreshAt.below {w w' : World} {s : Nat} {now : Int} (h : FreshAt w s now) (hb : Below w.heap.size w w') : FreshAt w' s now :=
  h.same (hb.block s h.lt) fun m es c hm => hb.block m (Array.getElem?_eq_some_iff.1 hm).1
theorem FreshAt.cell0 {w : World} {s : Nat} {now : Int} (h : FreshAt w s now) : w.cell? ⟨s, 0, none⟩ = some (.map none) := by
  obtain ⟨mu, h, _⟩ := h
  exact cell_blk2 h rfl
theorem FreshAt.cell4 {w : World} {s : Nat} {now : Int} (h : FreshAt w s now) : w.cell? ⟨s, 4, none⟩ = some (.int .i64 0) := by
  obtain ⟨mu, h, _⟩ := h
  exact cell_blk2 h rfl
theorem FreshAt.cell5 {w : World} {s : Nat} {now : Int} (h : FreshAt w s now) : w.cell? ⟨s, 5, none⟩ = some (.int .i64 now) := by
  obtain ⟨mu, h, _⟩ := h
  exact cell_blk2 h rfl
theorem FreshAt.fro {w : World} {s : Nat} {now : Int} (h : FreshAt w s now) (i : Nat) : w.frozen? ⟨s, i, none⟩ = false := by
  obtain ⟨mu, h, _⟩ := h
  exact fro_blk2 h i
theorem FreshAt.set5 {w : World} {s : Nat} {now : Int} (h : FreshAt w s now) (z : Int) : FreshAt (w.setCell ⟨s, 5, none⟩ (.int .i64 z)) s z := by
  obtain ⟨mu, h, hm⟩ := h
  refine ⟨mu, (heap_setCell_same w s 5 _ _ _ h).trans rfl, ?_⟩
  rcases hm with rfl | ⟨m, rfl, hm⟩
  · exact .inl rfl
  · refine .inr ⟨m, rfl, hm.same (Below.heap_setCell w ⟨s, 5, none⟩ _ m (fun e => ?_))⟩
    obtain ⟨es, c, hb⟩ := gm_obj hm
    simp only at e
    rw [e, h] at hb
    cases hb
theorem FreshAt.notStore {w : World} {s : Nat} {now : Int} (h : FreshAt w s now) {cs : Array Value} {t : TypeId} {fr : Nat × Nat} (hb : w.heap[s]? = some (.cells cs t fr)) : t = 61 := by
  obtain ⟨mu, h, _⟩ := h
  rw [hb] at h
  cases h; rfl
/-- a store: its maps are made, or will be at the first call -/
def SAt (w : World) (s Mo Mu : Nat) (σ : Sto) : Prop := StAt w s Mo Mu σ ∨ (FreshAt w s σ.now ∧ σ = sto0 σ.now ∧ Mo = w.heap.size + 2 ∧ Mu = w.heap.size + 3)
theorem SAt.lts {w : World} {s Mo Mu : Nat} {σ : Sto} (h : SAt w s Mo Mu σ) : s < w.heap.size := by
  rcases h with h | h
  · exact h.lts
  · exact h.1.lt
/-- a reply's form -/
def RepShape (e : Ending) : Prop := ∃ (x : Int) (a : Option Addr) (n c : Nat) (v b i : Int) (la : Option Addr) (ln lc : Nat) (m : Bool), e = .returned (.agg #[.int .i64 x, .slice a n c, .int .i64 v, .int .i64 b, .int .i64 i, .slice la ln lc, .bool m])
theorem rep_shape (x : Int) (a : Option Addr) (n c : Nat) (v b i : Int) (la : Option Addr) (ln lc : Nat) (m : Bool) : RepShape (.returned (rep x (.slice a n c) v b i (.slice la ln lc) m)) := ⟨x, a, n, c, v, b, i, la, ln, lc, m, rfl⟩
theorem rep0_shape (x : Int) : RepShape (.returned (rep0 x)) := ⟨x, none, 0, 0, 0, 0, 0, none, 0, 0, false, rfl⟩
/-- what Do leaves: what the method left, but for the reply's box -/
def DoOut (w : World) (s Mo Mu : Nat) (σ : Sto) (Q : World → Ending → World → Prop) (e : Ending) (w5 : World) : Prop :=
  ∃ W0 w1, StAt W0 s Mo Mu σ ∧ Frm (fun b => b = s) w W0 ∧ w.heap.size + 2 ≤ W0.heap.size ∧ Q W0 e w1 ∧ Frm (StF s Mo Mu σ) W0 w1 ∧ Frm (fun b => b = w.heap.size + 1) w1 w5
/-- what Do is told of a method -/
def DoMeth (w : World) (s Mo Mu : Nat) (σ : Sto) (f : FuncId) (cs : Array Value) (Q : World → Ending → World → Prop) : Prop :=
  ∀ W0, StAt W0 s Mo Mu σ → Frm (fun b => b = s) w W0 → w.heap.size + 2 ≤ W0.heap.size → Calls Try.prog f #[.pointer (some ⟨s, 0, none⟩), .agg cs] W0 fun e w1 => RepShape e ∧ Q W0 e w1 ∧ Frm (StF s Mo Mu σ) W0 w1
/-- the maps made -/
theorem made_maps {w : World} {s : Nat} {mu : Option Nat} {now : Int} (h : w.heap[s]? = some (.cells (freC mu now) 61 (0, 0))) (W : World) (hb : Below w.heap.size w W) :
    StAt ((((W.setCell ⟨s, 0, none⟩ (.map (some W.heap.size))).setCell ⟨s, 1, none⟩ (.map (some (W.heap.size + 1)))).alloc (.map #[] 0)).alloc (.map #[] 0)) s W.heap.size (W.heap.size + 1) (sto0 now) ∧
    Frm (fun b => b = s) w ((((W.setCell ⟨s, 0, none⟩ (.map (some W.heap.size))).setCell ⟨s, 1, none⟩ (.map (some (W.heap.size + 1)))).alloc (.map #[] 0)).alloc (.map #[] 0)) := by
  have hs := (Array.getElem?_eq_some_iff.1 h).1
  have hsW := Nat.lt_of_lt_of_le hs hb.size
  have h3 := heap_setCell_same _ s 0 _ _ (.map (some W.heap.size)) ((hb.block s hs).trans h)
  have h4 := heap_setCell_same _ s 1 _ _ (.map (some (W.heap.size + 1))) h3
  have hF4 := ((Frm.ofBelow (F := fun b => b = s) hb).set (p := s) (.inl rfl) 0 (.map (some W.heap.size))).set (p := s) (.inl rfl) 1 (.map (some (W.heap.size + 1)))
  obtain ⟨X, hX⟩ : ∃ X, X = (W.setCell ⟨s, 0, none⟩ (.map (some W.heap.size))).setCell ⟨s, 1, none⟩ (.map (some (W.heap.size + 1))) := ⟨_, rfl⟩
  have ex : X.heap.size = W.heap.size := by rw [hX]; simp [World.setCell]
  rw [← hX] at h4 hF4 ⊢
  have e1 : (X.alloc (.map #[] 0)).heap.size = W.heap.size + 1 := by rw [World.size_alloc, ex]
  have b2 : Below X.heap.size X ((X.alloc (.map #[] 0)).alloc (.map #[] 0)) := ((Below.refl _ _).alloc (Nat.le_refl _) _).alloc (by rw [e1, ex]; omega) _
  have hm2 := GM.made TU ilit uplC (X.alloc (.map #[] 0))
  rw [e1] at hm2
  have hm1 := (GM.made TO slit objC X).below (w' := (X.alloc (.map #[] 0)).alloc (.map #[] 0)) ((Below.refl _ _).alloc (Nat.le_refl _) _)
  rw [ex] at hm1
  exact ⟨⟨(b2.block s (by rw [ex]; exact hsW)).trans h4, hm1, hm2, (fun p hp => by cases hp), (by omega), (fun p hp => by cases hp), fun p hp => by cases hp⟩, hF4.below b2⟩
theorem do_end {w W0 w1 W5 : World} {s Mo Mu : Nat} {σ : Sto} {Q : World → Ending → World → Prop} {e : Ending} (h1 : StAt W0 s Mo Mu σ) (h2 : Frm (fun b => b = s) w W0) (h3 : w.heap.size + 2 ≤ W0.heap.size) (h4 : Q W0 e w1) (h5 : Frm (StF s Mo Mu σ) W0 w1) (h6 : Frm (fun b => b = w.heap.size + 1) w1 W5) : DoOut w s Mo Mu σ Q e W5 := ⟨W0, w1, h1, h2, h3, h4, h5, h6⟩
set_option maxRecDepth 100000 in
set_option maxHeartbeats 4000000 in
theorem do_1 {w : World} {s Mo Mu : Nat} {σ : Sto} (h : SAt w s Mo Mu σ) {vr at_ nn id : Int} {ky : ByteArray} {a : Option Addr} {n c : Nat} {Q : World → Ending → World → Prop} (hm : DoMeth w s Mo Mu σ 23 #[.int .i64 1, .string ky, .slice a n c, .int .i64 vr, .int .i64 at_, .int .i64 nn, .int .i64 id] Q) :
    Calls Try.prog 12 #[.pointer (some ⟨s, 0, none⟩), .agg #[.int .i64 1, .string ky, .slice a n c, .int .i64 vr, .int .i64 at_, .int .i64 nn, .int .i64 id]] w (DoOut w s Mo Mu σ Q) := by
  have hs := h.lts
  have HM := Lib.hid hm
  have hmn := map_nil 58 _ _ Try.underlying58
  clear hm
  rcases h with h | ⟨⟨mu, h, hmu⟩, he, hMo, hMu⟩
  · have E := ent_mk h #[.int .i64 1, .string ky, .slice a n c, .int .i64 vr, .int .i64 at_, .int .i64 nn, .int .i64 id]
    obtain ⟨W0, hW0⟩ : ∃ W0, W0 = (w.alloc (.cells #[.int .i64 1, .string ky, .slice a n c, .int .i64 vr, .int .i64 at_, .int .i64 nn, .int .i64 id] 29)).alloc (.cells zrep 35) := ⟨_, rfl⟩
    rw [← hW0] at E
    have HC := Lib.hid (HM.out W0 E.st (Frm.ofBelow E.bel) (by rw [E.sz]; exact Nat.le_refl _))
    have HST := Lib.hid E.st
    have HF0 := Lib.hid (Frm.ofBelow (F := fun b => b = s) E.bel)
    have HSZ := Lib.hid (show w.heap.size + 2 ≤ W0.heap.size by rw [E.sz]; exact Nat.le_refl _)
    have HRB := Lib.hid E.rb
    have HNR := Lib.hid (show ¬ StF s Mo Mu σ (w.heap.size + 1) from fun hb => by have := h.lt hb; omega)
    have c0 := cell_blk2 h.blk (i := 0) (u := .map (some Mo)) rfl
    have hq2 : ∀ j u, (#[.int .i64 1, .string ky, .slice a n c, .int .i64 vr, .int .i64 at_, .int .i64 nn, .int .i64 id] : Array Value)[j]? = some u → W0.cell? ⟨w.heap.size, j, none⟩ = some u := fun j u hu => cell_blk2 E.cb hu
    clear h HM E
    go_enter Try.func12, Try.ntmps12
    go_wp2_with fail
    unfold zrep at hW0
    rw [← hW0]
    clear hW0 c0 hq2
    refine HC.out.mono ?_
    rintro e w1 ⟨⟨x, ra, rn, rc, v, b, i, la, ln, lc, m, rfl⟩, hq, hfr⟩
    have hrb1 : w1.heap[w.heap.size + 1]? = some (.cells zrep 35 (0, 0)) := hfr.at HRB.out (fun hb => HNR.out hb)
    obtain ⟨⟨q0, q1, q2, q3, q4, q5, q6⟩, r0, r1, r2, r3, r4, r5, r6⟩ := rb_cells hrb1
    have HQ := Lib.hid hq
    have HFR := Lib.hid hfr
    have HRB1 := Lib.hid hrb1
    clear hq hfr hrb1
    go_wp2_with fail
    clear q0 q1 q2 q3 q4 q5 q6 r0 r1 r2 r3 r4 r5 r6
    obtain ⟨W5, hW5⟩ : ∃ W5, W5 = setR w1 (w.heap.size + 1) (.int .i64 x) (.slice ra rn rc) (.int .i64 v) (.int .i64 b) (.int .i64 i) (.slice la ln lc) (.bool m) := ⟨_, rfl⟩
    have hr5 := setR_at0 HRB1.out (.int .i64 x) (.slice ra rn rc) (.int .i64 v) (.int .i64 b) (.int .i64 i) (.slice la ln lc) (.bool m)
    have hF5 := (Frm.refl (fun b => b = w.heap.size + 1) w1).setR (R := w.heap.size + 1) (.inl rfl) (.int .i64 x) (.slice ra rn rc) (.int .i64 v) (.int .i64 b) (.int .i64 i) (.slice la ln lc) (.bool m)
    rw [← hW5] at hr5 hF5
    unfold setR at hW5
    rw [← hW5]
    refine bodyPost_ret (ret_rep rfl _ _ (w.heap.size + 1) rfl hr5) rfl ?_
    exact do_end HST.out HF0.out HSZ.out HQ.out HFR.out hF5
  · obtain ⟨wa, hwa⟩ : ∃ wa, wa = (w.alloc (.cells #[.int .i64 1, .string ky, .slice a n c, .int .i64 vr, .int .i64 at_, .int .i64 nn, .int .i64 id] 29)).alloc (.cells zrep 35) := ⟨_, rfl⟩
    have ez : wa.heap.size = w.heap.size + 2 := by rw [hwa]; simp
    have hbe : Below w.heap.size w wa := by rw [hwa]; exact ((Below.refl _ _).alloc (Nat.le_refl _) _).alloc (by simp) _
    have hcb : wa.heap[w.heap.size]? = some (.cells #[.int .i64 1, .string ky, .slice a n c, .int .i64 vr, .int .i64 at_, .int .i64 nn, .int .i64 id] 29 (0, 0)) := by
      rw [hwa]; exact (Below.heap_alloc _ _ _ (by simp)).trans (heap_new w _)
    have hrb : wa.heap[w.heap.size + 1]? = some (.cells zrep 35 (0, 0)) := by
      have := heap_new (w.alloc (.cells #[.int .i64 1, .string ky, .slice a n c, .int .i64 vr, .int .i64 at_, .int .i64 nn, .int .i64 id] 29)) (.cells zrep 35)
      rw [← hwa] at this
      rwa [show (w.alloc (.cells #[.int .i64 1, .string ky, .slice a n c, .int .i64 vr, .int .i64 at_, .int .i64 nn, .int .i64 id] 29)).heap.size = w.heap.size + 1 by simp] at this
    obtain ⟨hst, hfr⟩ := made_maps h wa hbe
    obtain ⟨W0, hW0⟩ : ∃ W0, W0 = (((wa.setCell ⟨s, 0, none⟩ (.map (some wa.heap.size))).setCell ⟨s, 1, none⟩ (.map (some (wa.heap.size + 1)))).alloc (.map #[] 0)).alloc (.map #[] 0) := ⟨_, rfl⟩
    rw [← hW0] at hst hfr
    have hfa : Frm (fun b => b = s) wa W0 := by
      rw [hW0]
      exact ((((Frm.refl (fun b => b = s) wa).set (p := s) (.inl rfl) 0 _).set (p := s) (.inl rfl) 1 _).below ((Below.refl _ _).alloc (Nat.le_refl _) _)).below ((Below.refl _ _).alloc (Nat.le_refl _) _)
    rw [ez, ← hMo, show Mo + 1 = Mu from by omega, ← he] at hst
    have hsz0 : w.heap.size + 2 ≤ W0.heap.size := by have := hfa.size; omega
    have hrb0 : W0.heap[w.heap.size + 1]? = some (.cells zrep 35 (0, 0)) := hfa.at hrb (by omega)
    have HC := Lib.hid (HM.out W0 hst hfr hsz0)
    have HST := Lib.hid hst
    have HF0 := Lib.hid hfr
    have HSZ := Lib.hid hsz0
    have HRB := Lib.hid hrb0
    have HNR := Lib.hid (show ¬ StF s Mo Mu σ (w.heap.size + 1) from fun hb => by
      rw [he] at hb
      rcases hb with g | g | g | ⟨p, hp, g⟩
      · omega
      · omega
      · omega
      · cases hp)
    have hla : wa.heap[s]? = some (.cells (freC mu σ.now) 61 (0, 0)) := (hbe.block s hs).trans h
    have c0 := cell_blk2 h (i := 0) (u := .map none) rfl
    have hmk := @run_makeMap Try.prog
    have MO := Lib.hid hMo
    have MU := Lib.hid hMu
    have hs1 : s < wa.heap.size := Nat.lt_of_lt_of_le hs hbe.size
    have hk1 : w.heap.size < wa.heap.size := by omega
    have HLA := Lib.hid hla
    have HCB := Lib.hid hcb
    have EZ := Lib.hid ez
    have HWA := Lib.hid hwa
    clear hmu h HM hst hfr hsz0 hrb0 hfa hcb hrb hbe he hMo hMu hla hwa ez
    go_enter Try.func12, Try.ntmps12
    go_upto_region 4 with fail
    have hwa2 := HWA.out
    unfold zrep at hwa2
    rw [← hwa2]
    clear hwa2 c0
    have c0 := cell_blk2 HLA.out (i := 0) (u := .map none) rfl
    have c1 := cell_blk2 HLA.out (i := 1) (u := .map mu) rfl
    have f0 := fro_blk2 HLA.out 0
    have f1 := fro_blk2 HLA.out 1
    have k0 := cell_blk2 HCB.out (i := 0) (u := .int .i64 1) rfl
    have k1 := cell_blk2 HCB.out (i := 1) (u := .string ky) rfl
    have k2 := cell_blk2 HCB.out (i := 2) (u := .slice a n c) rfl
    have k3 := cell_blk2 HCB.out (i := 3) (u := .int .i64 vr) rfl
    have k4 := cell_blk2 HCB.out (i := 4) (u := .int .i64 at_) rfl
    have k5 := cell_blk2 HCB.out (i := 5) (u := .int .i64 nn) rfl
    have k6 := cell_blk2 HCB.out (i := 6) (u := .int .i64 id) rfl
    go_wp2_with fail
    rw [← hW0]
    clear hW0 c0 c1 f0 f1 k0 k1 k2 k3 k4 k5 k6 hmk hs1 hk1
    refine HC.out.mono ?_
    rintro e w1 ⟨⟨x, ra, rn, rc, v, b, i, la, ln, lc, m, rfl⟩, hq, hfr⟩
    have hrb1 : w1.heap[w.heap.size + 1]? = some (.cells zrep 35 (0, 0)) := hfr.at HRB.out (fun hb => HNR.out hb)
    obtain ⟨⟨q0, q1, q2, q3, q4, q5, q6⟩, r0, r1, r2, r3, r4, r5, r6⟩ := rb_cells hrb1
    have HQ := Lib.hid hq
    have HFR := Lib.hid hfr
    have HRB1 := Lib.hid hrb1
    clear hq hfr hrb1
    go_wp2_with fail
    clear q0 q1 q2 q3 q4 q5 q6 r0 r1 r2 r3 r4 r5 r6
    obtain ⟨W5, hW5⟩ : ∃ W5, W5 = setR w1 (w.heap.size + 1) (.int .i64 x) (.slice ra rn rc) (.int .i64 v) (.int .i64 b) (.int .i64 i) (.slice la ln lc) (.bool m) := ⟨_, rfl⟩
    have hr5 := setR_at0 HRB1.out (.int .i64 x) (.slice ra rn rc) (.int .i64 v) (.int .i64 b) (.int .i64 i) (.slice la ln lc) (.bool m)
    have hF5 := (Frm.refl (fun b => b = w.heap.size + 1) w1).setR (R := w.heap.size + 1) (.inl rfl) (.int .i64 x) (.slice ra rn rc) (.int .i64 v) (.int .i64 b) (.int .i64 i) (.slice la ln lc) (.bool m)
    rw [← hW5] at hr5 hF5
    unfold setR at hW5
    rw [← hW5]
    refine bodyPost_ret (ret_rep rfl _ _ (w.heap.size + 1) rfl hr5) rfl ?_
    exact do_end HST.out HF0.out HSZ.out HQ.out HFR.out hF5
set_option maxRecDepth 100000 in
set_option maxHeartbeats 4000000 in
theorem do_2 {w : World} {s Mo Mu : Nat} {σ : Sto} (h : SAt w s Mo Mu σ) {vr at_ nn id : Int} {ky : ByteArray} {a : Option Addr} {n c : Nat} {Q : World → Ending → World → Prop} (hm : DoMeth w s Mo Mu σ 23 #[.int .i64 2, .string ky, .slice a n c, .int .i64 vr, .int .i64 at_, .int .i64 nn, .int .i64 id] Q) :
    Calls Try.prog 12 #[.pointer (some ⟨s, 0, none⟩), .agg #[.int .i64 2, .string ky, .slice a n c, .int .i64 vr, .int .i64 at_, .int .i64 nn, .int .i64 id]] w (DoOut w s Mo Mu σ Q) := by
  have hs := h.lts
  have HM := Lib.hid hm
  have hmn := map_nil 58 _ _ Try.underlying58
  clear hm
  rcases h with h | ⟨⟨mu, h, hmu⟩, he, hMo, hMu⟩
  · have E := ent_mk h #[.int .i64 2, .string ky, .slice a n c, .int .i64 vr, .int .i64 at_, .int .i64 nn, .int .i64 id]
    obtain ⟨W0, hW0⟩ : ∃ W0, W0 = (w.alloc (.cells #[.int .i64 2, .string ky, .slice a n c, .int .i64 vr, .int .i64 at_, .int .i64 nn, .int .i64 id] 29)).alloc (.cells zrep 35) := ⟨_, rfl⟩
    rw [← hW0] at E
    have HC := Lib.hid (HM.out W0 E.st (Frm.ofBelow E.bel) (by rw [E.sz]; exact Nat.le_refl _))
    have HST := Lib.hid E.st
    have HF0 := Lib.hid (Frm.ofBelow (F := fun b => b = s) E.bel)
    have HSZ := Lib.hid (show w.heap.size + 2 ≤ W0.heap.size by rw [E.sz]; exact Nat.le_refl _)
    have HRB := Lib.hid E.rb
    have HNR := Lib.hid (show ¬ StF s Mo Mu σ (w.heap.size + 1) from fun hb => by have := h.lt hb; omega)
    have c0 := cell_blk2 h.blk (i := 0) (u := .map (some Mo)) rfl
    have hq2 : ∀ j u, (#[.int .i64 2, .string ky, .slice a n c, .int .i64 vr, .int .i64 at_, .int .i64 nn, .int .i64 id] : Array Value)[j]? = some u → W0.cell? ⟨w.heap.size, j, none⟩ = some u := fun j u hu => cell_blk2 E.cb hu
    clear h HM E
    go_enter Try.func12, Try.ntmps12
    go_wp2_with fail
    unfold zrep at hW0
    rw [← hW0]
    clear hW0 c0 hq2
    refine HC.out.mono ?_
    rintro e w1 ⟨⟨x, ra, rn, rc, v, b, i, la, ln, lc, m, rfl⟩, hq, hfr⟩
    have hrb1 : w1.heap[w.heap.size + 1]? = some (.cells zrep 35 (0, 0)) := hfr.at HRB.out (fun hb => HNR.out hb)
    obtain ⟨⟨q0, q1, q2, q3, q4, q5, q6⟩, r0, r1, r2, r3, r4, r5, r6⟩ := rb_cells hrb1
    have HQ := Lib.hid hq
    have HFR := Lib.hid hfr
    have HRB1 := Lib.hid hrb1
    clear hq hfr hrb1
    go_wp2_with fail
    clear q0 q1 q2 q3 q4 q5 q6 r0 r1 r2 r3 r4 r5 r6
    obtain ⟨W5, hW5⟩ : ∃ W5, W5 = setR w1 (w.heap.size + 1) (.int .i64 x) (.slice ra rn rc) (.int .i64 v) (.int .i64 b) (.int .i64 i) (.slice la ln lc) (.bool m) := ⟨_, rfl⟩
    have hr5 := setR_at0 HRB1.out (.int .i64 x) (.slice ra rn rc) (.int .i64 v) (.int .i64 b) (.int .i64 i) (.slice la ln lc) (.bool m)
    have hF5 := (Frm.refl (fun b => b = w.heap.size + 1) w1).setR (R := w.heap.size + 1) (.inl rfl) (.int .i64 x) (.slice ra rn rc) (.int .i64 v) (.int .i64 b) (.int .i64 i) (.slice la ln lc) (.bool m)
    rw [← hW5] at hr5 hF5
    unfold setR at hW5
    rw [← hW5]
    refine bodyPost_ret (ret_rep rfl _ _ (w.heap.size + 1) rfl hr5) rfl ?_
    exact do_end HST.out HF0.out HSZ.out HQ.out HFR.out hF5
  · obtain ⟨wa, hwa⟩ : ∃ wa, wa = (w.alloc (.cells #[.int .i64 2, .string ky, .slice a n c, .int .i64 vr, .int .i64 at_, .int .i64 nn, .int .i64 id] 29)).alloc (.cells zrep 35) := ⟨_, rfl⟩
    have ez : wa.heap.size = w.heap.size + 2 := by rw [hwa]; simp
    have hbe : Below w.heap.size w wa := by rw [hwa]; exact ((Below.refl _ _).alloc (Nat.le_refl _) _).alloc (by simp) _
    have hcb : wa.heap[w.heap.size]? = some (.cells #[.int .i64 2, .string ky, .slice a n c, .int .i64 vr, .int .i64 at_, .int .i64 nn, .int .i64 id] 29 (0, 0)) := by
      rw [hwa]; exact (Below.heap_alloc _ _ _ (by simp)).trans (heap_new w _)
    have hrb : wa.heap[w.heap.size + 1]? = some (.cells zrep 35 (0, 0)) := by
      have := heap_new (w.alloc (.cells #[.int .i64 2, .string ky, .slice a n c, .int .i64 vr, .int .i64 at_, .int .i64 nn, .int .i64 id] 29)) (.cells zrep 35)
      rw [← hwa] at this
      rwa [show (w.alloc (.cells #[.int .i64 2, .string ky, .slice a n c, .int .i64 vr, .int .i64 at_, .int .i64 nn, .int .i64 id] 29)).heap.size = w.heap.size + 1 by simp] at this
    obtain ⟨hst, hfr⟩ := made_maps h wa hbe
    obtain ⟨W0, hW0⟩ : ∃ W0, W0 = (((wa.setCell ⟨s, 0, none⟩ (.map (some wa.heap.size))).setCell ⟨s, 1, none⟩ (.map (some (wa.heap.size + 1)))).alloc (.map #[] 0)).alloc (.map #[] 0) := ⟨_, rfl⟩
    rw [← hW0] at hst hfr
    have hfa : Frm (fun b => b = s) wa W0 := by
      rw [hW0]
      exact ((((Frm.refl (fun b => b = s) wa).set (p := s) (.inl rfl) 0 _).set (p := s) (.inl rfl) 1 _).below ((Below.refl _ _).alloc (Nat.le_refl _) _)).below ((Below.refl _ _).alloc (Nat.le_refl _) _)
    rw [ez, ← hMo, show Mo + 1 = Mu from by omega, ← he] at hst
    have hsz0 : w.heap.size + 2 ≤ W0.heap.size := by have := hfa.size; omega
    have hrb0 : W0.heap[w.heap.size + 1]? = some (.cells zrep 35 (0, 0)) := hfa.at hrb (by omega)
    have HC := Lib.hid (HM.out W0 hst hfr hsz0)
    have HST := Lib.hid hst
    have HF0 := Lib.hid hfr
    have HSZ := Lib.hid hsz0
    have HRB := Lib.hid hrb0
    have HNR := Lib.hid (show ¬ StF s Mo Mu σ (w.heap.size + 1) from fun hb => by
      rw [he] at hb
      rcases hb with g | g | g | ⟨p, hp, g⟩
      · omega
      · omega
      · omega
      · cases hp)
    have hla : wa.heap[s]? = some (.cells (freC mu σ.now) 61 (0, 0)) := (hbe.block s hs).trans h
    have c0 := cell_blk2 h (i := 0) (u := .map none) rfl
    have hmk := @run_makeMap Try.prog
    have MO := Lib.hid hMo
    have MU := Lib.hid hMu
    have hs1 : s < wa.heap.size := Nat.lt_of_lt_of_le hs hbe.size
    have hk1 : w.heap.size < wa.heap.size := by omega
    have HLA := Lib.hid hla
    have HCB := Lib.hid hcb
    have EZ := Lib.hid ez
    have HWA := Lib.hid hwa
    clear hmu h HM hst hfr hsz0 hrb0 hfa hcb hrb hbe he hMo hMu hla hwa ez
    go_enter Try.func12, Try.ntmps12
    go_upto_region 4 with fail
    have hwa2 := HWA.out
    unfold zrep at hwa2
    rw [← hwa2]
    clear hwa2 c0
    have c0 := cell_blk2 HLA.out (i := 0) (u := .map none) rfl
    have c1 := cell_blk2 HLA.out (i := 1) (u := .map mu) rfl
    have f0 := fro_blk2 HLA.out 0
    have f1 := fro_blk2 HLA.out 1
    have k0 := cell_blk2 HCB.out (i := 0) (u := .int .i64 2) rfl
    have k1 := cell_blk2 HCB.out (i := 1) (u := .string ky) rfl
    have k2 := cell_blk2 HCB.out (i := 2) (u := .slice a n c) rfl
    have k3 := cell_blk2 HCB.out (i := 3) (u := .int .i64 vr) rfl
    have k4 := cell_blk2 HCB.out (i := 4) (u := .int .i64 at_) rfl
    have k5 := cell_blk2 HCB.out (i := 5) (u := .int .i64 nn) rfl
    have k6 := cell_blk2 HCB.out (i := 6) (u := .int .i64 id) rfl
    go_wp2_with fail
    rw [← hW0]
    clear hW0 c0 c1 f0 f1 k0 k1 k2 k3 k4 k5 k6 hmk hs1 hk1
    refine HC.out.mono ?_
    rintro e w1 ⟨⟨x, ra, rn, rc, v, b, i, la, ln, lc, m, rfl⟩, hq, hfr⟩
    have hrb1 : w1.heap[w.heap.size + 1]? = some (.cells zrep 35 (0, 0)) := hfr.at HRB.out (fun hb => HNR.out hb)
    obtain ⟨⟨q0, q1, q2, q3, q4, q5, q6⟩, r0, r1, r2, r3, r4, r5, r6⟩ := rb_cells hrb1
    have HQ := Lib.hid hq
    have HFR := Lib.hid hfr
    have HRB1 := Lib.hid hrb1
    clear hq hfr hrb1
    go_wp2_with fail
    clear q0 q1 q2 q3 q4 q5 q6 r0 r1 r2 r3 r4 r5 r6
    obtain ⟨W5, hW5⟩ : ∃ W5, W5 = setR w1 (w.heap.size + 1) (.int .i64 x) (.slice ra rn rc) (.int .i64 v) (.int .i64 b) (.int .i64 i) (.slice la ln lc) (.bool m) := ⟨_, rfl⟩
    have hr5 := setR_at0 HRB1.out (.int .i64 x) (.slice ra rn rc) (.int .i64 v) (.int .i64 b) (.int .i64 i) (.slice la ln lc) (.bool m)
    have hF5 := (Frm.refl (fun b => b = w.heap.size + 1) w1).setR (R := w.heap.size + 1) (.inl rfl) (.int .i64 x) (.slice ra rn rc) (.int .i64 v) (.int .i64 b) (.int .i64 i) (.slice la ln lc) (.bool m)
    rw [← hW5] at hr5 hF5
    unfold setR at hW5
    rw [← hW5]
    refine bodyPost_ret (ret_rep rfl _ _ (w.heap.size + 1) rfl hr5) rfl ?_
    exact do_end HST.out HF0.out HSZ.out HQ.out HFR.out hF5
set_option maxRecDepth 100000 in
set_option maxHeartbeats 4000000 in
theorem do_3 {w : World} {s Mo Mu : Nat} {σ : Sto} (h : SAt w s Mo Mu σ) {vr at_ nn id : Int} {ky : ByteArray} {a : Option Addr} {n c : Nat} {Q : World → Ending → World → Prop} (hm : DoMeth w s Mo Mu σ 24 #[.int .i64 3, .string ky, .slice a n c, .int .i64 vr, .int .i64 at_, .int .i64 nn, .int .i64 id] Q) :
    Calls Try.prog 12 #[.pointer (some ⟨s, 0, none⟩), .agg #[.int .i64 3, .string ky, .slice a n c, .int .i64 vr, .int .i64 at_, .int .i64 nn, .int .i64 id]] w (DoOut w s Mo Mu σ Q) := by
  have hs := h.lts
  have HM := Lib.hid hm
  have hmn := map_nil 58 _ _ Try.underlying58
  clear hm
  rcases h with h | ⟨⟨mu, h, hmu⟩, he, hMo, hMu⟩
  · have E := ent_mk h #[.int .i64 3, .string ky, .slice a n c, .int .i64 vr, .int .i64 at_, .int .i64 nn, .int .i64 id]
    obtain ⟨W0, hW0⟩ : ∃ W0, W0 = (w.alloc (.cells #[.int .i64 3, .string ky, .slice a n c, .int .i64 vr, .int .i64 at_, .int .i64 nn, .int .i64 id] 29)).alloc (.cells zrep 35) := ⟨_, rfl⟩
    rw [← hW0] at E
    have HC := Lib.hid (HM.out W0 E.st (Frm.ofBelow E.bel) (by rw [E.sz]; exact Nat.le_refl _))
    have HST := Lib.hid E.st
    have HF0 := Lib.hid (Frm.ofBelow (F := fun b => b = s) E.bel)
    have HSZ := Lib.hid (show w.heap.size + 2 ≤ W0.heap.size by rw [E.sz]; exact Nat.le_refl _)
    have HRB := Lib.hid E.rb
    have HNR := Lib.hid (show ¬ StF s Mo Mu σ (w.heap.size + 1) from fun hb => by have := h.lt hb; omega)
    have c0 := cell_blk2 h.blk (i := 0) (u := .map (some Mo)) rfl
    have hq2 : ∀ j u, (#[.int .i64 3, .string ky, .slice a n c, .int .i64 vr, .int .i64 at_, .int .i64 nn, .int .i64 id] : Array Value)[j]? = some u → W0.cell? ⟨w.heap.size, j, none⟩ = some u := fun j u hu => cell_blk2 E.cb hu
    clear h HM E
    go_enter Try.func12, Try.ntmps12
    go_wp2_with fail
    unfold zrep at hW0
    rw [← hW0]
    clear hW0 c0 hq2
    refine HC.out.mono ?_
    rintro e w1 ⟨⟨x, ra, rn, rc, v, b, i, la, ln, lc, m, rfl⟩, hq, hfr⟩
    have hrb1 : w1.heap[w.heap.size + 1]? = some (.cells zrep 35 (0, 0)) := hfr.at HRB.out (fun hb => HNR.out hb)
    obtain ⟨⟨q0, q1, q2, q3, q4, q5, q6⟩, r0, r1, r2, r3, r4, r5, r6⟩ := rb_cells hrb1
    have HQ := Lib.hid hq
    have HFR := Lib.hid hfr
    have HRB1 := Lib.hid hrb1
    clear hq hfr hrb1
    go_wp2_with fail
    clear q0 q1 q2 q3 q4 q5 q6 r0 r1 r2 r3 r4 r5 r6
    obtain ⟨W5, hW5⟩ : ∃ W5, W5 = setR w1 (w.heap.size + 1) (.int .i64 x) (.slice ra rn rc) (.int .i64 v) (.int .i64 b) (.int .i64 i) (.slice la ln lc) (.bool m) := ⟨_, rfl⟩
    have hr5 := setR_at0 HRB1.out (.int .i64 x) (.slice ra rn rc) (.int .i64 v) (.int .i64 b) (.int .i64 i) (.slice la ln lc) (.bool m)
    have hF5 := (Frm.refl (fun b => b = w.heap.size + 1) w1).setR (R := w.heap.size + 1) (.inl rfl) (.int .i64 x) (.slice ra rn rc) (.int .i64 v) (.int .i64 b) (.int .i64 i) (.slice la ln lc) (.bool m)
    rw [← hW5] at hr5 hF5
    unfold setR at hW5
    rw [← hW5]
    refine bodyPost_ret (ret_rep rfl _ _ (w.heap.size + 1) rfl hr5) rfl ?_
    exact do_end HST.out HF0.out HSZ.out HQ.out HFR.out hF5
  · obtain ⟨wa, hwa⟩ : ∃ wa, wa = (w.alloc (.cells #[.int .i64 3, .string ky, .slice a n c, .int .i64 vr, .int .i64 at_, .int .i64 nn, .int .i64 id] 29)).alloc (.cells zrep 35) := ⟨_, rfl⟩
    have ez : wa.heap.size = w.heap.size + 2 := by rw [hwa]; simp
    have hbe : Below w.heap.size w wa := by rw [hwa]; exact ((Below.refl _ _).alloc (Nat.le_refl _) _).alloc (by simp) _
    have hcb : wa.heap[w.heap.size]? = some (.cells #[.int .i64 3, .string ky, .slice a n c, .int .i64 vr, .int .i64 at_, .int .i64 nn, .int .i64 id] 29 (0, 0)) := by
      rw [hwa]; exact (Below.heap_alloc _ _ _ (by simp)).trans (heap_new w _)
    have hrb : wa.heap[w.heap.size + 1]? = some (.cells zrep 35 (0, 0)) := by
      have := heap_new (w.alloc (.cells #[.int .i64 3, .string ky, .slice a n c, .int .i64 vr, .int .i64 at_, .int .i64 nn, .int .i64 id] 29)) (.cells zrep 35)
      rw [← hwa] at this
      rwa [show (w.alloc (.cells #[.int .i64 3, .string ky, .slice a n c, .int .i64 vr, .int .i64 at_, .int .i64 nn, .int .i64 id] 29)).heap.size = w.heap.size + 1 by simp] at this
    obtain ⟨hst, hfr⟩ := made_maps h wa hbe
    obtain ⟨W0, hW0⟩ : ∃ W0, W0 = (((wa.setCell ⟨s, 0, none⟩ (.map (some wa.heap.size))).setCell ⟨s, 1, none⟩ (.map (some (wa.heap.size + 1)))).alloc (.map #[] 0)).alloc (.map #[] 0) := ⟨_, rfl⟩
    rw [← hW0] at hst hfr
    have hfa : Frm (fun b => b = s) wa W0 := by
      rw [hW0]
      exact ((((Frm.refl (fun b => b = s) wa).set (p := s) (.inl rfl) 0 _).set (p := s) (.inl rfl) 1 _).below ((Below.refl _ _).alloc (Nat.le_refl _) _)).below ((Below.refl _ _).alloc (Nat.le_refl _) _)
    rw [ez, ← hMo, show Mo + 1 = Mu from by omega, ← he] at hst
    have hsz0 : w.heap.size + 2 ≤ W0.heap.size := by have := hfa.size; omega
    have hrb0 : W0.heap[w.heap.size + 1]? = some (.cells zrep 35 (0, 0)) := hfa.at hrb (by omega)
    have HC := Lib.hid (HM.out W0 hst hfr hsz0)
    have HST := Lib.hid hst
    have HF0 := Lib.hid hfr
    have HSZ := Lib.hid hsz0
    have HRB := Lib.hid hrb0
    have HNR := Lib.hid (show ¬ StF s Mo Mu σ (w.heap.size + 1) from fun hb => by
      rw [he] at hb
      rcases hb with g | g | g | ⟨p, hp, g⟩
      · omega
      · omega
      · omega
      · cases hp)
    have hla : wa.heap[s]? = some (.cells (freC mu σ.now) 61 (0, 0)) := (hbe.block s hs).trans h
    have c0 := cell_blk2 h (i := 0) (u := .map none) rfl
    have hmk := @run_makeMap Try.prog
    have MO := Lib.hid hMo
    have MU := Lib.hid hMu
    have hs1 : s < wa.heap.size := Nat.lt_of_lt_of_le hs hbe.size
    have hk1 : w.heap.size < wa.heap.size := by omega
    have HLA := Lib.hid hla
    have HCB := Lib.hid hcb
    have EZ := Lib.hid ez
    have HWA := Lib.hid hwa
    clear hmu h HM hst hfr hsz0 hrb0 hfa hcb hrb hbe he hMo hMu hla hwa ez
    go_enter Try.func12, Try.ntmps12
    go_upto_region 4 with fail
    have hwa2 := HWA.out
    unfold zrep at hwa2
    rw [← hwa2]
    clear hwa2 c0
    have c0 := cell_blk2 HLA.out (i := 0) (u := .map none) rfl
    have c1 := cell_blk2 HLA.out (i := 1) (u := .map mu) rfl
    have f0 := fro_blk2 HLA.out 0
    have f1 := fro_blk2 HLA.out 1
    have k0 := cell_blk2 HCB.out (i := 0) (u := .int .i64 3) rfl
    have k1 := cell_blk2 HCB.out (i := 1) (u := .string ky) rfl
    have k2 := cell_blk2 HCB.out (i := 2) (u := .slice a n c) rfl
    have k3 := cell_blk2 HCB.out (i := 3) (u := .int .i64 vr) rfl
    have k4 := cell_blk2 HCB.out (i := 4) (u := .int .i64 at_) rfl
    have k5 := cell_blk2 HCB.out (i := 5) (u := .int .i64 nn) rfl
    have k6 := cell_blk2 HCB.out (i := 6) (u := .int .i64 id) rfl
    go_wp2_with fail
    rw [← hW0]
    clear hW0 c0 c1 f0 f1 k0 k1 k2 k3 k4 k5 k6 hmk hs1 hk1
    refine HC.out.mono ?_
    rintro e w1 ⟨⟨x, ra, rn, rc, v, b, i, la, ln, lc, m, rfl⟩, hq, hfr⟩
    have hrb1 : w1.heap[w.heap.size + 1]? = some (.cells zrep 35 (0, 0)) := hfr.at HRB.out (fun hb => HNR.out hb)
    obtain ⟨⟨q0, q1, q2, q3, q4, q5, q6⟩, r0, r1, r2, r3, r4, r5, r6⟩ := rb_cells hrb1
    have HQ := Lib.hid hq
    have HFR := Lib.hid hfr
    have HRB1 := Lib.hid hrb1
    clear hq hfr hrb1
    go_wp2_with fail
    clear q0 q1 q2 q3 q4 q5 q6 r0 r1 r2 r3 r4 r5 r6
    obtain ⟨W5, hW5⟩ : ∃ W5, W5 = setR w1 (w.heap.size + 1) (.int .i64 x) (.slice ra rn rc) (.int .i64 v) (.int .i64 b) (.int .i64 i) (.slice la ln lc) (.bool m) := ⟨_, rfl⟩
    have hr5 := setR_at0 HRB1.out (.int .i64 x) (.slice ra rn rc) (.int .i64 v) (.int .i64 b) (.int .i64 i) (.slice la ln lc) (.bool m)
    have hF5 := (Frm.refl (fun b => b = w.heap.size + 1) w1).setR (R := w.heap.size + 1) (.inl rfl) (.int .i64 x) (.slice ra rn rc) (.int .i64 v) (.int .i64 b) (.int .i64 i) (.slice la ln lc) (.bool m)
    rw [← hW5] at hr5 hF5
    unfold setR at hW5
    rw [← hW5]
    refine bodyPost_ret (ret_rep rfl _ _ (w.heap.size + 1) rfl hr5) rfl ?_
    exact do_end HST.out HF0.out HSZ.out HQ.out HFR.out hF5
set_option maxRecDepth 100000 in
set_option maxHeartbeats 4000000 in
theorem do_4 {w : World} {s Mo Mu : Nat} {σ : Sto} (h : SAt w s Mo Mu σ) {vr at_ nn id : Int} {ky : ByteArray} {a : Option Addr} {n c : Nat} {Q : World → Ending → World → Prop} (hm : DoMeth w s Mo Mu σ 25 #[.int .i64 4, .string ky, .slice a n c, .int .i64 vr, .int .i64 at_, .int .i64 nn, .int .i64 id] Q) :
    Calls Try.prog 12 #[.pointer (some ⟨s, 0, none⟩), .agg #[.int .i64 4, .string ky, .slice a n c, .int .i64 vr, .int .i64 at_, .int .i64 nn, .int .i64 id]] w (DoOut w s Mo Mu σ Q) := by
  have hs := h.lts
  have HM := Lib.hid hm
  have hmn := map_nil 58 _ _ Try.underlying58
  clear hm
  rcases h with h | ⟨⟨mu, h, hmu⟩, he, hMo, hMu⟩
  · have E := ent_mk h #[.int .i64 4, .string ky, .slice a n c, .int .i64 vr, .int .i64 at_, .int .i64 nn, .int .i64 id]
    obtain ⟨W0, hW0⟩ : ∃ W0, W0 = (w.alloc (.cells #[.int .i64 4, .string ky, .slice a n c, .int .i64 vr, .int .i64 at_, .int .i64 nn, .int .i64 id] 29)).alloc (.cells zrep 35) := ⟨_, rfl⟩
    rw [← hW0] at E
    have HC := Lib.hid (HM.out W0 E.st (Frm.ofBelow E.bel) (by rw [E.sz]; exact Nat.le_refl _))
    have HST := Lib.hid E.st
    have HF0 := Lib.hid (Frm.ofBelow (F := fun b => b = s) E.bel)
    have HSZ := Lib.hid (show w.heap.size + 2 ≤ W0.heap.size by rw [E.sz]; exact Nat.le_refl _)
    have HRB := Lib.hid E.rb
    have HNR := Lib.hid (show ¬ StF s Mo Mu σ (w.heap.size + 1) from fun hb => by have := h.lt hb; omega)
    have c0 := cell_blk2 h.blk (i := 0) (u := .map (some Mo)) rfl
    have hq2 : ∀ j u, (#[.int .i64 4, .string ky, .slice a n c, .int .i64 vr, .int .i64 at_, .int .i64 nn, .int .i64 id] : Array Value)[j]? = some u → W0.cell? ⟨w.heap.size, j, none⟩ = some u := fun j u hu => cell_blk2 E.cb hu
    clear h HM E
    go_enter Try.func12, Try.ntmps12
    go_wp2_with fail
    unfold zrep at hW0
    rw [← hW0]
    clear hW0 c0 hq2
    refine HC.out.mono ?_
    rintro e w1 ⟨⟨x, ra, rn, rc, v, b, i, la, ln, lc, m, rfl⟩, hq, hfr⟩
    have hrb1 : w1.heap[w.heap.size + 1]? = some (.cells zrep 35 (0, 0)) := hfr.at HRB.out (fun hb => HNR.out hb)
    obtain ⟨⟨q0, q1, q2, q3, q4, q5, q6⟩, r0, r1, r2, r3, r4, r5, r6⟩ := rb_cells hrb1
    have HQ := Lib.hid hq
    have HFR := Lib.hid hfr
    have HRB1 := Lib.hid hrb1
    clear hq hfr hrb1
    go_wp2_with fail
    clear q0 q1 q2 q3 q4 q5 q6 r0 r1 r2 r3 r4 r5 r6
    obtain ⟨W5, hW5⟩ : ∃ W5, W5 = setR w1 (w.heap.size + 1) (.int .i64 x) (.slice ra rn rc) (.int .i64 v) (.int .i64 b) (.int .i64 i) (.slice la ln lc) (.bool m) := ⟨_, rfl⟩
    have hr5 := setR_at0 HRB1.out (.int .i64 x) (.slice ra rn rc) (.int .i64 v) (.int .i64 b) (.int .i64 i) (.slice la ln lc) (.bool m)
    have hF5 := (Frm.refl (fun b => b = w.heap.size + 1) w1).setR (R := w.heap.size + 1) (.inl rfl) (.int .i64 x) (.slice ra rn rc) (.int .i64 v) (.int .i64 b) (.int .i64 i) (.slice la ln lc) (.bool m)
    rw [← hW5] at hr5 hF5
    unfold setR at hW5
    rw [← hW5]
    refine bodyPost_ret (ret_rep rfl _ _ (w.heap.size + 1) rfl hr5) rfl ?_
    exact do_end HST.out HF0.out HSZ.out HQ.out HFR.out hF5
  · obtain ⟨wa, hwa⟩ : ∃ wa, wa = (w.alloc (.cells #[.int .i64 4, .string ky, .slice a n c, .int .i64 vr, .int .i64 at_, .int .i64 nn, .int .i64 id] 29)).alloc (.cells zrep 35) := ⟨_, rfl⟩
    have ez : wa.heap.size = w.heap.size + 2 := by rw [hwa]; simp
    have hbe : Below w.heap.size w wa := by rw [hwa]; exact ((Below.refl _ _).alloc (Nat.le_refl _) _).alloc (by simp) _
    have hcb : wa.heap[w.heap.size]? = some (.cells #[.int .i64 4, .string ky, .slice a n c, .int .i64 vr, .int .i64 at_, .int .i64 nn, .int .i64 id] 29 (0, 0)) := by
      rw [hwa]; exact (Below.heap_alloc _ _ _ (by simp)).trans (heap_new w _)
    have hrb : wa.heap[w.heap.size + 1]? = some (.cells zrep 35 (0, 0)) := by
      have := heap_new (w.alloc (.cells #[.int .i64 4, .string ky, .slice a n c, .int .i64 vr, .int .i64 at_, .int .i64 nn, .int .i64 id] 29)) (.cells zrep 35)
      rw [← hwa] at this
      rwa [show (w.alloc (.cells #[.int .i64 4, .string ky, .slice a n c, .int .i64 vr, .int .i64 at_, .int .i64 nn, .int .i64 id] 29)).heap.size = w.heap.size + 1 by simp] at this
    obtain ⟨hst, hfr⟩ := made_maps h wa hbe
    obtain ⟨W0, hW0⟩ : ∃ W0, W0 = (((wa.setCell ⟨s, 0, none⟩ (.map (some wa.heap.size))).setCell ⟨s, 1, none⟩ (.map (some (wa.heap.size + 1)))).alloc (.map #[] 0)).alloc (.map #[] 0) := ⟨_, rfl⟩
    rw [← hW0] at hst hfr
    have hfa : Frm (fun b => b = s) wa W0 := by
      rw [hW0]
      exact ((((Frm.refl (fun b => b = s) wa).set (p := s) (.inl rfl) 0 _).set (p := s) (.inl rfl) 1 _).below ((Below.refl _ _).alloc (Nat.le_refl _) _)).below ((Below.refl _ _).alloc (Nat.le_refl _) _)
    rw [ez, ← hMo, show Mo + 1 = Mu from by omega, ← he] at hst
    have hsz0 : w.heap.size + 2 ≤ W0.heap.size := by have := hfa.size; omega
    have hrb0 : W0.heap[w.heap.size + 1]? = some (.cells zrep 35 (0, 0)) := hfa.at hrb (by omega)
    have HC := Lib.hid (HM.out W0 hst hfr hsz0)
    have HST := Lib.hid hst
    have HF0 := Lib.hid hfr
    have HSZ := Lib.hid hsz0
    have HRB := Lib.hid hrb0
    have HNR := Lib.hid (show ¬ StF s Mo Mu σ (w.heap.size + 1) from fun hb => by
      rw [he] at hb
      rcases hb with g | g | g | ⟨p, hp, g⟩
      · omega
      · omega
      · omega
      · cases hp)
    have hla : wa.heap[s]? = some (.cells (freC mu σ.now) 61 (0, 0)) := (hbe.block s hs).trans h
    have c0 := cell_blk2 h (i := 0) (u := .map none) rfl
    have hmk := @run_makeMap Try.prog
    have MO := Lib.hid hMo
    have MU := Lib.hid hMu
    have hs1 : s < wa.heap.size := Nat.lt_of_lt_of_le hs hbe.size
    have hk1 : w.heap.size < wa.heap.size := by omega
    have HLA := Lib.hid hla
    have HCB := Lib.hid hcb
    have EZ := Lib.hid ez
    have HWA := Lib.hid hwa
    clear hmu h HM hst hfr hsz0 hrb0 hfa hcb hrb hbe he hMo hMu hla hwa ez
    go_enter Try.func12, Try.ntmps12
    go_upto_region 4 with fail
    have hwa2 := HWA.out
    unfold zrep at hwa2
    rw [← hwa2]
    clear hwa2 c0
    have c0 := cell_blk2 HLA.out (i := 0) (u := .map none) rfl
    have c1 := cell_blk2 HLA.out (i := 1) (u := .map mu) rfl
    have f0 := fro_blk2 HLA.out 0
    have f1 := fro_blk2 HLA.out 1
    have k0 := cell_blk2 HCB.out (i := 0) (u := .int .i64 4) rfl
    have k1 := cell_blk2 HCB.out (i := 1) (u := .string ky) rfl
    have k2 := cell_blk2 HCB.out (i := 2) (u := .slice a n c) rfl
    have k3 := cell_blk2 HCB.out (i := 3) (u := .int .i64 vr) rfl
    have k4 := cell_blk2 HCB.out (i := 4) (u := .int .i64 at_) rfl
    have k5 := cell_blk2 HCB.out (i := 5) (u := .int .i64 nn) rfl
    have k6 := cell_blk2 HCB.out (i := 6) (u := .int .i64 id) rfl
    go_wp2_with fail
    rw [← hW0]
    clear hW0 c0 c1 f0 f1 k0 k1 k2 k3 k4 k5 k6 hmk hs1 hk1
    refine HC.out.mono ?_
    rintro e w1 ⟨⟨x, ra, rn, rc, v, b, i, la, ln, lc, m, rfl⟩, hq, hfr⟩
    have hrb1 : w1.heap[w.heap.size + 1]? = some (.cells zrep 35 (0, 0)) := hfr.at HRB.out (fun hb => HNR.out hb)
    obtain ⟨⟨q0, q1, q2, q3, q4, q5, q6⟩, r0, r1, r2, r3, r4, r5, r6⟩ := rb_cells hrb1
    have HQ := Lib.hid hq
    have HFR := Lib.hid hfr
    have HRB1 := Lib.hid hrb1
    clear hq hfr hrb1
    go_wp2_with fail
    clear q0 q1 q2 q3 q4 q5 q6 r0 r1 r2 r3 r4 r5 r6
    obtain ⟨W5, hW5⟩ : ∃ W5, W5 = setR w1 (w.heap.size + 1) (.int .i64 x) (.slice ra rn rc) (.int .i64 v) (.int .i64 b) (.int .i64 i) (.slice la ln lc) (.bool m) := ⟨_, rfl⟩
    have hr5 := setR_at0 HRB1.out (.int .i64 x) (.slice ra rn rc) (.int .i64 v) (.int .i64 b) (.int .i64 i) (.slice la ln lc) (.bool m)
    have hF5 := (Frm.refl (fun b => b = w.heap.size + 1) w1).setR (R := w.heap.size + 1) (.inl rfl) (.int .i64 x) (.slice ra rn rc) (.int .i64 v) (.int .i64 b) (.int .i64 i) (.slice la ln lc) (.bool m)
    rw [← hW5] at hr5 hF5
    unfold setR at hW5
    rw [← hW5]
    refine bodyPost_ret (ret_rep rfl _ _ (w.heap.size + 1) rfl hr5) rfl ?_
    exact do_end HST.out HF0.out HSZ.out HQ.out HFR.out hF5
set_option maxRecDepth 100000 in
set_option maxHeartbeats 4000000 in
theorem do_5 {w : World} {s Mo Mu : Nat} {σ : Sto} (h : SAt w s Mo Mu σ) {vr at_ nn id : Int} {ky : ByteArray} {a : Option Addr} {n c : Nat} {Q : World → Ending → World → Prop} (hm : DoMeth w s Mo Mu σ 26 #[.int .i64 5, .string ky, .slice a n c, .int .i64 vr, .int .i64 at_, .int .i64 nn, .int .i64 id] Q) :
    Calls Try.prog 12 #[.pointer (some ⟨s, 0, none⟩), .agg #[.int .i64 5, .string ky, .slice a n c, .int .i64 vr, .int .i64 at_, .int .i64 nn, .int .i64 id]] w (DoOut w s Mo Mu σ Q) := by
  have hs := h.lts
  have HM := Lib.hid hm
  have hmn := map_nil 58 _ _ Try.underlying58
  clear hm
  rcases h with h | ⟨⟨mu, h, hmu⟩, he, hMo, hMu⟩
  · have E := ent_mk h #[.int .i64 5, .string ky, .slice a n c, .int .i64 vr, .int .i64 at_, .int .i64 nn, .int .i64 id]
    obtain ⟨W0, hW0⟩ : ∃ W0, W0 = (w.alloc (.cells #[.int .i64 5, .string ky, .slice a n c, .int .i64 vr, .int .i64 at_, .int .i64 nn, .int .i64 id] 29)).alloc (.cells zrep 35) := ⟨_, rfl⟩
    rw [← hW0] at E
    have HC := Lib.hid (HM.out W0 E.st (Frm.ofBelow E.bel) (by rw [E.sz]; exact Nat.le_refl _))
    have HST := Lib.hid E.st
    have HF0 := Lib.hid (Frm.ofBelow (F := fun b => b = s) E.bel)
    have HSZ := Lib.hid (show w.heap.size + 2 ≤ W0.heap.size by rw [E.sz]; exact Nat.le_refl _)
    have HRB := Lib.hid E.rb
    have HNR := Lib.hid (show ¬ StF s Mo Mu σ (w.heap.size + 1) from fun hb => by have := h.lt hb; omega)
    have c0 := cell_blk2 h.blk (i := 0) (u := .map (some Mo)) rfl
    have hq2 : ∀ j u, (#[.int .i64 5, .string ky, .slice a n c, .int .i64 vr, .int .i64 at_, .int .i64 nn, .int .i64 id] : Array Value)[j]? = some u → W0.cell? ⟨w.heap.size, j, none⟩ = some u := fun j u hu => cell_blk2 E.cb hu
    clear h HM E
    go_enter Try.func12, Try.ntmps12
    go_wp2_with fail
    unfold zrep at hW0
    rw [← hW0]
    clear hW0 c0 hq2
    refine HC.out.mono ?_
    rintro e w1 ⟨⟨x, ra, rn, rc, v, b, i, la, ln, lc, m, rfl⟩, hq, hfr⟩
    have hrb1 : w1.heap[w.heap.size + 1]? = some (.cells zrep 35 (0, 0)) := hfr.at HRB.out (fun hb => HNR.out hb)
    obtain ⟨⟨q0, q1, q2, q3, q4, q5, q6⟩, r0, r1, r2, r3, r4, r5, r6⟩ := rb_cells hrb1
    have HQ := Lib.hid hq
    have HFR := Lib.hid hfr
    have HRB1 := Lib.hid hrb1
    clear hq hfr hrb1
    go_wp2_with fail
    clear q0 q1 q2 q3 q4 q5 q6 r0 r1 r2 r3 r4 r5 r6
    obtain ⟨W5, hW5⟩ : ∃ W5, W5 = setR w1 (w.heap.size + 1) (.int .i64 x) (.slice ra rn rc) (.int .i64 v) (.int .i64 b) (.int .i64 i) (.slice la ln lc) (.bool m) := ⟨_, rfl⟩
    have hr5 := setR_at0 HRB1.out (.int .i64 x) (.slice ra rn rc) (.int .i64 v) (.int .i64 b) (.int .i64 i) (.slice la ln lc) (.bool m)
    have hF5 := (Frm.refl (fun b => b = w.heap.size + 1) w1).setR (R := w.heap.size + 1) (.inl rfl) (.int .i64 x) (.slice ra rn rc) (.int .i64 v) (.int .i64 b) (.int .i64 i) (.slice la ln lc) (.bool m)
    rw [← hW5] at hr5 hF5
    unfold setR at hW5
    rw [← hW5]
    refine bodyPost_ret (ret_rep rfl _ _ (w.heap.size + 1) rfl hr5) rfl ?_
    exact do_end HST.out HF0.out HSZ.out HQ.out HFR.out hF5
  · obtain ⟨wa, hwa⟩ : ∃ wa, wa = (w.alloc (.cells #[.int .i64 5, .string ky, .slice a n c, .int .i64 vr, .int .i64 at_, .int .i64 nn, .int .i64 id] 29)).alloc (.cells zrep 35) := ⟨_, rfl⟩
    have ez : wa.heap.size = w.heap.size + 2 := by rw [hwa]; simp
    have hbe : Below w.heap.size w wa := by rw [hwa]; exact ((Below.refl _ _).alloc (Nat.le_refl _) _).alloc (by simp) _
    have hcb : wa.heap[w.heap.size]? = some (.cells #[.int .i64 5, .string ky, .slice a n c, .int .i64 vr, .int .i64 at_, .int .i64 nn, .int .i64 id] 29 (0, 0)) := by
      rw [hwa]; exact (Below.heap_alloc _ _ _ (by simp)).trans (heap_new w _)
    have hrb : wa.heap[w.heap.size + 1]? = some (.cells zrep 35 (0, 0)) := by
      have := heap_new (w.alloc (.cells #[.int .i64 5, .string ky, .slice a n c, .int .i64 vr, .int .i64 at_, .int .i64 nn, .int .i64 id] 29)) (.cells zrep 35)
      rw [← hwa] at this
      rwa [show (w.alloc (.cells #[.int .i64 5, .string ky, .slice a n c, .int .i64 vr, .int .i64 at_, .int .i64 nn, .int .i64 id] 29)).heap.size = w.heap.size + 1 by simp] at this
    obtain ⟨hst, hfr⟩ := made_maps h wa hbe
    obtain ⟨W0, hW0⟩ : ∃ W0, W0 = (((wa.setCell ⟨s, 0, none⟩ (.map (some wa.heap.size))).setCell ⟨s, 1, none⟩ (.map (some (wa.heap.size + 1)))).alloc (.map #[] 0)).alloc (.map #[] 0) := ⟨_, rfl⟩
    rw [← hW0] at hst hfr
    have hfa : Frm (fun b => b = s) wa W0 := by
      rw [hW0]
      exact ((((Frm.refl (fun b => b = s) wa).set (p := s) (.inl rfl) 0 _).set (p := s) (.inl rfl) 1 _).below ((Below.refl _ _).alloc (Nat.le_refl _) _)).below ((Below.refl _ _).alloc (Nat.le_refl _) _)
    rw [ez, ← hMo, show Mo + 1 = Mu from by omega, ← he] at hst
    have hsz0 : w.heap.size + 2 ≤ W0.heap.size := by have := hfa.size; omega
    have hrb0 : W0.heap[w.heap.size + 1]? = some (.cells zrep 35 (0, 0)) := hfa.at hrb (by omega)
    have HC := Lib.hid (HM.out W0 hst hfr hsz0)
    have HST := Lib.hid hst
    have HF0 := Lib.hid hfr
    have HSZ := Lib.hid hsz0
    have HRB := Lib.hid hrb0
    have HNR := Lib.hid (show ¬ StF s Mo Mu σ (w.heap.size + 1) from fun hb => by
      rw [he] at hb
      rcases hb with g | g | g | ⟨p, hp, g⟩
      · omega
      · omega
      · omega
      · cases hp)
    have hla : wa.heap[s]? = some (.cells (freC mu σ.now) 61 (0, 0)) := (hbe.block s hs).trans h
    have c0 := cell_blk2 h (i := 0) (u := .map none) rfl
    have hmk := @run_makeMap Try.prog
    have MO := Lib.hid hMo
    have MU := Lib.hid hMu
    have hs1 : s < wa.heap.size := Nat.lt_of_lt_of_le hs hbe.size
    have hk1 : w.heap.size < wa.heap.size := by omega
    have HLA := Lib.hid hla
    have HCB := Lib.hid hcb
    have EZ := Lib.hid ez
    have HWA := Lib.hid hwa
    clear hmu h HM hst hfr hsz0 hrb0 hfa hcb hrb hbe he hMo hMu hla hwa ez
    go_enter Try.func12, Try.ntmps12
    go_upto_region 4 with fail
    have hwa2 := HWA.out
    unfold zrep at hwa2
    rw [← hwa2]
    clear hwa2 c0
    have c0 := cell_blk2 HLA.out (i := 0) (u := .map none) rfl
    have c1 := cell_blk2 HLA.out (i := 1) (u := .map mu) rfl
    have f0 := fro_blk2 HLA.out 0
    have f1 := fro_blk2 HLA.out 1
    have k0 := cell_blk2 HCB.out (i := 0) (u := .int .i64 5) rfl
    have k1 := cell_blk2 HCB.out (i := 1) (u := .string ky) rfl
    have k2 := cell_blk2 HCB.out (i := 2) (u := .slice a n c) rfl
    have k3 := cell_blk2 HCB.out (i := 3) (u := .int .i64 vr) rfl
    have k4 := cell_blk2 HCB.out (i := 4) (u := .int .i64 at_) rfl
    have k5 := cell_blk2 HCB.out (i := 5) (u := .int .i64 nn) rfl
    have k6 := cell_blk2 HCB.out (i := 6) (u := .int .i64 id) rfl
    go_wp2_with fail
    rw [← hW0]
    clear hW0 c0 c1 f0 f1 k0 k1 k2 k3 k4 k5 k6 hmk hs1 hk1
    refine HC.out.mono ?_
    rintro e w1 ⟨⟨x, ra, rn, rc, v, b, i, la, ln, lc, m, rfl⟩, hq, hfr⟩
    have hrb1 : w1.heap[w.heap.size + 1]? = some (.cells zrep 35 (0, 0)) := hfr.at HRB.out (fun hb => HNR.out hb)
    obtain ⟨⟨q0, q1, q2, q3, q4, q5, q6⟩, r0, r1, r2, r3, r4, r5, r6⟩ := rb_cells hrb1
    have HQ := Lib.hid hq
    have HFR := Lib.hid hfr
    have HRB1 := Lib.hid hrb1
    clear hq hfr hrb1
    go_wp2_with fail
    clear q0 q1 q2 q3 q4 q5 q6 r0 r1 r2 r3 r4 r5 r6
    obtain ⟨W5, hW5⟩ : ∃ W5, W5 = setR w1 (w.heap.size + 1) (.int .i64 x) (.slice ra rn rc) (.int .i64 v) (.int .i64 b) (.int .i64 i) (.slice la ln lc) (.bool m) := ⟨_, rfl⟩
    have hr5 := setR_at0 HRB1.out (.int .i64 x) (.slice ra rn rc) (.int .i64 v) (.int .i64 b) (.int .i64 i) (.slice la ln lc) (.bool m)
    have hF5 := (Frm.refl (fun b => b = w.heap.size + 1) w1).setR (R := w.heap.size + 1) (.inl rfl) (.int .i64 x) (.slice ra rn rc) (.int .i64 v) (.int .i64 b) (.int .i64 i) (.slice la ln lc) (.bool m)
    rw [← hW5] at hr5 hF5
    unfold setR at hW5
    rw [← hW5]
    refine bodyPost_ret (ret_rep rfl _ _ (w.heap.size + 1) rfl hr5) rfl ?_
    exact do_end HST.out HF0.out HSZ.out HQ.out HFR.out hF5
set_option maxRecDepth 100000 in
set_option maxHeartbeats 4000000 in
theorem do_6 {w : World} {s Mo Mu : Nat} {σ : Sto} (h : SAt w s Mo Mu σ) {vr at_ nn id : Int} {ky : ByteArray} {a : Option Addr} {n c : Nat} {Q : World → Ending → World → Prop} (hm : DoMeth w s Mo Mu σ 27 #[.int .i64 6, .string ky, .slice a n c, .int .i64 vr, .int .i64 at_, .int .i64 nn, .int .i64 id] Q) :
    Calls Try.prog 12 #[.pointer (some ⟨s, 0, none⟩), .agg #[.int .i64 6, .string ky, .slice a n c, .int .i64 vr, .int .i64 at_, .int .i64 nn, .int .i64 id]] w (DoOut w s Mo Mu σ Q) := by
  have hs := h.lts
  have HM := Lib.hid hm
  have hmn := map_nil 58 _ _ Try.underlying58
  clear hm
  rcases h with h | ⟨⟨mu, h, hmu⟩, he, hMo, hMu⟩
  · have E := ent_mk h #[.int .i64 6, .string ky, .slice a n c, .int .i64 vr, .int .i64 at_, .int .i64 nn, .int .i64 id]
    obtain ⟨W0, hW0⟩ : ∃ W0, W0 = (w.alloc (.cells #[.int .i64 6, .string ky, .slice a n c, .int .i64 vr, .int .i64 at_, .int .i64 nn, .int .i64 id] 29)).alloc (.cells zrep 35) := ⟨_, rfl⟩
    rw [← hW0] at E
    have HC := Lib.hid (HM.out W0 E.st (Frm.ofBelow E.bel) (by rw [E.sz]; exact Nat.le_refl _))
    have HST := Lib.hid E.st
    have HF0 := Lib.hid (Frm.ofBelow (F := fun b => b = s) E.bel)
    have HSZ := Lib.hid (show w.heap.size + 2 ≤ W0.heap.size by rw [E.sz]; exact Nat.le_refl _)
    have HRB := Lib.hid E.rb
    have HNR := Lib.hid (show ¬ StF s Mo Mu σ (w.heap.size + 1) from fun hb => by have := h.lt hb; omega)
    have c0 := cell_blk2 h.blk (i := 0) (u := .map (some Mo)) rfl
    have hq2 : ∀ j u, (#[.int .i64 6, .string ky, .slice a n c, .int .i64 vr, .int .i64 at_, .int .i64 nn, .int .i64 id] : Array Value)[j]? = some u → W0.cell? ⟨w.heap.size, j, none⟩ = some u := fun j u hu => cell_blk2 E.cb hu
    clear h HM E
    go_enter Try.func12, Try.ntmps12
    go_wp2_with fail
    unfold zrep at hW0
    rw [← hW0]
    clear hW0 c0 hq2
    refine HC.out.mono ?_
    rintro e w1 ⟨⟨x, ra, rn, rc, v, b, i, la, ln, lc, m, rfl⟩, hq, hfr⟩
    have hrb1 : w1.heap[w.heap.size + 1]? = some (.cells zrep 35 (0, 0)) := hfr.at HRB.out (fun hb => HNR.out hb)
    obtain ⟨⟨q0, q1, q2, q3, q4, q5, q6⟩, r0, r1, r2, r3, r4, r5, r6⟩ := rb_cells hrb1
    have HQ := Lib.hid hq
    have HFR := Lib.hid hfr
    have HRB1 := Lib.hid hrb1
    clear hq hfr hrb1
    go_wp2_with fail
    clear q0 q1 q2 q3 q4 q5 q6 r0 r1 r2 r3 r4 r5 r6
    obtain ⟨W5, hW5⟩ : ∃ W5, W5 = setR w1 (w.heap.size + 1) (.int .i64 x) (.slice ra rn rc) (.int .i64 v) (.int .i64 b) (.int .i64 i) (.slice la ln lc) (.bool m) := ⟨_, rfl⟩
    have hr5 := setR_at0 HRB1.out (.int .i64 x) (.slice ra rn rc) (.int .i64 v) (.int .i64 b) (.int .i64 i) (.slice la ln lc) (.bool m)
    have hF5 := (Frm.refl (fun b => b = w.heap.size + 1) w1).setR (R := w.heap.size + 1) (.inl rfl) (.int .i64 x) (.slice ra rn rc) (.int .i64 v) (.int .i64 b) (.int .i64 i) (.slice la ln lc) (.bool m)
    rw [← hW5] at hr5 hF5
    unfold setR at hW5
    rw [← hW5]
    refine bodyPost_ret (ret_rep rfl _ _ (w.heap.size + 1) rfl hr5) rfl ?_
    exact do_end HST.out HF0.out HSZ.out HQ.out HFR.out hF5
  · obtain ⟨wa, hwa⟩ : ∃ wa, wa = (w.alloc (.cells #[.int .i64 6, .string ky, .slice a n c, .int .i64 vr, .int .i64 at_, .int .i64 nn, .int .i64 id] 29)).alloc (.cells zrep 35) := ⟨_, rfl⟩
    have ez : wa.heap.size = w.heap.size + 2 := by rw [hwa]; simp
    have hbe : Below w.heap.size w wa := by rw [hwa]; exact ((Below.refl _ _).alloc (Nat.le_refl _) _).alloc (by simp) _
    have hcb : wa.heap[w.heap.size]? = some (.cells #[.int .i64 6, .string ky, .slice a n c, .int .i64 vr, .int .i64 at_, .int .i64 nn, .int .i64 id] 29 (0, 0)) := by
      rw [hwa]; exact (Below.heap_alloc _ _ _ (by simp)).trans (heap_new w _)
    have hrb : wa.heap[w.heap.size + 1]? = some (.cells zrep 35 (0, 0)) := by
      have := heap_new (w.alloc (.cells #[.int .i64 6, .string ky, .slice a n c, .int .i64 vr, .int .i64 at_, .int .i64 nn, .int .i64 id] 29)) (.cells zrep 35)
      rw [← hwa] at this
      rwa [show (w.alloc (.cells #[.int .i64 6, .string ky, .slice a n c, .int .i64 vr, .int .i64 at_, .int .i64 nn, .int .i64 id] 29)).heap.size = w.heap.size + 1 by simp] at this
    obtain ⟨hst, hfr⟩ := made_maps h wa hbe
    obtain ⟨W0, hW0⟩ : ∃ W0, W0 = (((wa.setCell ⟨s, 0, none⟩ (.map (some wa.heap.size))).setCell ⟨s, 1, none⟩ (.map (some (wa.heap.size + 1)))).alloc (.map #[] 0)).alloc (.map #[] 0) := ⟨_, rfl⟩
    rw [← hW0] at hst hfr
    have hfa : Frm (fun b => b = s) wa W0 := by
      rw [hW0]
      exact ((((Frm.refl (fun b => b = s) wa).set (p := s) (.inl rfl) 0 _).set (p := s) (.inl rfl) 1 _).below ((Below.refl _ _).alloc (Nat.le_refl _) _)).below ((Below.refl _ _).alloc (Nat.le_refl _) _)
    rw [ez, ← hMo, show Mo + 1 = Mu from by omega, ← he] at hst
    have hsz0 : w.heap.size + 2 ≤ W0.heap.size := by have := hfa.size; omega
    have hrb0 : W0.heap[w.heap.size + 1]? = some (.cells zrep 35 (0, 0)) := hfa.at hrb (by omega)
    have HC := Lib.hid (HM.out W0 hst hfr hsz0)
    have HST := Lib.hid hst
    have HF0 := Lib.hid hfr
    have HSZ := Lib.hid hsz0
    have HRB := Lib.hid hrb0
    have HNR := Lib.hid (show ¬ StF s Mo Mu σ (w.heap.size + 1) from fun hb => by
      rw [he] at hb
      rcases hb with g | g | g | ⟨p, hp, g⟩
      · omega
      · omega
      · omega
      · cases hp)
    have hla : wa.heap[s]? = some (.cells (freC mu σ.now) 61 (0, 0)) := (hbe.block s hs).trans h
    have c0 := cell_blk2 h (i := 0) (u := .map none) rfl
    have hmk := @run_makeMap Try.prog
    have MO := Lib.hid hMo
    have MU := Lib.hid hMu
    have hs1 : s < wa.heap.size := Nat.lt_of_lt_of_le hs hbe.size
    have hk1 : w.heap.size < wa.heap.size := by omega
    have HLA := Lib.hid hla
    have HCB := Lib.hid hcb
    have EZ := Lib.hid ez
    have HWA := Lib.hid hwa
    clear hmu h HM hst hfr hsz0 hrb0 hfa hcb hrb hbe he hMo hMu hla hwa ez
    go_enter Try.func12, Try.ntmps12
    go_upto_region 4 with fail
    have hwa2 := HWA.out
    unfold zrep at hwa2
    rw [← hwa2]
    clear hwa2 c0
    have c0 := cell_blk2 HLA.out (i := 0) (u := .map none) rfl
    have c1 := cell_blk2 HLA.out (i := 1) (u := .map mu) rfl
    have f0 := fro_blk2 HLA.out 0
    have f1 := fro_blk2 HLA.out 1
    have k0 := cell_blk2 HCB.out (i := 0) (u := .int .i64 6) rfl
    have k1 := cell_blk2 HCB.out (i := 1) (u := .string ky) rfl
    have k2 := cell_blk2 HCB.out (i := 2) (u := .slice a n c) rfl
    have k3 := cell_blk2 HCB.out (i := 3) (u := .int .i64 vr) rfl
    have k4 := cell_blk2 HCB.out (i := 4) (u := .int .i64 at_) rfl
    have k5 := cell_blk2 HCB.out (i := 5) (u := .int .i64 nn) rfl
    have k6 := cell_blk2 HCB.out (i := 6) (u := .int .i64 id) rfl
    go_wp2_with fail
    rw [← hW0]
    clear hW0 c0 c1 f0 f1 k0 k1 k2 k3 k4 k5 k6 hmk hs1 hk1
    refine HC.out.mono ?_
    rintro e w1 ⟨⟨x, ra, rn, rc, v, b, i, la, ln, lc, m, rfl⟩, hq, hfr⟩
    have hrb1 : w1.heap[w.heap.size + 1]? = some (.cells zrep 35 (0, 0)) := hfr.at HRB.out (fun hb => HNR.out hb)
    obtain ⟨⟨q0, q1, q2, q3, q4, q5, q6⟩, r0, r1, r2, r3, r4, r5, r6⟩ := rb_cells hrb1
    have HQ := Lib.hid hq
    have HFR := Lib.hid hfr
    have HRB1 := Lib.hid hrb1
    clear hq hfr hrb1
    go_wp2_with fail
    clear q0 q1 q2 q3 q4 q5 q6 r0 r1 r2 r3 r4 r5 r6
    obtain ⟨W5, hW5⟩ : ∃ W5, W5 = setR w1 (w.heap.size + 1) (.int .i64 x) (.slice ra rn rc) (.int .i64 v) (.int .i64 b) (.int .i64 i) (.slice la ln lc) (.bool m) := ⟨_, rfl⟩
    have hr5 := setR_at0 HRB1.out (.int .i64 x) (.slice ra rn rc) (.int .i64 v) (.int .i64 b) (.int .i64 i) (.slice la ln lc) (.bool m)
    have hF5 := (Frm.refl (fun b => b = w.heap.size + 1) w1).setR (R := w.heap.size + 1) (.inl rfl) (.int .i64 x) (.slice ra rn rc) (.int .i64 v) (.int .i64 b) (.int .i64 i) (.slice la ln lc) (.bool m)
    rw [← hW5] at hr5 hF5
    unfold setR at hW5
    rw [← hW5]
    refine bodyPost_ret (ret_rep rfl _ _ (w.heap.size + 1) rfl hr5) rfl ?_
    exact do_end HST.out HF0.out HSZ.out HQ.out HFR.out hF5
set_option maxRecDepth 100000 in
set_option maxHeartbeats 4000000 in
theorem do_7 {w : World} {s Mo Mu : Nat} {σ : Sto} (h : SAt w s Mo Mu σ) {vr at_ nn id : Int} {ky : ByteArray} {a : Option Addr} {n c : Nat} {Q : World → Ending → World → Prop} (hm : DoMeth w s Mo Mu σ 28 #[.int .i64 7, .string ky, .slice a n c, .int .i64 vr, .int .i64 at_, .int .i64 nn, .int .i64 id] Q) :
    Calls Try.prog 12 #[.pointer (some ⟨s, 0, none⟩), .agg #[.int .i64 7, .string ky, .slice a n c, .int .i64 vr, .int .i64 at_, .int .i64 nn, .int .i64 id]] w (DoOut w s Mo Mu σ Q) := by
  have hs := h.lts
  have HM := Lib.hid hm
  have hmn := map_nil 58 _ _ Try.underlying58
  clear hm
  rcases h with h | ⟨⟨mu, h, hmu⟩, he, hMo, hMu⟩
  · have E := ent_mk h #[.int .i64 7, .string ky, .slice a n c, .int .i64 vr, .int .i64 at_, .int .i64 nn, .int .i64 id]
    obtain ⟨W0, hW0⟩ : ∃ W0, W0 = (w.alloc (.cells #[.int .i64 7, .string ky, .slice a n c, .int .i64 vr, .int .i64 at_, .int .i64 nn, .int .i64 id] 29)).alloc (.cells zrep 35) := ⟨_, rfl⟩
    rw [← hW0] at E
    have HC := Lib.hid (HM.out W0 E.st (Frm.ofBelow E.bel) (by rw [E.sz]; exact Nat.le_refl _))
    have HST := Lib.hid E.st
    have HF0 := Lib.hid (Frm.ofBelow (F := fun b => b = s) E.bel)
    have HSZ := Lib.hid (show w.heap.size + 2 ≤ W0.heap.size by rw [E.sz]; exact Nat.le_refl _)
    have HRB := Lib.hid E.rb
    have HNR := Lib.hid (show ¬ StF s Mo Mu σ (w.heap.size + 1) from fun hb => by have := h.lt hb; omega)
    have c0 := cell_blk2 h.blk (i := 0) (u := .map (some Mo)) rfl
    have hq2 : ∀ j u, (#[.int .i64 7, .string ky, .slice a n c, .int .i64 vr, .int .i64 at_, .int .i64 nn, .int .i64 id] : Array Value)[j]? = some u → W0.cell? ⟨w.heap.size, j, none⟩ = some u := fun j u hu => cell_blk2 E.cb hu
    clear h HM E
    go_enter Try.func12, Try.ntmps12
    go_wp2_with fail
    unfold zrep at hW0
    rw [← hW0]
    clear hW0 c0 hq2
    refine HC.out.mono ?_
    rintro e w1 ⟨⟨x, ra, rn, rc, v, b, i, la, ln, lc, m, rfl⟩, hq, hfr⟩
    have hrb1 : w1.heap[w.heap.size + 1]? = some (.cells zrep 35 (0, 0)) := hfr.at HRB.out (fun hb => HNR.out hb)
    obtain ⟨⟨q0, q1, q2, q3, q4, q5, q6⟩, r0, r1, r2, r3, r4, r5, r6⟩ := rb_cells hrb1
    have HQ := Lib.hid hq
    have HFR := Lib.hid hfr
    have HRB1 := Lib.hid hrb1
    clear hq hfr hrb1
    go_wp2_with fail
    clear q0 q1 q2 q3 q4 q5 q6 r0 r1 r2 r3 r4 r5 r6
    obtain ⟨W5, hW5⟩ : ∃ W5, W5 = setR w1 (w.heap.size + 1) (.int .i64 x) (.slice ra rn rc) (.int .i64 v) (.int .i64 b) (.int .i64 i) (.slice la ln lc) (.bool m) := ⟨_, rfl⟩
    have hr5 := setR_at0 HRB1.out (.int .i64 x) (.slice ra rn rc) (.int .i64 v) (.int .i64 b) (.int .i64 i) (.slice la ln lc) (.bool m)
    have hF5 := (Frm.refl (fun b => b = w.heap.size + 1) w1).setR (R := w.heap.size + 1) (.inl rfl) (.int .i64 x) (.slice ra rn rc) (.int .i64 v) (.int .i64 b) (.int .i64 i) (.slice la ln lc) (.bool m)
    rw [← hW5] at hr5 hF5
    unfold setR at hW5
    rw [← hW5]
    refine bodyPost_ret (ret_rep rfl _ _ (w.heap.size + 1) rfl hr5) rfl ?_
    exact do_end HST.out HF0.out HSZ.out HQ.out HFR.out hF5
  · obtain ⟨wa, hwa⟩ : ∃ wa, wa = (w.alloc (.cells #[.int .i64 7, .string ky, .slice a n c, .int .i64 vr, .int .i64 at_, .int .i64 nn, .int .i64 id] 29)).alloc (.cells zrep 35) := ⟨_, rfl⟩
    have ez : wa.heap.size = w.heap.size + 2 := by rw [hwa]; simp
    have hbe : Below w.heap.size w wa := by rw [hwa]; exact ((Below.refl _ _).alloc (Nat.le_refl _) _).alloc (by simp) _
    have hcb : wa.heap[w.heap.size]? = some (.cells #[.int .i64 7, .string ky, .slice a n c, .int .i64 vr, .int .i64 at_, .int .i64 nn, .int .i64 id] 29 (0, 0)) := by
      rw [hwa]; exact (Below.heap_alloc _ _ _ (by simp)).trans (heap_new w _)
    have hrb : wa.heap[w.heap.size + 1]? = some (.cells zrep 35 (0, 0)) := by
      have := heap_new (w.alloc (.cells #[.int .i64 7, .string ky, .slice a n c, .int .i64 vr, .int .i64 at_, .int .i64 nn, .int .i64 id] 29)) (.cells zrep 35)
      rw [← hwa] at this
      rwa [show (w.alloc (.cells #[.int .i64 7, .string ky, .slice a n c, .int .i64 vr, .int .i64 at_, .int .i64 nn, .int .i64 id] 29)).heap.size = w.heap.size + 1 by simp] at this
    obtain ⟨hst, hfr⟩ := made_maps h wa hbe
    obtain ⟨W0, hW0⟩ : ∃ W0, W0 = (((wa.setCell ⟨s, 0, none⟩ (.map (some wa.heap.size))).setCell ⟨s, 1, none⟩ (.map (some (wa.heap.size + 1)))).alloc (.map #[] 0)).alloc (.map #[] 0) := ⟨_, rfl⟩
    rw [← hW0] at hst hfr
    have hfa : Frm (fun b => b = s) wa W0 := by
      rw [hW0]
      exact ((((Frm.refl (fun b => b = s) wa).set (p := s) (.inl rfl) 0 _).set (p := s) (.inl rfl) 1 _).below ((Below.refl _ _).alloc (Nat.le_refl _) _)).below ((Below.refl _ _).alloc (Nat.le_refl _) _)
    rw [ez, ← hMo, show Mo + 1 = Mu from by omega, ← he] at hst
    have hsz0 : w.heap.size + 2 ≤ W0.heap.size := by have := hfa.size; omega
    have hrb0 : W0.heap[w.heap.size + 1]? = some (.cells zrep 35 (0, 0)) := hfa.at hrb (by omega)
    have HC := Lib.hid (HM.out W0 hst hfr hsz0)
    have HST := Lib.hid hst
    have HF0 := Lib.hid hfr
    have HSZ := Lib.hid hsz0
    have HRB := Lib.hid hrb0
    have HNR := Lib.hid (show ¬ StF s Mo Mu σ (w.heap.size + 1) from fun hb => by
      rw [he] at hb
      rcases hb with g | g | g | ⟨p, hp, g⟩
      · omega
      · omega
      · omega
      · cases hp)
    have hla : wa.heap[s]? = some (.cells (freC mu σ.now) 61 (0, 0)) := (hbe.block s hs).trans h
    have c0 := cell_blk2 h (i := 0) (u := .map none) rfl
    have hmk := @run_makeMap Try.prog
    have MO := Lib.hid hMo
    have MU := Lib.hid hMu
    have hs1 : s < wa.heap.size := Nat.lt_of_lt_of_le hs hbe.size
    have hk1 : w.heap.size < wa.heap.size := by omega
    have HLA := Lib.hid hla
    have HCB := Lib.hid hcb
    have EZ := Lib.hid ez
    have HWA := Lib.hid hwa
    clear hmu h HM hst hfr hsz0 hrb0 hfa hcb hrb hbe he hMo hMu hla hwa ez
    go_enter Try.func12, Try.ntmps12
    go_upto_region 4 with fail
    have hwa2 := HWA.out
    unfold zrep at hwa2
    rw [← hwa2]
    clear hwa2 c0
    have c0 := cell_blk2 HLA.out (i := 0) (u := .map none) rfl
    have c1 := cell_blk2 HLA.out (i := 1) (u := .map mu) rfl
    have f0 := fro_blk2 HLA.out 0
    have f1 := fro_blk2 HLA.out 1
    have k0 := cell_blk2 HCB.out (i := 0) (u := .int .i64 7) rfl
    have k1 := cell_blk2 HCB.out (i := 1) (u := .string ky) rfl
    have k2 := cell_blk2 HCB.out (i := 2) (u := .slice a n c) rfl
    have k3 := cell_blk2 HCB.out (i := 3) (u := .int .i64 vr) rfl
    have k4 := cell_blk2 HCB.out (i := 4) (u := .int .i64 at_) rfl
    have k5 := cell_blk2 HCB.out (i := 5) (u := .int .i64 nn) rfl
    have k6 := cell_blk2 HCB.out (i := 6) (u := .int .i64 id) rfl
    go_wp2_with fail
    rw [← hW0]
    clear hW0 c0 c1 f0 f1 k0 k1 k2 k3 k4 k5 k6 hmk hs1 hk1
    refine HC.out.mono ?_
    rintro e w1 ⟨⟨x, ra, rn, rc, v, b, i, la, ln, lc, m, rfl⟩, hq, hfr⟩
    have hrb1 : w1.heap[w.heap.size + 1]? = some (.cells zrep 35 (0, 0)) := hfr.at HRB.out (fun hb => HNR.out hb)
    obtain ⟨⟨q0, q1, q2, q3, q4, q5, q6⟩, r0, r1, r2, r3, r4, r5, r6⟩ := rb_cells hrb1
    have HQ := Lib.hid hq
    have HFR := Lib.hid hfr
    have HRB1 := Lib.hid hrb1
    clear hq hfr hrb1
    go_wp2_with fail
    clear q0 q1 q2 q3 q4 q5 q6 r0 r1 r2 r3 r4 r5 r6
    obtain ⟨W5, hW5⟩ : ∃ W5, W5 = setR w1 (w.heap.size + 1) (.int .i64 x) (.slice ra rn rc) (.int .i64 v) (.int .i64 b) (.int .i64 i) (.slice la ln lc) (.bool m) := ⟨_, rfl⟩
    have hr5 := setR_at0 HRB1.out (.int .i64 x) (.slice ra rn rc) (.int .i64 v) (.int .i64 b) (.int .i64 i) (.slice la ln lc) (.bool m)
    have hF5 := (Frm.refl (fun b => b = w.heap.size + 1) w1).setR (R := w.heap.size + 1) (.inl rfl) (.int .i64 x) (.slice ra rn rc) (.int .i64 v) (.int .i64 b) (.int .i64 i) (.slice la ln lc) (.bool m)
    rw [← hW5] at hr5 hF5
    unfold setR at hW5
    rw [← hW5]
    refine bodyPost_ret (ret_rep rfl _ _ (w.heap.size + 1) rfl hr5) rfl ?_
    exact do_end HST.out HF0.out HSZ.out HQ.out HFR.out hF5
set_option maxRecDepth 100000 in
set_option maxHeartbeats 4000000 in
theorem do_8 {w : World} {s Mo Mu : Nat} {σ : Sto} (h : SAt w s Mo Mu σ) {vr at_ nn id : Int} {ky : ByteArray} {a : Option Addr} {n c : Nat} {Q : World → Ending → World → Prop} (hm : DoMeth w s Mo Mu σ 29 #[.int .i64 8, .string ky, .slice a n c, .int .i64 vr, .int .i64 at_, .int .i64 nn, .int .i64 id] Q) :
    Calls Try.prog 12 #[.pointer (some ⟨s, 0, none⟩), .agg #[.int .i64 8, .string ky, .slice a n c, .int .i64 vr, .int .i64 at_, .int .i64 nn, .int .i64 id]] w (DoOut w s Mo Mu σ Q) := by
  have hs := h.lts
  have HM := Lib.hid hm
  have hmn := map_nil 58 _ _ Try.underlying58
  clear hm
  rcases h with h | ⟨⟨mu, h, hmu⟩, he, hMo, hMu⟩
  · have E := ent_mk h #[.int .i64 8, .string ky, .slice a n c, .int .i64 vr, .int .i64 at_, .int .i64 nn, .int .i64 id]
    obtain ⟨W0, hW0⟩ : ∃ W0, W0 = (w.alloc (.cells #[.int .i64 8, .string ky, .slice a n c, .int .i64 vr, .int .i64 at_, .int .i64 nn, .int .i64 id] 29)).alloc (.cells zrep 35) := ⟨_, rfl⟩
    rw [← hW0] at E
    have HC := Lib.hid (HM.out W0 E.st (Frm.ofBelow E.bel) (by rw [E.sz]; exact Nat.le_refl _))
    have HST := Lib.hid E.st
    have HF0 := Lib.hid (Frm.ofBelow (F := fun b => b = s) E.bel)
    have HSZ := Lib.hid (show w.heap.size + 2 ≤ W0.heap.size by rw [E.sz]; exact Nat.le_refl _)
    have HRB := Lib.hid E.rb
    have HNR := Lib.hid (show ¬ StF s Mo Mu σ (w.heap.size + 1) from fun hb => by have := h.lt hb; omega)
    have c0 := cell_blk2 h.blk (i := 0) (u := .map (some Mo)) rfl
    have hq2 : ∀ j u, (#[.int .i64 8, .string ky, .slice a n c, .int .i64 vr, .int .i64 at_, .int .i64 nn, .int .i64 id] : Array Value)[j]? = some u → W0.cell? ⟨w.heap.size, j, none⟩ = some u := fun j u hu => cell_blk2 E.cb hu
    clear h HM E
    go_enter Try.func12, Try.ntmps12
    go_wp2_with fail
    unfold zrep at hW0
    rw [← hW0]
    clear hW0 c0 hq2
    refine HC.out.mono ?_
    rintro e w1 ⟨⟨x, ra, rn, rc, v, b, i, la, ln, lc, m, rfl⟩, hq, hfr⟩
    have hrb1 : w1.heap[w.heap.size + 1]? = some (.cells zrep 35 (0, 0)) := hfr.at HRB.out (fun hb => HNR.out hb)
    obtain ⟨⟨q0, q1, q2, q3, q4, q5, q6⟩, r0, r1, r2, r3, r4, r5, r6⟩ := rb_cells hrb1
    have HQ := Lib.hid hq
    have HFR := Lib.hid hfr
    have HRB1 := Lib.hid hrb1
    clear hq hfr hrb1
    go_wp2_with fail
    clear q0 q1 q2 q3 q4 q5 q6 r0 r1 r2 r3 r4 r5 r6
    obtain ⟨W5, hW5⟩ : ∃ W5, W5 = setR w1 (w.heap.size + 1) (.int .i64 x) (.slice ra rn rc) (.int .i64 v) (.int .i64 b) (.int .i64 i) (.slice la ln lc) (.bool m) := ⟨_, rfl⟩
    have hr5 := setR_at0 HRB1.out (.int .i64 x) (.slice ra rn rc) (.int .i64 v) (.int .i64 b) (.int .i64 i) (.slice la ln lc) (.bool m)
    have hF5 := (Frm.refl (fun b => b = w.heap.size + 1) w1).setR (R := w.heap.size + 1) (.inl rfl) (.int .i64 x) (.slice ra rn rc) (.int .i64 v) (.int .i64 b) (.int .i64 i) (.slice la ln lc) (.bool m)
    rw [← hW5] at hr5 hF5
    unfold setR at hW5
    rw [← hW5]
    refine bodyPost_ret (ret_rep rfl _ _ (w.heap.size + 1) rfl hr5) rfl ?_
    exact do_end HST.out HF0.out HSZ.out HQ.out HFR.out hF5
  · obtain ⟨wa, hwa⟩ : ∃ wa, wa = (w.alloc (.cells #[.int .i64 8, .string ky, .slice a n c, .int .i64 vr, .int .i64 at_, .int .i64 nn, .int .i64 id] 29)).alloc (.cells zrep 35) := ⟨_, rfl⟩
    have ez : wa.heap.size = w.heap.size + 2 := by rw [hwa]; simp
    have hbe : Below w.heap.size w wa := by rw [hwa]; exact ((Below.refl _ _).alloc (Nat.le_refl _) _).alloc (by simp) _
    have hcb : wa.heap[w.heap.size]? = some (.cells #[.int .i64 8, .string ky, .slice a n c, .int .i64 vr, .int .i64 at_, .int .i64 nn, .int .i64 id] 29 (0, 0)) := by
      rw [hwa]; exact (Below.heap_alloc _ _ _ (by simp)).trans (heap_new w _)
    have hrb : wa.heap[w.heap.size + 1]? = some (.cells zrep 35 (0, 0)) := by
      have := heap_new (w.alloc (.cells #[.int .i64 8, .string ky, .slice a n c, .int .i64 vr, .int .i64 at_, .int .i64 nn, .int .i64 id] 29)) (.cells zrep 35)
      rw [← hwa] at this
      rwa [show (w.alloc (.cells #[.int .i64 8, .string ky, .slice a n c, .int .i64 vr, .int .i64 at_, .int .i64 nn, .int .i64 id] 29)).heap.size = w.heap.size + 1 by simp] at this
    obtain ⟨hst, hfr⟩ := made_maps h wa hbe
    obtain ⟨W0, hW0⟩ : ∃ W0, W0 = (((wa.setCell ⟨s, 0, none⟩ (.map (some wa.heap.size))).setCell ⟨s, 1, none⟩ (.map (some (wa.heap.size + 1)))).alloc (.map #[] 0)).alloc (.map #[] 0) := ⟨_, rfl⟩
    rw [← hW0] at hst hfr
    have hfa : Frm (fun b => b = s) wa W0 := by
      rw [hW0]
      exact ((((Frm.refl (fun b => b = s) wa).set (p := s) (.inl rfl) 0 _).set (p := s) (.inl rfl) 1 _).below ((Below.refl _ _).alloc (Nat.le_refl _) _)).below ((Below.refl _ _).alloc (Nat.le_refl _) _)
    rw [ez, ← hMo, show Mo + 1 = Mu from by omega, ← he] at hst
    have hsz0 : w.heap.size + 2 ≤ W0.heap.size := by have := hfa.size; omega
    have hrb0 : W0.heap[w.heap.size + 1]? = some (.cells zrep 35 (0, 0)) := hfa.at hrb (by omega)
    have HC := Lib.hid (HM.out W0 hst hfr hsz0)
    have HST := Lib.hid hst
    have HF0 := Lib.hid hfr
    have HSZ := Lib.hid hsz0
    have HRB := Lib.hid hrb0
    have HNR := Lib.hid (show ¬ StF s Mo Mu σ (w.heap.size + 1) from fun hb => by
      rw [he] at hb
      rcases hb with g | g | g | ⟨p, hp, g⟩
      · omega
      · omega
      · omega
      · cases hp)
    have hla : wa.heap[s]? = some (.cells (freC mu σ.now) 61 (0, 0)) := (hbe.block s hs).trans h
    have c0 := cell_blk2 h (i := 0) (u := .map none) rfl
    have hmk := @run_makeMap Try.prog
    have MO := Lib.hid hMo
    have MU := Lib.hid hMu
    have hs1 : s < wa.heap.size := Nat.lt_of_lt_of_le hs hbe.size
    have hk1 : w.heap.size < wa.heap.size := by omega
    have HLA := Lib.hid hla
    have HCB := Lib.hid hcb
    have EZ := Lib.hid ez
    have HWA := Lib.hid hwa
    clear hmu h HM hst hfr hsz0 hrb0 hfa hcb hrb hbe he hMo hMu hla hwa ez
    go_enter Try.func12, Try.ntmps12
    go_upto_region 4 with fail
    have hwa2 := HWA.out
    unfold zrep at hwa2
    rw [← hwa2]
    clear hwa2 c0
    have c0 := cell_blk2 HLA.out (i := 0) (u := .map none) rfl
    have c1 := cell_blk2 HLA.out (i := 1) (u := .map mu) rfl
    have f0 := fro_blk2 HLA.out 0
    have f1 := fro_blk2 HLA.out 1
    have k0 := cell_blk2 HCB.out (i := 0) (u := .int .i64 8) rfl
    have k1 := cell_blk2 HCB.out (i := 1) (u := .string ky) rfl
    have k2 := cell_blk2 HCB.out (i := 2) (u := .slice a n c) rfl
    have k3 := cell_blk2 HCB.out (i := 3) (u := .int .i64 vr) rfl
    have k4 := cell_blk2 HCB.out (i := 4) (u := .int .i64 at_) rfl
    have k5 := cell_blk2 HCB.out (i := 5) (u := .int .i64 nn) rfl
    have k6 := cell_blk2 HCB.out (i := 6) (u := .int .i64 id) rfl
    go_wp2_with fail
    rw [← hW0]
    clear hW0 c0 c1 f0 f1 k0 k1 k2 k3 k4 k5 k6 hmk hs1 hk1
    refine HC.out.mono ?_
    rintro e w1 ⟨⟨x, ra, rn, rc, v, b, i, la, ln, lc, m, rfl⟩, hq, hfr⟩
    have hrb1 : w1.heap[w.heap.size + 1]? = some (.cells zrep 35 (0, 0)) := hfr.at HRB.out (fun hb => HNR.out hb)
    obtain ⟨⟨q0, q1, q2, q3, q4, q5, q6⟩, r0, r1, r2, r3, r4, r5, r6⟩ := rb_cells hrb1
    have HQ := Lib.hid hq
    have HFR := Lib.hid hfr
    have HRB1 := Lib.hid hrb1
    clear hq hfr hrb1
    go_wp2_with fail
    clear q0 q1 q2 q3 q4 q5 q6 r0 r1 r2 r3 r4 r5 r6
    obtain ⟨W5, hW5⟩ : ∃ W5, W5 = setR w1 (w.heap.size + 1) (.int .i64 x) (.slice ra rn rc) (.int .i64 v) (.int .i64 b) (.int .i64 i) (.slice la ln lc) (.bool m) := ⟨_, rfl⟩
    have hr5 := setR_at0 HRB1.out (.int .i64 x) (.slice ra rn rc) (.int .i64 v) (.int .i64 b) (.int .i64 i) (.slice la ln lc) (.bool m)
    have hF5 := (Frm.refl (fun b => b = w.heap.size + 1) w1).setR (R := w.heap.size + 1) (.inl rfl) (.int .i64 x) (.slice ra rn rc) (.int .i64 v) (.int .i64 b) (.int .i64 i) (.slice la ln lc) (.bool m)
    rw [← hW5] at hr5 hF5
    unfold setR at hW5
    rw [← hW5]
    refine bodyPost_ret (ret_rep rfl _ _ (w.heap.size + 1) rfl hr5) rfl ?_
    exact do_end HST.out HF0.out HSZ.out HQ.out HFR.out hF5
set_option maxRecDepth 100000 in
set_option maxHeartbeats 4000000 in
theorem do_9 {w : World} {s Mo Mu : Nat} {σ : Sto} (h : SAt w s Mo Mu σ) {vr at_ nn id : Int} {ky : ByteArray} {a : Option Addr} {n c : Nat} {Q : World → Ending → World → Prop} (hm : DoMeth w s Mo Mu σ 30 #[.int .i64 9, .string ky, .slice a n c, .int .i64 vr, .int .i64 at_, .int .i64 nn, .int .i64 id] Q) :
    Calls Try.prog 12 #[.pointer (some ⟨s, 0, none⟩), .agg #[.int .i64 9, .string ky, .slice a n c, .int .i64 vr, .int .i64 at_, .int .i64 nn, .int .i64 id]] w (DoOut w s Mo Mu σ Q) := by
  have hs := h.lts
  have HM := Lib.hid hm
  have hmn := map_nil 58 _ _ Try.underlying58
  clear hm
  rcases h with h | ⟨⟨mu, h, hmu⟩, he, hMo, hMu⟩
  · have E := ent_mk h #[.int .i64 9, .string ky, .slice a n c, .int .i64 vr, .int .i64 at_, .int .i64 nn, .int .i64 id]
    obtain ⟨W0, hW0⟩ : ∃ W0, W0 = (w.alloc (.cells #[.int .i64 9, .string ky, .slice a n c, .int .i64 vr, .int .i64 at_, .int .i64 nn, .int .i64 id] 29)).alloc (.cells zrep 35) := ⟨_, rfl⟩
    rw [← hW0] at E
    have HC := Lib.hid (HM.out W0 E.st (Frm.ofBelow E.bel) (by rw [E.sz]; exact Nat.le_refl _))
    have HST := Lib.hid E.st
    have HF0 := Lib.hid (Frm.ofBelow (F := fun b => b = s) E.bel)
    have HSZ := Lib.hid (show w.heap.size + 2 ≤ W0.heap.size by rw [E.sz]; exact Nat.le_refl _)
    have HRB := Lib.hid E.rb
    have HNR := Lib.hid (show ¬ StF s Mo Mu σ (w.heap.size + 1) from fun hb => by have := h.lt hb; omega)
    have c0 := cell_blk2 h.blk (i := 0) (u := .map (some Mo)) rfl
    have hq2 : ∀ j u, (#[.int .i64 9, .string ky, .slice a n c, .int .i64 vr, .int .i64 at_, .int .i64 nn, .int .i64 id] : Array Value)[j]? = some u → W0.cell? ⟨w.heap.size, j, none⟩ = some u := fun j u hu => cell_blk2 E.cb hu
    clear h HM E
    go_enter Try.func12, Try.ntmps12
    go_wp2_with fail
    unfold zrep at hW0
    rw [← hW0]
    clear hW0 c0 hq2
    refine HC.out.mono ?_
    rintro e w1 ⟨⟨x, ra, rn, rc, v, b, i, la, ln, lc, m, rfl⟩, hq, hfr⟩
    have hrb1 : w1.heap[w.heap.size + 1]? = some (.cells zrep 35 (0, 0)) := hfr.at HRB.out (fun hb => HNR.out hb)
    obtain ⟨⟨q0, q1, q2, q3, q4, q5, q6⟩, r0, r1, r2, r3, r4, r5, r6⟩ := rb_cells hrb1
    have HQ := Lib.hid hq
    have HFR := Lib.hid hfr
    have HRB1 := Lib.hid hrb1
    clear hq hfr hrb1
    go_wp2_with fail
    clear q0 q1 q2 q3 q4 q5 q6 r0 r1 r2 r3 r4 r5 r6
    obtain ⟨W5, hW5⟩ : ∃ W5, W5 = setR w1 (w.heap.size + 1) (.int .i64 x) (.slice ra rn rc) (.int .i64 v) (.int .i64 b) (.int .i64 i) (.slice la ln lc) (.bool m) := ⟨_, rfl⟩
    have hr5 := setR_at0 HRB1.out (.int .i64 x) (.slice ra rn rc) (.int .i64 v) (.int .i64 b) (.int .i64 i) (.slice la ln lc) (.bool m)
    have hF5 := (Frm.refl (fun b => b = w.heap.size + 1) w1).setR (R := w.heap.size + 1) (.inl rfl) (.int .i64 x) (.slice ra rn rc) (.int .i64 v) (.int .i64 b) (.int .i64 i) (.slice la ln lc) (.bool m)
    rw [← hW5] at hr5 hF5
    unfold setR at hW5
    rw [← hW5]
    refine bodyPost_ret (ret_rep rfl _ _ (w.heap.size + 1) rfl hr5) rfl ?_
    exact do_end HST.out HF0.out HSZ.out HQ.out HFR.out hF5
  · obtain ⟨wa, hwa⟩ : ∃ wa, wa = (w.alloc (.cells #[.int .i64 9, .string ky, .slice a n c, .int .i64 vr, .int .i64 at_, .int .i64 nn, .int .i64 id] 29)).alloc (.cells zrep 35) := ⟨_, rfl⟩
    have ez : wa.heap.size = w.heap.size + 2 := by rw [hwa]; simp
    have hbe : Below w.heap.size w wa := by rw [hwa]; exact ((Below.refl _ _).alloc (Nat.le_refl _) _).alloc (by simp) _
    have hcb : wa.heap[w.heap.size]? = some (.cells #[.int .i64 9, .string ky, .slice a n c, .int .i64 vr, .int .i64 at_, .int .i64 nn, .int .i64 id] 29 (0, 0)) := by
      rw [hwa]; exact (Below.heap_alloc _ _ _ (by simp)).trans (heap_new w _)
    have hrb : wa.heap[w.heap.size + 1]? = some (.cells zrep 35 (0, 0)) := by
      have := heap_new (w.alloc (.cells #[.int .i64 9, .string ky, .slice a n c, .int .i64 vr, .int .i64 at_, .int .i64 nn, .int .i64 id] 29)) (.cells zrep 35)
      rw [← hwa] at this
      rwa [show (w.alloc (.cells #[.int .i64 9, .string ky, .slice a n c, .int .i64 vr, .int .i64 at_, .int .i64 nn, .int .i64 id] 29)).heap.size = w.heap.size + 1 by simp] at this
    obtain ⟨hst, hfr⟩ := made_maps h wa hbe
    obtain ⟨W0, hW0⟩ : ∃ W0, W0 = (((wa.setCell ⟨s, 0, none⟩ (.map (some wa.heap.size))).setCell ⟨s, 1, none⟩ (.map (some (wa.heap.size + 1)))).alloc (.map #[] 0)).alloc (.map #[] 0) := ⟨_, rfl⟩
    rw [← hW0] at hst hfr
    have hfa : Frm (fun b => b = s) wa W0 := by
      rw [hW0]
      exact ((((Frm.refl (fun b => b = s) wa).set (p := s) (.inl rfl) 0 _).set (p := s) (.inl rfl) 1 _).below ((Below.refl _ _).alloc (Nat.le_refl _) _)).below ((Below.refl _ _).alloc (Nat.le_refl _) _)
    rw [ez, ← hMo, show Mo + 1 = Mu from by omega, ← he] at hst
    have hsz0 : w.heap.size + 2 ≤ W0.heap.size := by have := hfa.size; omega
    have hrb0 : W0.heap[w.heap.size + 1]? = some (.cells zrep 35 (0, 0)) := hfa.at hrb (by omega)
    have HC := Lib.hid (HM.out W0 hst hfr hsz0)
    have HST := Lib.hid hst
    have HF0 := Lib.hid hfr
    have HSZ := Lib.hid hsz0
    have HRB := Lib.hid hrb0
    have HNR := Lib.hid (show ¬ StF s Mo Mu σ (w.heap.size + 1) from fun hb => by
      rw [he] at hb
      rcases hb with g | g | g | ⟨p, hp, g⟩
      · omega
      · omega
      · omega
      · cases hp)
    have hla : wa.heap[s]? = some (.cells (freC mu σ.now) 61 (0, 0)) := (hbe.block s hs).trans h
    have c0 := cell_blk2 h (i := 0) (u := .map none) rfl
    have hmk := @run_makeMap Try.prog
    have MO := Lib.hid hMo
    have MU := Lib.hid hMu
    have hs1 : s < wa.heap.size := Nat.lt_of_lt_of_le hs hbe.size
    have hk1 : w.heap.size < wa.heap.size := by omega
    have HLA := Lib.hid hla
    have HCB := Lib.hid hcb
    have EZ := Lib.hid ez
    have HWA := Lib.hid hwa
    clear hmu h HM hst hfr hsz0 hrb0 hfa hcb hrb hbe he hMo hMu hla hwa ez
    go_enter Try.func12, Try.ntmps12
    go_upto_region 4 with fail
    have hwa2 := HWA.out
    unfold zrep at hwa2
    rw [← hwa2]
    clear hwa2 c0
    have c0 := cell_blk2 HLA.out (i := 0) (u := .map none) rfl
    have c1 := cell_blk2 HLA.out (i := 1) (u := .map mu) rfl
    have f0 := fro_blk2 HLA.out 0
    have f1 := fro_blk2 HLA.out 1
    have k0 := cell_blk2 HCB.out (i := 0) (u := .int .i64 9) rfl
    have k1 := cell_blk2 HCB.out (i := 1) (u := .string ky) rfl
    have k2 := cell_blk2 HCB.out (i := 2) (u := .slice a n c) rfl
    have k3 := cell_blk2 HCB.out (i := 3) (u := .int .i64 vr) rfl
    have k4 := cell_blk2 HCB.out (i := 4) (u := .int .i64 at_) rfl
    have k5 := cell_blk2 HCB.out (i := 5) (u := .int .i64 nn) rfl
    have k6 := cell_blk2 HCB.out (i := 6) (u := .int .i64 id) rfl
    go_wp2_with fail
    rw [← hW0]
    clear hW0 c0 c1 f0 f1 k0 k1 k2 k3 k4 k5 k6 hmk hs1 hk1
    refine HC.out.mono ?_
    rintro e w1 ⟨⟨x, ra, rn, rc, v, b, i, la, ln, lc, m, rfl⟩, hq, hfr⟩
    have hrb1 : w1.heap[w.heap.size + 1]? = some (.cells zrep 35 (0, 0)) := hfr.at HRB.out (fun hb => HNR.out hb)
    obtain ⟨⟨q0, q1, q2, q3, q4, q5, q6⟩, r0, r1, r2, r3, r4, r5, r6⟩ := rb_cells hrb1
    have HQ := Lib.hid hq
    have HFR := Lib.hid hfr
    have HRB1 := Lib.hid hrb1
    clear hq hfr hrb1
    go_wp2_with fail
    clear q0 q1 q2 q3 q4 q5 q6 r0 r1 r2 r3 r4 r5 r6
    obtain ⟨W5, hW5⟩ : ∃ W5, W5 = setR w1 (w.heap.size + 1) (.int .i64 x) (.slice ra rn rc) (.int .i64 v) (.int .i64 b) (.int .i64 i) (.slice la ln lc) (.bool m) := ⟨_, rfl⟩
    have hr5 := setR_at0 HRB1.out (.int .i64 x) (.slice ra rn rc) (.int .i64 v) (.int .i64 b) (.int .i64 i) (.slice la ln lc) (.bool m)
    have hF5 := (Frm.refl (fun b => b = w.heap.size + 1) w1).setR (R := w.heap.size + 1) (.inl rfl) (.int .i64 x) (.slice ra rn rc) (.int .i64 v) (.int .i64 b) (.int .i64 i) (.slice la ln lc) (.bool m)
    rw [← hW5] at hr5 hF5
    unfold setR at hW5
    rw [← hW5]
    refine bodyPost_ret (ret_rep rfl _ _ (w.heap.size + 1) rfl hr5) rfl ?_
    exact do_end HST.out HF0.out HSZ.out HQ.out HFR.out hF5
set_option maxRecDepth 100000 in
set_option maxHeartbeats 4000000 in
theorem do_10 {w : World} {s Mo Mu : Nat} {σ : Sto} (h : SAt w s Mo Mu σ) {vr at_ nn id : Int} {ky : ByteArray} {a : Option Addr} {n c : Nat} {Q : World → Ending → World → Prop} (hm : DoMeth w s Mo Mu σ 31 #[.int .i64 10, .string ky, .slice a n c, .int .i64 vr, .int .i64 at_, .int .i64 nn, .int .i64 id] Q) :
    Calls Try.prog 12 #[.pointer (some ⟨s, 0, none⟩), .agg #[.int .i64 10, .string ky, .slice a n c, .int .i64 vr, .int .i64 at_, .int .i64 nn, .int .i64 id]] w (DoOut w s Mo Mu σ Q) := by
  have hs := h.lts
  have HM := Lib.hid hm
  have hmn := map_nil 58 _ _ Try.underlying58
  clear hm
  rcases h with h | ⟨⟨mu, h, hmu⟩, he, hMo, hMu⟩
  · have E := ent_mk h #[.int .i64 10, .string ky, .slice a n c, .int .i64 vr, .int .i64 at_, .int .i64 nn, .int .i64 id]
    obtain ⟨W0, hW0⟩ : ∃ W0, W0 = (w.alloc (.cells #[.int .i64 10, .string ky, .slice a n c, .int .i64 vr, .int .i64 at_, .int .i64 nn, .int .i64 id] 29)).alloc (.cells zrep 35) := ⟨_, rfl⟩
    rw [← hW0] at E
    have HC := Lib.hid (HM.out W0 E.st (Frm.ofBelow E.bel) (by rw [E.sz]; exact Nat.le_refl _))
    have HST := Lib.hid E.st
    have HF0 := Lib.hid (Frm.ofBelow (F := fun b => b = s) E.bel)
    have HSZ := Lib.hid (show w.heap.size + 2 ≤ W0.heap.size by rw [E.sz]; exact Nat.le_refl _)
    have HRB := Lib.hid E.rb
    have HNR := Lib.hid (show ¬ StF s Mo Mu σ (w.heap.size + 1) from fun hb => by have := h.lt hb; omega)
    have c0 := cell_blk2 h.blk (i := 0) (u := .map (some Mo)) rfl
    have hq2 : ∀ j u, (#[.int .i64 10, .string ky, .slice a n c, .int .i64 vr, .int .i64 at_, .int .i64 nn, .int .i64 id] : Array Value)[j]? = some u → W0.cell? ⟨w.heap.size, j, none⟩ = some u := fun j u hu => cell_blk2 E.cb hu
    clear h HM E
    go_enter Try.func12, Try.ntmps12
    go_wp2_with fail
    unfold zrep at hW0
    rw [← hW0]
    clear hW0 c0 hq2
    refine HC.out.mono ?_
    rintro e w1 ⟨⟨x, ra, rn, rc, v, b, i, la, ln, lc, m, rfl⟩, hq, hfr⟩
    have hrb1 : w1.heap[w.heap.size + 1]? = some (.cells zrep 35 (0, 0)) := hfr.at HRB.out (fun hb => HNR.out hb)
    obtain ⟨⟨q0, q1, q2, q3, q4, q5, q6⟩, r0, r1, r2, r3, r4, r5, r6⟩ := rb_cells hrb1
    have HQ := Lib.hid hq
    have HFR := Lib.hid hfr
    have HRB1 := Lib.hid hrb1
    clear hq hfr hrb1
    go_wp2_with fail
    clear q0 q1 q2 q3 q4 q5 q6 r0 r1 r2 r3 r4 r5 r6
    obtain ⟨W5, hW5⟩ : ∃ W5, W5 = setR w1 (w.heap.size + 1) (.int .i64 x) (.slice ra rn rc) (.int .i64 v) (.int .i64 b) (.int .i64 i) (.slice la ln lc) (.bool m) := ⟨_, rfl⟩
    have hr5 := setR_at0 HRB1.out (.int .i64 x) (.slice ra rn rc) (.int .i64 v) (.int .i64 b) (.int .i64 i) (.slice la ln lc) (.bool m)
    have hF5 := (Frm.refl (fun b => b = w.heap.size + 1) w1).setR (R := w.heap.size + 1) (.inl rfl) (.int .i64 x) (.slice ra rn rc) (.int .i64 v) (.int .i64 b) (.int .i64 i) (.slice la ln lc) (.bool m)
    rw [← hW5] at hr5 hF5
    unfold setR at hW5
    rw [← hW5]
    refine bodyPost_ret (ret_rep rfl _ _ (w.heap.size + 1) rfl hr5) rfl ?_
    exact do_end HST.out HF0.out HSZ.out HQ.out HFR.out hF5
  · obtain ⟨wa, hwa⟩ : ∃ wa, wa = (w.alloc (.cells #[.int .i64 10, .string ky, .slice a n c, .int .i64 vr, .int .i64 at_, .int .i64 nn, .int .i64 id] 29)).alloc (.cells zrep 35) := ⟨_, rfl⟩
    have ez : wa.heap.size = w.heap.size + 2 := by rw [hwa]; simp
    have hbe : Below w.heap.size w wa := by rw [hwa]; exact ((Below.refl _ _).alloc (Nat.le_refl _) _).alloc (by simp) _
    have hcb : wa.heap[w.heap.size]? = some (.cells #[.int .i64 10, .string ky, .slice a n c, .int .i64 vr, .int .i64 at_, .int .i64 nn, .int .i64 id] 29 (0, 0)) := by
      rw [hwa]; exact (Below.heap_alloc _ _ _ (by simp)).trans (heap_new w _)
    have hrb : wa.heap[w.heap.size + 1]? = some (.cells zrep 35 (0, 0)) := by
      have := heap_new (w.alloc (.cells #[.int .i64 10, .string ky, .slice a n c, .int .i64 vr, .int .i64 at_, .int .i64 nn, .int .i64 id] 29)) (.cells zrep 35)
      rw [← hwa] at this
      rwa [show (w.alloc (.cells #[.int .i64 10, .string ky, .slice a n c, .int .i64 vr, .int .i64 at_, .int .i64 nn, .int .i64 id] 29)).heap.size = w.heap.size + 1 by simp] at this
    obtain ⟨hst, hfr⟩ := made_maps h wa hbe
    obtain ⟨W0, hW0⟩ : ∃ W0, W0 = (((wa.setCell ⟨s, 0, none⟩ (.map (some wa.heap.size))).setCell ⟨s, 1, none⟩ (.map (some (wa.heap.size + 1)))).alloc (.map #[] 0)).alloc (.map #[] 0) := ⟨_, rfl⟩
    rw [← hW0] at hst hfr
    have hfa : Frm (fun b => b = s) wa W0 := by
      rw [hW0]
      exact ((((Frm.refl (fun b => b = s) wa).set (p := s) (.inl rfl) 0 _).set (p := s) (.inl rfl) 1 _).below ((Below.refl _ _).alloc (Nat.le_refl _) _)).below ((Below.refl _ _).alloc (Nat.le_refl _) _)
    rw [ez, ← hMo, show Mo + 1 = Mu from by omega, ← he] at hst
    have hsz0 : w.heap.size + 2 ≤ W0.heap.size := by have := hfa.size; omega
    have hrb0 : W0.heap[w.heap.size + 1]? = some (.cells zrep 35 (0, 0)) := hfa.at hrb (by omega)
    have HC := Lib.hid (HM.out W0 hst hfr hsz0)
    have HST := Lib.hid hst
    have HF0 := Lib.hid hfr
    have HSZ := Lib.hid hsz0
    have HRB := Lib.hid hrb0
    have HNR := Lib.hid (show ¬ StF s Mo Mu σ (w.heap.size + 1) from fun hb => by
      rw [he] at hb
      rcases hb with g | g | g | ⟨p, hp, g⟩
      · omega
      · omega
      · omega
      · cases hp)
    have hla : wa.heap[s]? = some (.cells (freC mu σ.now) 61 (0, 0)) := (hbe.block s hs).trans h
    have c0 := cell_blk2 h (i := 0) (u := .map none) rfl
    have hmk := @run_makeMap Try.prog
    have MO := Lib.hid hMo
    have MU := Lib.hid hMu
    have hs1 : s < wa.heap.size := Nat.lt_of_lt_of_le hs hbe.size
    have hk1 : w.heap.size < wa.heap.size := by omega
    have HLA := Lib.hid hla
    have HCB := Lib.hid hcb
    have EZ := Lib.hid ez
    have HWA := Lib.hid hwa
    clear hmu h HM hst hfr hsz0 hrb0 hfa hcb hrb hbe he hMo hMu hla hwa ez
    go_enter Try.func12, Try.ntmps12
    go_upto_region 4 with fail
    have hwa2 := HWA.out
    unfold zrep at hwa2
    rw [← hwa2]
    clear hwa2 c0
    have c0 := cell_blk2 HLA.out (i := 0) (u := .map none) rfl
    have c1 := cell_blk2 HLA.out (i := 1) (u := .map mu) rfl
    have f0 := fro_blk2 HLA.out 0
    have f1 := fro_blk2 HLA.out 1
    have k0 := cell_blk2 HCB.out (i := 0) (u := .int .i64 10) rfl
    have k1 := cell_blk2 HCB.out (i := 1) (u := .string ky) rfl
    have k2 := cell_blk2 HCB.out (i := 2) (u := .slice a n c) rfl
    have k3 := cell_blk2 HCB.out (i := 3) (u := .int .i64 vr) rfl
    have k4 := cell_blk2 HCB.out (i := 4) (u := .int .i64 at_) rfl
    have k5 := cell_blk2 HCB.out (i := 5) (u := .int .i64 nn) rfl
    have k6 := cell_blk2 HCB.out (i := 6) (u := .int .i64 id) rfl
    go_wp2_with fail
    rw [← hW0]
    clear hW0 c0 c1 f0 f1 k0 k1 k2 k3 k4 k5 k6 hmk hs1 hk1
    refine HC.out.mono ?_
    rintro e w1 ⟨⟨x, ra, rn, rc, v, b, i, la, ln, lc, m, rfl⟩, hq, hfr⟩
    have hrb1 : w1.heap[w.heap.size + 1]? = some (.cells zrep 35 (0, 0)) := hfr.at HRB.out (fun hb => HNR.out hb)
    obtain ⟨⟨q0, q1, q2, q3, q4, q5, q6⟩, r0, r1, r2, r3, r4, r5, r6⟩ := rb_cells hrb1
    have HQ := Lib.hid hq
    have HFR := Lib.hid hfr
    have HRB1 := Lib.hid hrb1
    clear hq hfr hrb1
    go_wp2_with fail
    clear q0 q1 q2 q3 q4 q5 q6 r0 r1 r2 r3 r4 r5 r6
    obtain ⟨W5, hW5⟩ : ∃ W5, W5 = setR w1 (w.heap.size + 1) (.int .i64 x) (.slice ra rn rc) (.int .i64 v) (.int .i64 b) (.int .i64 i) (.slice la ln lc) (.bool m) := ⟨_, rfl⟩
    have hr5 := setR_at0 HRB1.out (.int .i64 x) (.slice ra rn rc) (.int .i64 v) (.int .i64 b) (.int .i64 i) (.slice la ln lc) (.bool m)
    have hF5 := (Frm.refl (fun b => b = w.heap.size + 1) w1).setR (R := w.heap.size + 1) (.inl rfl) (.int .i64 x) (.slice ra rn rc) (.int .i64 v) (.int .i64 b) (.int .i64 i) (.slice la ln lc) (.bool m)
    rw [← hW5] at hr5 hF5
    unfold setR at hW5
    rw [← hW5]
    refine bodyPost_ret (ret_rep rfl _ _ (w.heap.size + 1) rfl hr5) rfl ?_
    exact do_end HST.out HF0.out HSZ.out HQ.out HFR.out hF5
set_option maxRecDepth 100000 in
set_option maxHeartbeats 4000000 in
theorem do_11 {w : World} {s Mo Mu : Nat} {σ : Sto} (h : SAt w s Mo Mu σ) {vr at_ nn id : Int} {ky : ByteArray} {a : Option Addr} {n c : Nat} {Q : World → Ending → World → Prop} (hm : DoMeth w s Mo Mu σ 32 #[.int .i64 11, .string ky, .slice a n c, .int .i64 vr, .int .i64 at_, .int .i64 nn, .int .i64 id] Q) :
    Calls Try.prog 12 #[.pointer (some ⟨s, 0, none⟩), .agg #[.int .i64 11, .string ky, .slice a n c, .int .i64 vr, .int .i64 at_, .int .i64 nn, .int .i64 id]] w (DoOut w s Mo Mu σ Q) := by
  have hs := h.lts
  have HM := Lib.hid hm
  have hmn := map_nil 58 _ _ Try.underlying58
  clear hm
  rcases h with h | ⟨⟨mu, h, hmu⟩, he, hMo, hMu⟩
  · have E := ent_mk h #[.int .i64 11, .string ky, .slice a n c, .int .i64 vr, .int .i64 at_, .int .i64 nn, .int .i64 id]
    obtain ⟨W0, hW0⟩ : ∃ W0, W0 = (w.alloc (.cells #[.int .i64 11, .string ky, .slice a n c, .int .i64 vr, .int .i64 at_, .int .i64 nn, .int .i64 id] 29)).alloc (.cells zrep 35) := ⟨_, rfl⟩
    rw [← hW0] at E
    have HC := Lib.hid (HM.out W0 E.st (Frm.ofBelow E.bel) (by rw [E.sz]; exact Nat.le_refl _))
    have HST := Lib.hid E.st
    have HF0 := Lib.hid (Frm.ofBelow (F := fun b => b = s) E.bel)
    have HSZ := Lib.hid (show w.heap.size + 2 ≤ W0.heap.size by rw [E.sz]; exact Nat.le_refl _)
    have HRB := Lib.hid E.rb
    have HNR := Lib.hid (show ¬ StF s Mo Mu σ (w.heap.size + 1) from fun hb => by have := h.lt hb; omega)
    have c0 := cell_blk2 h.blk (i := 0) (u := .map (some Mo)) rfl
    have hq2 : ∀ j u, (#[.int .i64 11, .string ky, .slice a n c, .int .i64 vr, .int .i64 at_, .int .i64 nn, .int .i64 id] : Array Value)[j]? = some u → W0.cell? ⟨w.heap.size, j, none⟩ = some u := fun j u hu => cell_blk2 E.cb hu
    clear h HM E
    go_enter Try.func12, Try.ntmps12
    go_wp2_with fail
    unfold zrep at hW0
    rw [← hW0]
    clear hW0 c0 hq2
    refine HC.out.mono ?_
    rintro e w1 ⟨⟨x, ra, rn, rc, v, b, i, la, ln, lc, m, rfl⟩, hq, hfr⟩
    have hrb1 : w1.heap[w.heap.size + 1]? = some (.cells zrep 35 (0, 0)) := hfr.at HRB.out (fun hb => HNR.out hb)
    obtain ⟨⟨q0, q1, q2, q3, q4, q5, q6⟩, r0, r1, r2, r3, r4, r5, r6⟩ := rb_cells hrb1
    have HQ := Lib.hid hq
    have HFR := Lib.hid hfr
    have HRB1 := Lib.hid hrb1
    clear hq hfr hrb1
    go_wp2_with fail
    clear q0 q1 q2 q3 q4 q5 q6 r0 r1 r2 r3 r4 r5 r6
    obtain ⟨W5, hW5⟩ : ∃ W5, W5 = setR w1 (w.heap.size + 1) (.int .i64 x) (.slice ra rn rc) (.int .i64 v) (.int .i64 b) (.int .i64 i) (.slice la ln lc) (.bool m) := ⟨_, rfl⟩
    have hr5 := setR_at0 HRB1.out (.int .i64 x) (.slice ra rn rc) (.int .i64 v) (.int .i64 b) (.int .i64 i) (.slice la ln lc) (.bool m)
    have hF5 := (Frm.refl (fun b => b = w.heap.size + 1) w1).setR (R := w.heap.size + 1) (.inl rfl) (.int .i64 x) (.slice ra rn rc) (.int .i64 v) (.int .i64 b) (.int .i64 i) (.slice la ln lc) (.bool m)
    rw [← hW5] at hr5 hF5
    unfold setR at hW5
    rw [← hW5]
    refine bodyPost_ret (ret_rep rfl _ _ (w.heap.size + 1) rfl hr5) rfl ?_
    exact do_end HST.out HF0.out HSZ.out HQ.out HFR.out hF5
  · obtain ⟨wa, hwa⟩ : ∃ wa, wa = (w.alloc (.cells #[.int .i64 11, .string ky, .slice a n c, .int .i64 vr, .int .i64 at_, .int .i64 nn, .int .i64 id] 29)).alloc (.cells zrep 35) := ⟨_, rfl⟩
    have ez : wa.heap.size = w.heap.size + 2 := by rw [hwa]; simp
    have hbe : Below w.heap.size w wa := by rw [hwa]; exact ((Below.refl _ _).alloc (Nat.le_refl _) _).alloc (by simp) _
    have hcb : wa.heap[w.heap.size]? = some (.cells #[.int .i64 11, .string ky, .slice a n c, .int .i64 vr, .int .i64 at_, .int .i64 nn, .int .i64 id] 29 (0, 0)) := by
      rw [hwa]; exact (Below.heap_alloc _ _ _ (by simp)).trans (heap_new w _)
    have hrb : wa.heap[w.heap.size + 1]? = some (.cells zrep 35 (0, 0)) := by
      have := heap_new (w.alloc (.cells #[.int .i64 11, .string ky, .slice a n c, .int .i64 vr, .int .i64 at_, .int .i64 nn, .int .i64 id] 29)) (.cells zrep 35)
      rw [← hwa] at this
      rwa [show (w.alloc (.cells #[.int .i64 11, .string ky, .slice a n c, .int .i64 vr, .int .i64 at_, .int .i64 nn, .int .i64 id] 29)).heap.size = w.heap.size + 1 by simp] at this
    obtain ⟨hst, hfr⟩ := made_maps h wa hbe
    obtain ⟨W0, hW0⟩ : ∃ W0, W0 = (((wa.setCell ⟨s, 0, none⟩ (.map (some wa.heap.size))).setCell ⟨s, 1, none⟩ (.map (some (wa.heap.size + 1)))).alloc (.map #[] 0)).alloc (.map #[] 0) := ⟨_, rfl⟩
    rw [← hW0] at hst hfr
    have hfa : Frm (fun b => b = s) wa W0 := by
      rw [hW0]
      exact ((((Frm.refl (fun b => b = s) wa).set (p := s) (.inl rfl) 0 _).set (p := s) (.inl rfl) 1 _).below ((Below.refl _ _).alloc (Nat.le_refl _) _)).below ((Below.refl _ _).alloc (Nat.le_refl _) _)
    rw [ez, ← hMo, show Mo + 1 = Mu from by omega, ← he] at hst
    have hsz0 : w.heap.size + 2 ≤ W0.heap.size := by have := hfa.size; omega
    have hrb0 : W0.heap[w.heap.size + 1]? = some (.cells zrep 35 (0, 0)) := hfa.at hrb (by omega)
    have HC := Lib.hid (HM.out W0 hst hfr hsz0)
    have HST := Lib.hid hst
    have HF0 := Lib.hid hfr
    have HSZ := Lib.hid hsz0
    have HRB := Lib.hid hrb0
    have HNR := Lib.hid (show ¬ StF s Mo Mu σ (w.heap.size + 1) from fun hb => by
      rw [he] at hb
      rcases hb with g | g | g | ⟨p, hp, g⟩
      · omega
      · omega
      · omega
      · cases hp)
    have hla : wa.heap[s]? = some (.cells (freC mu σ.now) 61 (0, 0)) := (hbe.block s hs).trans h
    have c0 := cell_blk2 h (i := 0) (u := .map none) rfl
    have hmk := @run_makeMap Try.prog
    have MO := Lib.hid hMo
    have MU := Lib.hid hMu
    have hs1 : s < wa.heap.size := Nat.lt_of_lt_of_le hs hbe.size
    have hk1 : w.heap.size < wa.heap.size := by omega
    have HLA := Lib.hid hla
    have HCB := Lib.hid hcb
    have EZ := Lib.hid ez
    have HWA := Lib.hid hwa
    clear hmu h HM hst hfr hsz0 hrb0 hfa hcb hrb hbe he hMo hMu hla hwa ez
    go_enter Try.func12, Try.ntmps12
    go_upto_region 4 with fail
    have hwa2 := HWA.out
    unfold zrep at hwa2
    rw [← hwa2]
    clear hwa2 c0
    have c0 := cell_blk2 HLA.out (i := 0) (u := .map none) rfl
    have c1 := cell_blk2 HLA.out (i := 1) (u := .map mu) rfl
    have f0 := fro_blk2 HLA.out 0
    have f1 := fro_blk2 HLA.out 1
    have k0 := cell_blk2 HCB.out (i := 0) (u := .int .i64 11) rfl
    have k1 := cell_blk2 HCB.out (i := 1) (u := .string ky) rfl
    have k2 := cell_blk2 HCB.out (i := 2) (u := .slice a n c) rfl
    have k3 := cell_blk2 HCB.out (i := 3) (u := .int .i64 vr) rfl
    have k4 := cell_blk2 HCB.out (i := 4) (u := .int .i64 at_) rfl
    have k5 := cell_blk2 HCB.out (i := 5) (u := .int .i64 nn) rfl
    have k6 := cell_blk2 HCB.out (i := 6) (u := .int .i64 id) rfl
    go_wp2_with fail
    rw [← hW0]
    clear hW0 c0 c1 f0 f1 k0 k1 k2 k3 k4 k5 k6 hmk hs1 hk1
    refine HC.out.mono ?_
    rintro e w1 ⟨⟨x, ra, rn, rc, v, b, i, la, ln, lc, m, rfl⟩, hq, hfr⟩
    have hrb1 : w1.heap[w.heap.size + 1]? = some (.cells zrep 35 (0, 0)) := hfr.at HRB.out (fun hb => HNR.out hb)
    obtain ⟨⟨q0, q1, q2, q3, q4, q5, q6⟩, r0, r1, r2, r3, r4, r5, r6⟩ := rb_cells hrb1
    have HQ := Lib.hid hq
    have HFR := Lib.hid hfr
    have HRB1 := Lib.hid hrb1
    clear hq hfr hrb1
    go_wp2_with fail
    clear q0 q1 q2 q3 q4 q5 q6 r0 r1 r2 r3 r4 r5 r6
    obtain ⟨W5, hW5⟩ : ∃ W5, W5 = setR w1 (w.heap.size + 1) (.int .i64 x) (.slice ra rn rc) (.int .i64 v) (.int .i64 b) (.int .i64 i) (.slice la ln lc) (.bool m) := ⟨_, rfl⟩
    have hr5 := setR_at0 HRB1.out (.int .i64 x) (.slice ra rn rc) (.int .i64 v) (.int .i64 b) (.int .i64 i) (.slice la ln lc) (.bool m)
    have hF5 := (Frm.refl (fun b => b = w.heap.size + 1) w1).setR (R := w.heap.size + 1) (.inl rfl) (.int .i64 x) (.slice ra rn rc) (.int .i64 v) (.int .i64 b) (.int .i64 i) (.slice la ln lc) (.bool m)
    rw [← hW5] at hr5 hF5
    unfold setR at hW5
    rw [← hW5]
    refine bodyPost_ret (ret_rep rfl _ _ (w.heap.size + 1) rfl hr5) rfl ?_
    exact do_end HST.out HF0.out HSZ.out HQ.out HFR.out hF5
end Go.Proofs.Ytjafagfhkpaciaa
