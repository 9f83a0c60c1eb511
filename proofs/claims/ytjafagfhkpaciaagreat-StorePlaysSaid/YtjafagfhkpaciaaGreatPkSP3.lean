/- Texts put together by packtpl2.py: StoDo1, GmR, StoSize, StoDrop, OneBox, StoAbt, StoCre, StoBytes, StoPrt. -/
import Derived.Test.YtjafagfhkpaciaaGreatPkSP1
import Derived.Test.YtjafagfhkpaciaaGreatPkSP2
import Derived.WalkSpells
import Derived.Deep.CutBlock
import Derived.Maps.RangeWalk
import Derived.Deep.RegionWith
import Derived.Laws.IdiomStrings
import Derived.MapKept
section PkSP3_0
/- The store's Do, walked: it hands a call to the method of its kind. Written by genstodo2.py. -/
namespace Go.Proofs.YtjafagfhkpaciaaGreat
open Go.RowKit
set_option linter.unusedVariables false

theorem map_nil (mt : TypeId) (k e : TypeId) (h : Tryz.prog.underlying mt = some (.map k e)) (p : Option Nat) (w : World) : (binOp .eql mt (.map p) (.map none)).run Tryz.prog w = .ok (.bool p.isNone) w := by
  have h2 : ∀ d : Nat, (Op.equalIn (d + 1) mt (.map p) (.map none)).run Tryz.prog w = .ok p.isNone w := fun d => by
    cases p <;> simp [Op.equalIn, run_underlying h]
  simp only [binOp]
  simp [show Op.equal mt (.map p) (.map none) = Op.equalIn (9999 + 1) mt (.map p) (.map none) from rfl, h2 9999]
/-- a store that nothing was done to -/
def sto0 (now : Int) : Sto := ⟨[], [], 0, 0, 0, now⟩
def freC (mu : Option Nat) (now : Int) : Array Value := #[.map none, .map mu, .int .i64 0, .int .i64 0, .int .i64 0, .int .i64 now]
/-- a store that nothing was done to: of no maps, or a copy of such a one (its second map made, and empty) -/
def FreshAt (w : World) (s : Nat) (now : Int) : Prop := ∃ mu, w.heap[s]? = some (.cells (freC mu now) 51 (0, 0)) ∧ (mu = none ∨ ∃ m, mu = some m ∧ GM TU ilit uplC w m [])
theorem FreshAt.new {w : World} {s : Nat} {now : Int} (h : w.heap[s]? = some (.cells #[.map none, .map none, .int .i64 0, .int .i64 0, .int .i64 0, .int .i64 now] 51 (0, 0))) : FreshAt w s now := ⟨none, h, .inl rfl⟩
theorem FreshAt.lt {w : World} {s : Nat} {now : Int} (h : FreshAt w s now) : s < w.heap.size := by
  obtain ⟨mu, h, _⟩ := h
  exact (Array.getElem?_eq_some_iff.1 h).1
theorem FreshAt.same {w w' : World} {s : Nat} {now : Int} (h : FreshAt w s now) (e1 : w'.heap[s]? = w.heap[s]?) (e2 : ∀ (m : Nat) (es : Array MapEntry) (c : Nat), w.heap[m]? = some (Obj.map es c) → w'.heap[m]? = w.heap[m]?) : FreshAt w' s now := by
  obtain ⟨mu, h, hm⟩ := h
  refine ⟨mu, e1.trans h, ?_⟩
  rcases hm with rfl | ⟨m, rfl, hm⟩
  · exact .inl rfl
  · obtain ⟨es, c, hb⟩ := gm_obj hm
    exact .inr ⟨m, rfl, hm.same (e2 m es c hb)⟩
theorem FreshAt.below {w w' : World} {s : Nat} {now : Int} (h : FreshAt w s now) (hb : Below w.heap.size w w') : FreshAt w' s now :=
  h.same (hb.block s h.lt) fun m es c hm => hb.block m (Array.getElem?_eq_some_iff.1 hm).1
theorem FreshAt.cell0 {w : World} {s : Nat} {now : Int} (h : FreshAt w s now) : w.cell? ⟨s, 0, none⟩ = some (.map none) := by
  obtain ⟨mu, h, _⟩ := h
  exact cell_blk2 h rfl
theorem FreshAt.cell4 {w : World} {s : Nat} {now : Int} (h : FreshAt w s now) : w.cell? ⟨s, 4, none⟩ = some (.int .i64 0) := by
  obtain ⟨mu, h, _⟩ := h
  exact cell_blk2 h rfl
theorem FreshAt.cell5 {w : World} {s : Nat} {now : Int} (h : FreshAt w s now) : w.cell? ⟨s, 5, none⟩ = some (.int .i64 now) := by
  obtain ⟨mu, h, _⟩ := h
  exact cell_blk2 h rfl
theorem FreshAt.fro {w : World} {s : Nat} {now : Int} (h : FreshAt w s now) (i : Nat) : w.frozen? ⟨s, i, none⟩ = false := by
  obtain ⟨mu, h, _⟩ := h
  exact fro_blk2 h i
theorem FreshAt.set5 {w : World} {s : Nat} {now : Int} (h : FreshAt w s now) (z : Int) : FreshAt (w.setCell ⟨s, 5, none⟩ (.int .i64 z)) s z := by
  obtain ⟨mu, h, hm⟩ := h
  refine ⟨mu, (heap_setCell_same w s 5 _ _ _ h).trans rfl, ?_⟩
  rcases hm with rfl | ⟨m, rfl, hm⟩
  · exact .inl rfl
  · refine .inr ⟨m, rfl, hm.same (Below.heap_setCell w ⟨s, 5, none⟩ _ m (fun e => ?_))⟩
    obtain ⟨es, c, hb⟩ := gm_obj hm
    simp only at e
    rw [e, h] at hb
    cases hb
theorem FreshAt.notStore {w : World} {s : Nat} {now : Int} (h : FreshAt w s now) {cs : Array Value} {t : TypeId} {fr : Nat × Nat} (hb : w.heap[s]? = some (.cells cs t fr)) : t = 51 := by
  obtain ⟨mu, h, _⟩ := h
  rw [hb] at h
  cases h; rfl
/-- a store: its maps are made, or will be at the first call -/
def SAt (w : World) (s Mo Mu : Nat) (σ : Sto) : Prop := StAt w s Mo Mu σ ∨ (FreshAt w s σ.now ∧ σ = sto0 σ.now ∧ Mo = w.heap.size + 2 ∧ Mu = w.heap.size + 3)
theorem SAt.lts {w : World} {s Mo Mu : Nat} {σ : Sto} (h : SAt w s Mo Mu σ) : s < w.heap.size := by
  rcases h with h | h
  · exact h.lts
  · exact h.1.lt
/-- a reply's form -/
def RepShape (e : Ending) : Prop := ∃ (x : Int) (a : Option Addr) (n c : Nat) (v b i : Int) (la : Option Addr) (ln lc : Nat) (m : Bool), e = .returned (.agg #[.int .i64 x, .slice a n c, .int .i64 v, .int .i64 b, .int .i64 i, .slice la ln lc, .bool m])
theorem rep_shape (x : Int) (a : Option Addr) (n c : Nat) (v b i : Int) (la : Option Addr) (ln lc : Nat) (m : Bool) : RepShape (.returned (rep x (.slice a n c) v b i (.slice la ln lc) m)) := ⟨x, a, n, c, v, b, i, la, ln, lc, m, rfl⟩
theorem rep0_shape (x : Int) : RepShape (.returned (rep0 x)) := ⟨x, none, 0, 0, 0, 0, 0, none, 0, 0, false, rfl⟩
/-- what Do leaves: what the method left, but for the reply's box -/
def DoOut (w : World) (s Mo Mu : Nat) (σ : Sto) (Q : World → Ending → World → Prop) (e : Ending) (w5 : World) : Prop :=
  ∃ W0 w1, StAt W0 s Mo Mu σ ∧ Frm (fun b => b = s) w W0 ∧ w.heap.size + 2 ≤ W0.heap.size ∧ Q W0 e w1 ∧ Frm (StF s Mo Mu σ) W0 w1 ∧ Frm (fun b => b = w.heap.size + 1) w1 w5
/-- what Do is told of a method -/
def DoMeth (w : World) (s Mo Mu : Nat) (σ : Sto) (f : FuncId) (cs : Array Value) (Q : World → Ending → World → Prop) : Prop :=
  ∀ W0, StAt W0 s Mo Mu σ → Frm (fun b => b = s) w W0 → w.heap.size + 2 ≤ W0.heap.size → Calls Tryz.prog f #[.pointer (some ⟨s, 0, none⟩), .agg cs] W0 fun e w1 => RepShape e ∧ Q W0 e w1 ∧ Frm (StF s Mo Mu σ) W0 w1
/-- the maps made -/
theorem made_maps {w : World} {s : Nat} {mu : Option Nat} {now : Int} (h : w.heap[s]? = some (.cells (freC mu now) 51 (0, 0))) (W : World) (hb : Below w.heap.size w W) :
    StAt ((((W.setCell ⟨s, 0, none⟩ (.map (some W.heap.size))).setCell ⟨s, 1, none⟩ (.map (some (W.heap.size + 1)))).alloc (.map #[] 0)).alloc (.map #[] 0)) s W.heap.size (W.heap.size + 1) (sto0 now) ∧
    Frm (fun b => b = s) w ((((W.setCell ⟨s, 0, none⟩ (.map (some W.heap.size))).setCell ⟨s, 1, none⟩ (.map (some (W.heap.size + 1)))).alloc (.map #[] 0)).alloc (.map #[] 0)) := by
  have hs := (Array.getElem?_eq_some_iff.1 h).1
  have hsW := Nat.lt_of_lt_of_le hs hb.size
  have h3 := heap_setCell_same _ s 0 _ _ (.map (some W.heap.size)) ((hb.block s hs).trans h)
  have h4 := heap_setCell_same _ s 1 _ _ (.map (some (W.heap.size + 1))) h3
  have hF4 := ((Frm.ofBelow (F := fun b => b = s) hb).set (p := s) (.inl rfl) 0 (.map (some W.heap.size))).set (p := s) (.inl rfl) 1 (.map (some (W.heap.size + 1)))
  obtain ⟨X, hX⟩ : ∃ X, X = (W.setCell ⟨s, 0, none⟩ (.map (some W.heap.size))).setCell ⟨s, 1, none⟩ (.map (some (W.heap.size + 1))) := ⟨_, rfl⟩
  have ex : X.heap.size = W.heap.size := by rw [hX]; simp [World.setCell]
  rw [← hX] at h4 hF4 ⊢
  have e1 : (X.alloc (.map #[] 0)).heap.size = W.heap.size + 1 := by rw [World.size_alloc, ex]
  have b2 : Below X.heap.size X ((X.alloc (.map #[] 0)).alloc (.map #[] 0)) := ((Below.refl _ _).alloc (Nat.le_refl _) _).alloc (by rw [e1, ex]; omega) _
  have hm2 := GM.made TU ilit uplC (X.alloc (.map #[] 0))
  rw [e1] at hm2
  have hm1 := (GM.made TO slit objC X).below (w' := (X.alloc (.map #[] 0)).alloc (.map #[] 0)) ((Below.refl _ _).alloc (Nat.le_refl _) _)
  rw [ex] at hm1
  exact ⟨⟨(b2.block s (by rw [ex]; exact hsW)).trans h4, hm1, hm2, (fun p hp => by cases hp), (by omega), (fun p hp => by cases hp), fun p hp => by cases hp⟩, hF4.below b2⟩
theorem do_end {w W0 w1 W5 : World} {s Mo Mu : Nat} {σ : Sto} {Q : World → Ending → World → Prop} {e : Ending} (h1 : StAt W0 s Mo Mu σ) (h2 : Frm (fun b => b = s) w W0) (h3 : w.heap.size + 2 ≤ W0.heap.size) (h4 : Q W0 e w1) (h5 : Frm (StF s Mo Mu σ) W0 w1) (h6 : Frm (fun b => b = w.heap.size + 1) w1 W5) : DoOut w s Mo Mu σ Q e W5 := ⟨W0, w1, h1, h2, h3, h4, h5, h6⟩
set_option maxRecDepth 100000 in
set_option maxHeartbeats 4000000 in
theorem do_1 {w : World} {s Mo Mu : Nat} {σ : Sto} (h : SAt w s Mo Mu σ) {vr at_ nn id : Int} {ky : ByteArray} {a : Option Addr} {n c : Nat} {Q : World → Ending → World → Prop} (hm : DoMeth w s Mo Mu σ 16 #[.int .i64 1, .string ky, .slice a n c, .int .i64 vr, .int .i64 at_, .int .i64 nn, .int .i64 id] Q) :
    Calls Tryz.prog 11 #[.pointer (some ⟨s, 0, none⟩), .agg #[.int .i64 1, .string ky, .slice a n c, .int .i64 vr, .int .i64 at_, .int .i64 nn, .int .i64 id]] w (DoOut w s Mo Mu σ Q) := by
  have hs := h.lts
  have HM := Lib.hid hm
  have hmn := map_nil 48 _ _ Tryz.underlying48
  clear hm
  rcases h with h | ⟨⟨mu, h, hmu⟩, he, hMo, hMu⟩
  · have E := ent_mk h #[.int .i64 1, .string ky, .slice a n c, .int .i64 vr, .int .i64 at_, .int .i64 nn, .int .i64 id]
    obtain ⟨W0, hW0⟩ : ∃ W0, W0 = (w.alloc (.cells #[.int .i64 1, .string ky, .slice a n c, .int .i64 vr, .int .i64 at_, .int .i64 nn, .int .i64 id] 34)).alloc (.cells zrep 43) := ⟨_, rfl⟩
    rw [← hW0] at E
    have HC := Lib.hid (HM.out W0 E.st (Frm.ofBelow E.bel) (by rw [E.sz]; exact Nat.le_refl _))
    have HST := Lib.hid E.st
    have HF0 := Lib.hid (Frm.ofBelow (F := fun b => b = s) E.bel)
    have HSZ := Lib.hid (show w.heap.size + 2 ≤ W0.heap.size by rw [E.sz]; exact Nat.le_refl _)
    have HRB := Lib.hid E.rb
    have HNR := Lib.hid (show ¬ StF s Mo Mu σ (w.heap.size + 1) from fun hb => by have := h.lt hb; omega)
    have c0 := cell_blk2 h.blk (i := 0) (u := .map (some Mo)) rfl
    have hq2 : ∀ j u, (#[.int .i64 1, .string ky, .slice a n c, .int .i64 vr, .int .i64 at_, .int .i64 nn, .int .i64 id] : Array Value)[j]? = some u → W0.cell? ⟨w.heap.size, j, none⟩ = some u := fun j u hu => cell_blk2 E.cb hu
    clear h HM E
    go_enter Tryz.func11, Tryz.ntmps11
    go_wp2_with fail
    unfold zrep at hW0
    rw [← hW0]
    clear hW0 c0 hq2
    refine HC.out.mono ?_
    rintro e w1 ⟨⟨x, ra, rn, rc, v, b, i, la, ln, lc, m, rfl⟩, hq, hfr⟩
    have hrb1 : w1.heap[w.heap.size + 1]? = some (.cells zrep 43 (0, 0)) := hfr.at HRB.out (fun hb => HNR.out hb)
    obtain ⟨⟨q0, q1, q2, q3, q4, q5, q6⟩, r0, r1, r2, r3, r4, r5, r6⟩ := rb_cells hrb1
    have HQ := Lib.hid hq
    have HFR := Lib.hid hfr
    have HRB1 := Lib.hid hrb1
    clear hq hfr hrb1
    go_wp2_with fail
    clear q0 q1 q2 q3 q4 q5 q6 r0 r1 r2 r3 r4 r5 r6
    obtain ⟨W5, hW5⟩ : ∃ W5, W5 = setR w1 (w.heap.size + 1) (.int .i64 x) (.slice ra rn rc) (.int .i64 v) (.int .i64 b) (.int .i64 i) (.slice la ln lc) (.bool m) := ⟨_, rfl⟩
    have hr5 := setR_at0 HRB1.out (.int .i64 x) (.slice ra rn rc) (.int .i64 v) (.int .i64 b) (.int .i64 i) (.slice la ln lc) (.bool m)
    have hF5 := (Frm.refl (fun b => b = w.heap.size + 1) w1).setR (R := w.heap.size + 1) (.inl rfl) (.int .i64 x) (.slice ra rn rc) (.int .i64 v) (.int .i64 b) (.int .i64 i) (.slice la ln lc) (.bool m)
    rw [← hW5] at hr5 hF5
    unfold setR at hW5
    rw [← hW5]
    refine bodyPost_ret (ret_rep rfl _ _ (w.heap.size + 1) rfl hr5) rfl ?_
    exact do_end HST.out HF0.out HSZ.out HQ.out HFR.out hF5
  · obtain ⟨wa, hwa⟩ : ∃ wa, wa = (w.alloc (.cells #[.int .i64 1, .string ky, .slice a n c, .int .i64 vr, .int .i64 at_, .int .i64 nn, .int .i64 id] 34)).alloc (.cells zrep 43) := ⟨_, rfl⟩
    have ez : wa.heap.size = w.heap.size + 2 := by rw [hwa]; simp
    have hbe : Below w.heap.size w wa := by rw [hwa]; exact ((Below.refl _ _).alloc (Nat.le_refl _) _).alloc (by simp) _
    have hcb : wa.heap[w.heap.size]? = some (.cells #[.int .i64 1, .string ky, .slice a n c, .int .i64 vr, .int .i64 at_, .int .i64 nn, .int .i64 id] 34 (0, 0)) := by
      rw [hwa]; exact (Below.heap_alloc _ _ _ (by simp)).trans (heap_new w _)
    have hrb : wa.heap[w.heap.size + 1]? = some (.cells zrep 43 (0, 0)) := by
      have := heap_new (w.alloc (.cells #[.int .i64 1, .string ky, .slice a n c, .int .i64 vr, .int .i64 at_, .int .i64 nn, .int .i64 id] 34)) (.cells zrep 43)
      rw [← hwa] at this
      rwa [show (w.alloc (.cells #[.int .i64 1, .string ky, .slice a n c, .int .i64 vr, .int .i64 at_, .int .i64 nn, .int .i64 id] 34)).heap.size = w.heap.size + 1 by simp] at this
    obtain ⟨hst, hfr⟩ := made_maps h wa hbe
    obtain ⟨W0, hW0⟩ : ∃ W0, W0 = (((wa.setCell ⟨s, 0, none⟩ (.map (some wa.heap.size))).setCell ⟨s, 1, none⟩ (.map (some (wa.heap.size + 1)))).alloc (.map #[] 0)).alloc (.map #[] 0) := ⟨_, rfl⟩
    rw [← hW0] at hst hfr
    have hfa : Frm (fun b => b = s) wa W0 := by
      rw [hW0]
      exact ((((Frm.refl (fun b => b = s) wa).set (p := s) (.inl rfl) 0 _).set (p := s) (.inl rfl) 1 _).below ((Below.refl _ _).alloc (Nat.le_refl _) _)).below ((Below.refl _ _).alloc (Nat.le_refl _) _)
    rw [ez, ← hMo, show Mo + 1 = Mu from by omega, ← he] at hst
    have hsz0 : w.heap.size + 2 ≤ W0.heap.size := by have := hfa.size; omega
    have hrb0 : W0.heap[w.heap.size + 1]? = some (.cells zrep 43 (0, 0)) := hfa.at hrb (by omega)
    have HC := Lib.hid (HM.out W0 hst hfr hsz0)
    have HST := Lib.hid hst
    have HF0 := Lib.hid hfr
    have HSZ := Lib.hid hsz0
    have HRB := Lib.hid hrb0
    have HNR := Lib.hid (show ¬ StF s Mo Mu σ (w.heap.size + 1) from fun hb => by
      rw [he] at hb
      rcases hb with g | g | g | ⟨p, hp, g⟩
      · omega
      · omega
      · omega
      · cases hp)
    have hla : wa.heap[s]? = some (.cells (freC mu σ.now) 51 (0, 0)) := (hbe.block s hs).trans h
    have c0 := cell_blk2 h (i := 0) (u := .map none) rfl
    have hmk := @run_makeMap Tryz.prog
    have MO := Lib.hid hMo
    have MU := Lib.hid hMu
    have hs1 : s < wa.heap.size := Nat.lt_of_lt_of_le hs hbe.size
    have hk1 : w.heap.size < wa.heap.size := by omega
    have HLA := Lib.hid hla
    have HCB := Lib.hid hcb
    have EZ := Lib.hid ez
    have HWA := Lib.hid hwa
    clear hmu h HM hst hfr hsz0 hrb0 hfa hcb hrb hbe he hMo hMu hla hwa ez
    go_enter Tryz.func11, Tryz.ntmps11
    go_upto_region 4 with fail
    have hwa2 := HWA.out
    unfold zrep at hwa2
    rw [← hwa2]
    clear hwa2 c0
    have c0 := cell_blk2 HLA.out (i := 0) (u := .map none) rfl
    have c1 := cell_blk2 HLA.out (i := 1) (u := .map mu) rfl
    have f0 := fro_blk2 HLA.out 0
    have f1 := fro_blk2 HLA.out 1
    have k0 := cell_blk2 HCB.out (i := 0) (u := .int .i64 1) rfl
    have k1 := cell_blk2 HCB.out (i := 1) (u := .string ky) rfl
    have k2 := cell_blk2 HCB.out (i := 2) (u := .slice a n c) rfl
    have k3 := cell_blk2 HCB.out (i := 3) (u := .int .i64 vr) rfl
    have k4 := cell_blk2 HCB.out (i := 4) (u := .int .i64 at_) rfl
    have k5 := cell_blk2 HCB.out (i := 5) (u := .int .i64 nn) rfl
    have k6 := cell_blk2 HCB.out (i := 6) (u := .int .i64 id) rfl
    go_wp2_with fail
    rw [← hW0]
    clear hW0 c0 c1 f0 f1 k0 k1 k2 k3 k4 k5 k6 hmk hs1 hk1
    refine HC.out.mono ?_
    rintro e w1 ⟨⟨x, ra, rn, rc, v, b, i, la, ln, lc, m, rfl⟩, hq, hfr⟩
    have hrb1 : w1.heap[w.heap.size + 1]? = some (.cells zrep 43 (0, 0)) := hfr.at HRB.out (fun hb => HNR.out hb)
    obtain ⟨⟨q0, q1, q2, q3, q4, q5, q6⟩, r0, r1, r2, r3, r4, r5, r6⟩ := rb_cells hrb1
    have HQ := Lib.hid hq
    have HFR := Lib.hid hfr
    have HRB1 := Lib.hid hrb1
    clear hq hfr hrb1
    go_wp2_with fail
    clear q0 q1 q2 q3 q4 q5 q6 r0 r1 r2 r3 r4 r5 r6
    obtain ⟨W5, hW5⟩ : ∃ W5, W5 = setR w1 (w.heap.size + 1) (.int .i64 x) (.slice ra rn rc) (.int .i64 v) (.int .i64 b) (.int .i64 i) (.slice la ln lc) (.bool m) := ⟨_, rfl⟩
    have hr5 := setR_at0 HRB1.out (.int .i64 x) (.slice ra rn rc) (.int .i64 v) (.int .i64 b) (.int .i64 i) (.slice la ln lc) (.bool m)
    have hF5 := (Frm.refl (fun b => b = w.heap.size + 1) w1).setR (R := w.heap.size + 1) (.inl rfl) (.int .i64 x) (.slice ra rn rc) (.int .i64 v) (.int .i64 b) (.int .i64 i) (.slice la ln lc) (.bool m)
    rw [← hW5] at hr5 hF5
    unfold setR at hW5
    rw [← hW5]
    refine bodyPost_ret (ret_rep rfl _ _ (w.heap.size + 1) rfl hr5) rfl ?_
    exact do_end HST.out HF0.out HSZ.out HQ.out HFR.out hF5
set_option maxRecDepth 100000 in
set_option maxHeartbeats 4000000 in
theorem do_2 {w : World} {s Mo Mu : Nat} {σ : Sto} (h : SAt w s Mo Mu σ) {vr at_ nn id : Int} {ky : ByteArray} {a : Option Addr} {n c : Nat} {Q : World → Ending → World → Prop} (hm : DoMeth w s Mo Mu σ 16 #[.int .i64 2, .string ky, .slice a n c, .int .i64 vr, .int .i64 at_, .int .i64 nn, .int .i64 id] Q) :
    Calls Tryz.prog 11 #[.pointer (some ⟨s, 0, none⟩), .agg #[.int .i64 2, .string ky, .slice a n c, .int .i64 vr, .int .i64 at_, .int .i64 nn, .int .i64 id]] w (DoOut w s Mo Mu σ Q) := by
  have hs := h.lts
  have HM := Lib.hid hm
  have hmn := map_nil 48 _ _ Tryz.underlying48
  clear hm
  rcases h with h | ⟨⟨mu, h, hmu⟩, he, hMo, hMu⟩
  · have E := ent_mk h #[.int .i64 2, .string ky, .slice a n c, .int .i64 vr, .int .i64 at_, .int .i64 nn, .int .i64 id]
    obtain ⟨W0, hW0⟩ : ∃ W0, W0 = (w.alloc (.cells #[.int .i64 2, .string ky, .slice a n c, .int .i64 vr, .int .i64 at_, .int .i64 nn, .int .i64 id] 34)).alloc (.cells zrep 43) := ⟨_, rfl⟩
    rw [← hW0] at E
    have HC := Lib.hid (HM.out W0 E.st (Frm.ofBelow E.bel) (by rw [E.sz]; exact Nat.le_refl _))
    have HST := Lib.hid E.st
    have HF0 := Lib.hid (Frm.ofBelow (F := fun b => b = s) E.bel)
    have HSZ := Lib.hid (show w.heap.size + 2 ≤ W0.heap.size by rw [E.sz]; exact Nat.le_refl _)
    have HRB := Lib.hid E.rb
    have HNR := Lib.hid (show ¬ StF s Mo Mu σ (w.heap.size + 1) from fun hb => by have := h.lt hb; omega)
    have c0 := cell_blk2 h.blk (i := 0) (u := .map (some Mo)) rfl
    have hq2 : ∀ j u, (#[.int .i64 2, .string ky, .slice a n c, .int .i64 vr, .int .i64 at_, .int .i64 nn, .int .i64 id] : Array Value)[j]? = some u → W0.cell? ⟨w.heap.size, j, none⟩ = some u := fun j u hu => cell_blk2 E.cb hu
    clear h HM E
    go_enter Tryz.func11, Tryz.ntmps11
    go_wp2_with fail
    unfold zrep at hW0
    rw [← hW0]
    clear hW0 c0 hq2
    refine HC.out.mono ?_
    rintro e w1 ⟨⟨x, ra, rn, rc, v, b, i, la, ln, lc, m, rfl⟩, hq, hfr⟩
    have hrb1 : w1.heap[w.heap.size + 1]? = some (.cells zrep 43 (0, 0)) := hfr.at HRB.out (fun hb => HNR.out hb)
    obtain ⟨⟨q0, q1, q2, q3, q4, q5, q6⟩, r0, r1, r2, r3, r4, r5, r6⟩ := rb_cells hrb1
    have HQ := Lib.hid hq
    have HFR := Lib.hid hfr
    have HRB1 := Lib.hid hrb1
    clear hq hfr hrb1
    go_wp2_with fail
    clear q0 q1 q2 q3 q4 q5 q6 r0 r1 r2 r3 r4 r5 r6
    obtain ⟨W5, hW5⟩ : ∃ W5, W5 = setR w1 (w.heap.size + 1) (.int .i64 x) (.slice ra rn rc) (.int .i64 v) (.int .i64 b) (.int .i64 i) (.slice la ln lc) (.bool m) := ⟨_, rfl⟩
    have hr5 := setR_at0 HRB1.out (.int .i64 x) (.slice ra rn rc) (.int .i64 v) (.int .i64 b) (.int .i64 i) (.slice la ln lc) (.bool m)
    have hF5 := (Frm.refl (fun b => b = w.heap.size + 1) w1).setR (R := w.heap.size + 1) (.inl rfl) (.int .i64 x) (.slice ra rn rc) (.int .i64 v) (.int .i64 b) (.int .i64 i) (.slice la ln lc) (.bool m)
    rw [← hW5] at hr5 hF5
    unfold setR at hW5
    rw [← hW5]
    refine bodyPost_ret (ret_rep rfl _ _ (w.heap.size + 1) rfl hr5) rfl ?_
    exact do_end HST.out HF0.out HSZ.out HQ.out HFR.out hF5
  · obtain ⟨wa, hwa⟩ : ∃ wa, wa = (w.alloc (.cells #[.int .i64 2, .string ky, .slice a n c, .int .i64 vr, .int .i64 at_, .int .i64 nn, .int .i64 id] 34)).alloc (.cells zrep 43) := ⟨_, rfl⟩
    have ez : wa.heap.size = w.heap.size + 2 := by rw [hwa]; simp
    have hbe : Below w.heap.size w wa := by rw [hwa]; exact ((Below.refl _ _).alloc (Nat.le_refl _) _).alloc (by simp) _
    have hcb : wa.heap[w.heap.size]? = some (.cells #[.int .i64 2, .string ky, .slice a n c, .int .i64 vr, .int .i64 at_, .int .i64 nn, .int .i64 id] 34 (0, 0)) := by
      rw [hwa]; exact (Below.heap_alloc _ _ _ (by simp)).trans (heap_new w _)
    have hrb : wa.heap[w.heap.size + 1]? = some (.cells zrep 43 (0, 0)) := by
      have := heap_new (w.alloc (.cells #[.int .i64 2, .string ky, .slice a n c, .int .i64 vr, .int .i64 at_, .int .i64 nn, .int .i64 id] 34)) (.cells zrep 43)
      rw [← hwa] at this
      rwa [show (w.alloc (.cells #[.int .i64 2, .string ky, .slice a n c, .int .i64 vr, .int .i64 at_, .int .i64 nn, .int .i64 id] 34)).heap.size = w.heap.size + 1 by simp] at this
    obtain ⟨hst, hfr⟩ := made_maps h wa hbe
    obtain ⟨W0, hW0⟩ : ∃ W0, W0 = (((wa.setCell ⟨s, 0, none⟩ (.map (some wa.heap.size))).setCell ⟨s, 1, none⟩ (.map (some (wa.heap.size + 1)))).alloc (.map #[] 0)).alloc (.map #[] 0) := ⟨_, rfl⟩
    rw [← hW0] at hst hfr
    have hfa : Frm (fun b => b = s) wa W0 := by
      rw [hW0]
      exact ((((Frm.refl (fun b => b = s) wa).set (p := s) (.inl rfl) 0 _).set (p := s) (.inl rfl) 1 _).below ((Below.refl _ _).alloc (Nat.le_refl _) _)).below ((Below.refl _ _).alloc (Nat.le_refl _) _)
    rw [ez, ← hMo, show Mo + 1 = Mu from by omega, ← he] at hst
    have hsz0 : w.heap.size + 2 ≤ W0.heap.size := by have := hfa.size; omega
    have hrb0 : W0.heap[w.heap.size + 1]? = some (.cells zrep 43 (0, 0)) := hfa.at hrb (by omega)
    have HC := Lib.hid (HM.out W0 hst hfr hsz0)
    have HST := Lib.hid hst
    have HF0 := Lib.hid hfr
    have HSZ := Lib.hid hsz0
    have HRB := Lib.hid hrb0
    have HNR := Lib.hid (show ¬ StF s Mo Mu σ (w.heap.size + 1) from fun hb => by
      rw [he] at hb
      rcases hb with g | g | g | ⟨p, hp, g⟩
      · omega
      · omega
      · omega
      · cases hp)
    have hla : wa.heap[s]? = some (.cells (freC mu σ.now) 51 (0, 0)) := (hbe.block s hs).trans h
    have c0 := cell_blk2 h (i := 0) (u := .map none) rfl
    have hmk := @run_makeMap Tryz.prog
    have MO := Lib.hid hMo
    have MU := Lib.hid hMu
    have hs1 : s < wa.heap.size := Nat.lt_of_lt_of_le hs hbe.size
    have hk1 : w.heap.size < wa.heap.size := by omega
    have HLA := Lib.hid hla
    have HCB := Lib.hid hcb
    have EZ := Lib.hid ez
    have HWA := Lib.hid hwa
    clear hmu h HM hst hfr hsz0 hrb0 hfa hcb hrb hbe he hMo hMu hla hwa ez
    go_enter Tryz.func11, Tryz.ntmps11
    go_upto_region 4 with fail
    have hwa2 := HWA.out
    unfold zrep at hwa2
    rw [← hwa2]
    clear hwa2 c0
    have c0 := cell_blk2 HLA.out (i := 0) (u := .map none) rfl
    have c1 := cell_blk2 HLA.out (i := 1) (u := .map mu) rfl
    have f0 := fro_blk2 HLA.out 0
    have f1 := fro_blk2 HLA.out 1
    have k0 := cell_blk2 HCB.out (i := 0) (u := .int .i64 2) rfl
    have k1 := cell_blk2 HCB.out (i := 1) (u := .string ky) rfl
    have k2 := cell_blk2 HCB.out (i := 2) (u := .slice a n c) rfl
    have k3 := cell_blk2 HCB.out (i := 3) (u := .int .i64 vr) rfl
    have k4 := cell_blk2 HCB.out (i := 4) (u := .int .i64 at_) rfl
    have k5 := cell_blk2 HCB.out (i := 5) (u := .int .i64 nn) rfl
    have k6 := cell_blk2 HCB.out (i := 6) (u := .int .i64 id) rfl
    go_wp2_with fail
    rw [← hW0]
    clear hW0 c0 c1 f0 f1 k0 k1 k2 k3 k4 k5 k6 hmk hs1 hk1
    refine HC.out.mono ?_
    rintro e w1 ⟨⟨x, ra, rn, rc, v, b, i, la, ln, lc, m, rfl⟩, hq, hfr⟩
    have hrb1 : w1.heap[w.heap.size + 1]? = some (.cells zrep 43 (0, 0)) := hfr.at HRB.out (fun hb => HNR.out hb)
    obtain ⟨⟨q0, q1, q2, q3, q4, q5, q6⟩, r0, r1, r2, r3, r4, r5, r6⟩ := rb_cells hrb1
    have HQ := Lib.hid hq
    have HFR := Lib.hid hfr
    have HRB1 := Lib.hid hrb1
    clear hq hfr hrb1
    go_wp2_with fail
    clear q0 q1 q2 q3 q4 q5 q6 r0 r1 r2 r3 r4 r5 r6
    obtain ⟨W5, hW5⟩ : ∃ W5, W5 = setR w1 (w.heap.size + 1) (.int .i64 x) (.slice ra rn rc) (.int .i64 v) (.int .i64 b) (.int .i64 i) (.slice la ln lc) (.bool m) := ⟨_, rfl⟩
    have hr5 := setR_at0 HRB1.out (.int .i64 x) (.slice ra rn rc) (.int .i64 v) (.int .i64 b) (.int .i64 i) (.slice la ln lc) (.bool m)
    have hF5 := (Frm.refl (fun b => b = w.heap.size + 1) w1).setR (R := w.heap.size + 1) (.inl rfl) (.int .i64 x) (.slice ra rn rc) (.int .i64 v) (.int .i64 b) (.int .i64 i) (.slice la ln lc) (.bool m)
    rw [← hW5] at hr5 hF5
    unfold setR at hW5
    rw [← hW5]
    refine bodyPost_ret (ret_rep rfl _ _ (w.heap.size + 1) rfl hr5) rfl ?_
    exact do_end HST.out HF0.out HSZ.out HQ.out HFR.out hF5
set_option maxRecDepth 100000 in
set_option maxHeartbeats 4000000 in
theorem do_3 {w : World} {s Mo Mu : Nat} {σ : Sto} (h : SAt w s Mo Mu σ) {vr at_ nn id : Int} {ky : ByteArray} {a : Option Addr} {n c : Nat} {Q : World → Ending → World → Prop} (hm : DoMeth w s Mo Mu σ 17 #[.int .i64 3, .string ky, .slice a n c, .int .i64 vr, .int .i64 at_, .int .i64 nn, .int .i64 id] Q) :
    Calls Tryz.prog 11 #[.pointer (some ⟨s, 0, none⟩), .agg #[.int .i64 3, .string ky, .slice a n c, .int .i64 vr, .int .i64 at_, .int .i64 nn, .int .i64 id]] w (DoOut w s Mo Mu σ Q) := by
  have hs := h.lts
  have HM := Lib.hid hm
  have hmn := map_nil 48 _ _ Tryz.underlying48
  clear hm
  rcases h with h | ⟨⟨mu, h, hmu⟩, he, hMo, hMu⟩
  · have E := ent_mk h #[.int .i64 3, .string ky, .slice a n c, .int .i64 vr, .int .i64 at_, .int .i64 nn, .int .i64 id]
    obtain ⟨W0, hW0⟩ : ∃ W0, W0 = (w.alloc (.cells #[.int .i64 3, .string ky, .slice a n c, .int .i64 vr, .int .i64 at_, .int .i64 nn, .int .i64 id] 34)).alloc (.cells zrep 43) := ⟨_, rfl⟩
    rw [← hW0] at E
    have HC := Lib.hid (HM.out W0 E.st (Frm.ofBelow E.bel) (by rw [E.sz]; exact Nat.le_refl _))
    have HST := Lib.hid E.st
    have HF0 := Lib.hid (Frm.ofBelow (F := fun b => b = s) E.bel)
    have HSZ := Lib.hid (show w.heap.size + 2 ≤ W0.heap.size by rw [E.sz]; exact Nat.le_refl _)
    have HRB := Lib.hid E.rb
    have HNR := Lib.hid (show ¬ StF s Mo Mu σ (w.heap.size + 1) from fun hb => by have := h.lt hb; omega)
    have c0 := cell_blk2 h.blk (i := 0) (u := .map (some Mo)) rfl
    have hq2 : ∀ j u, (#[.int .i64 3, .string ky, .slice a n c, .int .i64 vr, .int .i64 at_, .int .i64 nn, .int .i64 id] : Array Value)[j]? = some u → W0.cell? ⟨w.heap.size, j, none⟩ = some u := fun j u hu => cell_blk2 E.cb hu
    clear h HM E
    go_enter Tryz.func11, Tryz.ntmps11
    go_wp2_with fail
    unfold zrep at hW0
    rw [← hW0]
    clear hW0 c0 hq2
    refine HC.out.mono ?_
    rintro e w1 ⟨⟨x, ra, rn, rc, v, b, i, la, ln, lc, m, rfl⟩, hq, hfr⟩
    have hrb1 : w1.heap[w.heap.size + 1]? = some (.cells zrep 43 (0, 0)) := hfr.at HRB.out (fun hb => HNR.out hb)
    obtain ⟨⟨q0, q1, q2, q3, q4, q5, q6⟩, r0, r1, r2, r3, r4, r5, r6⟩ := rb_cells hrb1
    have HQ := Lib.hid hq
    have HFR := Lib.hid hfr
    have HRB1 := Lib.hid hrb1
    clear hq hfr hrb1
    go_wp2_with fail
    clear q0 q1 q2 q3 q4 q5 q6 r0 r1 r2 r3 r4 r5 r6
    obtain ⟨W5, hW5⟩ : ∃ W5, W5 = setR w1 (w.heap.size + 1) (.int .i64 x) (.slice ra rn rc) (.int .i64 v) (.int .i64 b) (.int .i64 i) (.slice la ln lc) (.bool m) := ⟨_, rfl⟩
    have hr5 := setR_at0 HRB1.out (.int .i64 x) (.slice ra rn rc) (.int .i64 v) (.int .i64 b) (.int .i64 i) (.slice la ln lc) (.bool m)
    have hF5 := (Frm.refl (fun b => b = w.heap.size + 1) w1).setR (R := w.heap.size + 1) (.inl rfl) (.int .i64 x) (.slice ra rn rc) (.int .i64 v) (.int .i64 b) (.int .i64 i) (.slice la ln lc) (.bool m)
    rw [← hW5] at hr5 hF5
    unfold setR at hW5
    rw [← hW5]
    refine bodyPost_ret (ret_rep rfl _ _ (w.heap.size + 1) rfl hr5) rfl ?_
    exact do_end HST.out HF0.out HSZ.out HQ.out HFR.out hF5
  · obtain ⟨wa, hwa⟩ : ∃ wa, wa = (w.alloc (.cells #[.int .i64 3, .string ky, .slice a n c, .int .i64 vr, .int .i64 at_, .int .i64 nn, .int .i64 id] 34)).alloc (.cells zrep 43) := ⟨_, rfl⟩
    have ez : wa.heap.size = w.heap.size + 2 := by rw [hwa]; simp
    have hbe : Below w.heap.size w wa := by rw [hwa]; exact ((Below.refl _ _).alloc (Nat.le_refl _) _).alloc (by simp) _
    have hcb : wa.heap[w.heap.size]? = some (.cells #[.int .i64 3, .string ky, .slice a n c, .int .i64 vr, .int .i64 at_, .int .i64 nn, .int .i64 id] 34 (0, 0)) := by
      rw [hwa]; exact (Below.heap_alloc _ _ _ (by simp)).trans (heap_new w _)
    have hrb : wa.heap[w.heap.size + 1]? = some (.cells zrep 43 (0, 0)) := by
      have := heap_new (w.alloc (.cells #[.int .i64 3, .string ky, .slice a n c, .int .i64 vr, .int .i64 at_, .int .i64 nn, .int .i64 id] 34)) (.cells zrep 43)
      rw [← hwa] at this
      rwa [show (w.alloc (.cells #[.int .i64 3, .string ky, .slice a n c, .int .i64 vr, .int .i64 at_, .int .i64 nn, .int .i64 id] 34)).heap.size = w.heap.size + 1 by simp] at this
    obtain ⟨hst, hfr⟩ := made_maps h wa hbe
    obtain ⟨W0, hW0⟩ : ∃ W0, W0 = (((wa.setCell ⟨s, 0, none⟩ (.map (some wa.heap.size))).setCell ⟨s, 1, none⟩ (.map (some (wa.heap.size + 1)))).alloc (.map #[] 0)).alloc (.map #[] 0) := ⟨_, rfl⟩
    rw [← hW0] at hst hfr
    have hfa : Frm (fun b => b = s) wa W0 := by
      rw [hW0]
      exact ((((Frm.refl (fun b => b = s) wa).set (p := s) (.inl rfl) 0 _).set (p := s) (.inl rfl) 1 _).below ((Below.refl _ _).alloc (Nat.le_refl _) _)).below ((Below.refl _ _).alloc (Nat.le_refl _) _)
    rw [ez, ← hMo, show Mo + 1 = Mu from by omega, ← he] at hst
    have hsz0 : w.heap.size + 2 ≤ W0.heap.size := by have := hfa.size; omega
    have hrb0 : W0.heap[w.heap.size + 1]? = some (.cells zrep 43 (0, 0)) := hfa.at hrb (by omega)
    have HC := Lib.hid (HM.out W0 hst hfr hsz0)
    have HST := Lib.hid hst
    have HF0 := Lib.hid hfr
    have HSZ := Lib.hid hsz0
    have HRB := Lib.hid hrb0
    have HNR := Lib.hid (show ¬ StF s Mo Mu σ (w.heap.size + 1) from fun hb => by
      rw [he] at hb
      rcases hb with g | g | g | ⟨p, hp, g⟩
      · omega
      · omega
      · omega
      · cases hp)
    have hla : wa.heap[s]? = some (.cells (freC mu σ.now) 51 (0, 0)) := (hbe.block s hs).trans h
    have c0 := cell_blk2 h (i := 0) (u := .map none) rfl
    have hmk := @run_makeMap Tryz.prog
    have MO := Lib.hid hMo
    have MU := Lib.hid hMu
    have hs1 : s < wa.heap.size := Nat.lt_of_lt_of_le hs hbe.size
    have hk1 : w.heap.size < wa.heap.size := by omega
    have HLA := Lib.hid hla
    have HCB := Lib.hid hcb
    have EZ := Lib.hid ez
    have HWA := Lib.hid hwa
    clear hmu h HM hst hfr hsz0 hrb0 hfa hcb hrb hbe he hMo hMu hla hwa ez
    go_enter Tryz.func11, Tryz.ntmps11
    go_upto_region 4 with fail
    have hwa2 := HWA.out
    unfold zrep at hwa2
    rw [← hwa2]
    clear hwa2 c0
    have c0 := cell_blk2 HLA.out (i := 0) (u := .map none) rfl
    have c1 := cell_blk2 HLA.out (i := 1) (u := .map mu) rfl
    have f0 := fro_blk2 HLA.out 0
    have f1 := fro_blk2 HLA.out 1
    have k0 := cell_blk2 HCB.out (i := 0) (u := .int .i64 3) rfl
    have k1 := cell_blk2 HCB.out (i := 1) (u := .string ky) rfl
    have k2 := cell_blk2 HCB.out (i := 2) (u := .slice a n c) rfl
    have k3 := cell_blk2 HCB.out (i := 3) (u := .int .i64 vr) rfl
    have k4 := cell_blk2 HCB.out (i := 4) (u := .int .i64 at_) rfl
    have k5 := cell_blk2 HCB.out (i := 5) (u := .int .i64 nn) rfl
    have k6 := cell_blk2 HCB.out (i := 6) (u := .int .i64 id) rfl
    go_wp2_with fail
    rw [← hW0]
    clear hW0 c0 c1 f0 f1 k0 k1 k2 k3 k4 k5 k6 hmk hs1 hk1
    refine HC.out.mono ?_
    rintro e w1 ⟨⟨x, ra, rn, rc, v, b, i, la, ln, lc, m, rfl⟩, hq, hfr⟩
    have hrb1 : w1.heap[w.heap.size + 1]? = some (.cells zrep 43 (0, 0)) := hfr.at HRB.out (fun hb => HNR.out hb)
    obtain ⟨⟨q0, q1, q2, q3, q4, q5, q6⟩, r0, r1, r2, r3, r4, r5, r6⟩ := rb_cells hrb1
    have HQ := Lib.hid hq
    have HFR := Lib.hid hfr
    have HRB1 := Lib.hid hrb1
    clear hq hfr hrb1
    go_wp2_with fail
    clear q0 q1 q2 q3 q4 q5 q6 r0 r1 r2 r3 r4 r5 r6
    obtain ⟨W5, hW5⟩ : ∃ W5, W5 = setR w1 (w.heap.size + 1) (.int .i64 x) (.slice ra rn rc) (.int .i64 v) (.int .i64 b) (.int .i64 i) (.slice la ln lc) (.bool m) := ⟨_, rfl⟩
    have hr5 := setR_at0 HRB1.out (.int .i64 x) (.slice ra rn rc) (.int .i64 v) (.int .i64 b) (.int .i64 i) (.slice la ln lc) (.bool m)
    have hF5 := (Frm.refl (fun b => b = w.heap.size + 1) w1).setR (R := w.heap.size + 1) (.inl rfl) (.int .i64 x) (.slice ra rn rc) (.int .i64 v) (.int .i64 b) (.int .i64 i) (.slice la ln lc) (.bool m)
    rw [← hW5] at hr5 hF5
    unfold setR at hW5
    rw [← hW5]
    refine bodyPost_ret (ret_rep rfl _ _ (w.heap.size + 1) rfl hr5) rfl ?_
    exact do_end HST.out HF0.out HSZ.out HQ.out HFR.out hF5
set_option maxRecDepth 100000 in
set_option maxHeartbeats 4000000 in
theorem do_4 {w : World} {s Mo Mu : Nat} {σ : Sto} (h : SAt w s Mo Mu σ) {vr at_ nn id : Int} {ky : ByteArray} {a : Option Addr} {n c : Nat} {Q : World → Ending → World → Prop} (hm : DoMeth w s Mo Mu σ 18 #[.int .i64 4, .string ky, .slice a n c, .int .i64 vr, .int .i64 at_, .int .i64 nn, .int .i64 id] Q) :
    Calls Tryz.prog 11 #[.pointer (some ⟨s, 0, none⟩), .agg #[.int .i64 4, .string ky, .slice a n c, .int .i64 vr, .int .i64 at_, .int .i64 nn, .int .i64 id]] w (DoOut w s Mo Mu σ Q) := by
  have hs := h.lts
  have HM := Lib.hid hm
  have hmn := map_nil 48 _ _ Tryz.underlying48
  clear hm
  rcases h with h | ⟨⟨mu, h, hmu⟩, he, hMo, hMu⟩
  · have E := ent_mk h #[.int .i64 4, .string ky, .slice a n c, .int .i64 vr, .int .i64 at_, .int .i64 nn, .int .i64 id]
    obtain ⟨W0, hW0⟩ : ∃ W0, W0 = (w.alloc (.cells #[.int .i64 4, .string ky, .slice a n c, .int .i64 vr, .int .i64 at_, .int .i64 nn, .int .i64 id] 34)).alloc (.cells zrep 43) := ⟨_, rfl⟩
    rw [← hW0] at E
    have HC := Lib.hid (HM.out W0 E.st (Frm.ofBelow E.bel) (by rw [E.sz]; exact Nat.le_refl _))
    have HST := Lib.hid E.st
    have HF0 := Lib.hid (Frm.ofBelow (F := fun b => b = s) E.bel)
    have HSZ := Lib.hid (show w.heap.size + 2 ≤ W0.heap.size by rw [E.sz]; exact Nat.le_refl _)
    have HRB := Lib.hid E.rb
    have HNR := Lib.hid (show ¬ StF s Mo Mu σ (w.heap.size + 1) from fun hb => by have := h.lt hb; omega)
    have c0 := cell_blk2 h.blk (i := 0) (u := .map (some Mo)) rfl
    have hq2 : ∀ j u, (#[.int .i64 4, .string ky, .slice a n c, .int .i64 vr, .int .i64 at_, .int .i64 nn, .int .i64 id] : Array Value)[j]? = some u → W0.cell? ⟨w.heap.size, j, none⟩ = some u := fun j u hu => cell_blk2 E.cb hu
    clear h HM E
    go_enter Tryz.func11, Tryz.ntmps11
    go_wp2_with fail
    unfold zrep at hW0
    rw [← hW0]
    clear hW0 c0 hq2
    refine HC.out.mono ?_
    rintro e w1 ⟨⟨x, ra, rn, rc, v, b, i, la, ln, lc, m, rfl⟩, hq, hfr⟩
    have hrb1 : w1.heap[w.heap.size + 1]? = some (.cells zrep 43 (0, 0)) := hfr.at HRB.out (fun hb => HNR.out hb)
    obtain ⟨⟨q0, q1, q2, q3, q4, q5, q6⟩, r0, r1, r2, r3, r4, r5, r6⟩ := rb_cells hrb1
    have HQ := Lib.hid hq
    have HFR := Lib.hid hfr
    have HRB1 := Lib.hid hrb1
    clear hq hfr hrb1
    go_wp2_with fail
    clear q0 q1 q2 q3 q4 q5 q6 r0 r1 r2 r3 r4 r5 r6
    obtain ⟨W5, hW5⟩ : ∃ W5, W5 = setR w1 (w.heap.size + 1) (.int .i64 x) (.slice ra rn rc) (.int .i64 v) (.int .i64 b) (.int .i64 i) (.slice la ln lc) (.bool m) := ⟨_, rfl⟩
    have hr5 := setR_at0 HRB1.out (.int .i64 x) (.slice ra rn rc) (.int .i64 v) (.int .i64 b) (.int .i64 i) (.slice la ln lc) (.bool m)
    have hF5 := (Frm.refl (fun b => b = w.heap.size + 1) w1).setR (R := w.heap.size + 1) (.inl rfl) (.int .i64 x) (.slice ra rn rc) (.int .i64 v) (.int .i64 b) (.int .i64 i) (.slice la ln lc) (.bool m)
    rw [← hW5] at hr5 hF5
    unfold setR at hW5
    rw [← hW5]
    refine bodyPost_ret (ret_rep rfl _ _ (w.heap.size + 1) rfl hr5) rfl ?_
    exact do_end HST.out HF0.out HSZ.out HQ.out HFR.out hF5
  · obtain ⟨wa, hwa⟩ : ∃ wa, wa = (w.alloc (.cells #[.int .i64 4, .string ky, .slice a n c, .int .i64 vr, .int .i64 at_, .int .i64 nn, .int .i64 id] 34)).alloc (.cells zrep 43) := ⟨_, rfl⟩
    have ez : wa.heap.size = w.heap.size + 2 := by rw [hwa]; simp
    have hbe : Below w.heap.size w wa := by rw [hwa]; exact ((Below.refl _ _).alloc (Nat.le_refl _) _).alloc (by simp) _
    have hcb : wa.heap[w.heap.size]? = some (.cells #[.int .i64 4, .string ky, .slice a n c, .int .i64 vr, .int .i64 at_, .int .i64 nn, .int .i64 id] 34 (0, 0)) := by
      rw [hwa]; exact (Below.heap_alloc _ _ _ (by simp)).trans (heap_new w _)
    have hrb : wa.heap[w.heap.size + 1]? = some (.cells zrep 43 (0, 0)) := by
      have := heap_new (w.alloc (.cells #[.int .i64 4, .string ky, .slice a n c, .int .i64 vr, .int .i64 at_, .int .i64 nn, .int .i64 id] 34)) (.cells zrep 43)
      rw [← hwa] at this
      rwa [show (w.alloc (.cells #[.int .i64 4, .string ky, .slice a n c, .int .i64 vr, .int .i64 at_, .int .i64 nn, .int .i64 id] 34)).heap.size = w.heap.size + 1 by simp] at this
    obtain ⟨hst, hfr⟩ := made_maps h wa hbe
    obtain ⟨W0, hW0⟩ : ∃ W0, W0 = (((wa.setCell ⟨s, 0, none⟩ (.map (some wa.heap.size))).setCell ⟨s, 1, none⟩ (.map (some (wa.heap.size + 1)))).alloc (.map #[] 0)).alloc (.map #[] 0) := ⟨_, rfl⟩
    rw [← hW0] at hst hfr
    have hfa : Frm (fun b => b = s) wa W0 := by
      rw [hW0]
      exact ((((Frm.refl (fun b => b = s) wa).set (p := s) (.inl rfl) 0 _).set (p := s) (.inl rfl) 1 _).below ((Below.refl _ _).alloc (Nat.le_refl _) _)).below ((Below.refl _ _).alloc (Nat.le_refl _) _)
    rw [ez, ← hMo, show Mo + 1 = Mu from by omega, ← he] at hst
    have hsz0 : w.heap.size + 2 ≤ W0.heap.size := by have := hfa.size; omega
    have hrb0 : W0.heap[w.heap.size + 1]? = some (.cells zrep 43 (0, 0)) := hfa.at hrb (by omega)
    have HC := Lib.hid (HM.out W0 hst hfr hsz0)
    have HST := Lib.hid hst
    have HF0 := Lib.hid hfr
    have HSZ := Lib.hid hsz0
    have HRB := Lib.hid hrb0
    have HNR := Lib.hid (show ¬ StF s Mo Mu σ (w.heap.size + 1) from fun hb => by
      rw [he] at hb
      rcases hb with g | g | g | ⟨p, hp, g⟩
      · omega
      · omega
      · omega
      · cases hp)
    have hla : wa.heap[s]? = some (.cells (freC mu σ.now) 51 (0, 0)) := (hbe.block s hs).trans h
    have c0 := cell_blk2 h (i := 0) (u := .map none) rfl
    have hmk := @run_makeMap Tryz.prog
    have MO := Lib.hid hMo
    have MU := Lib.hid hMu
    have hs1 : s < wa.heap.size := Nat.lt_of_lt_of_le hs hbe.size
    have hk1 : w.heap.size < wa.heap.size := by omega
    have HLA := Lib.hid hla
    have HCB := Lib.hid hcb
    have EZ := Lib.hid ez
    have HWA := Lib.hid hwa
    clear hmu h HM hst hfr hsz0 hrb0 hfa hcb hrb hbe he hMo hMu hla hwa ez
    go_enter Tryz.func11, Tryz.ntmps11
    go_upto_region 4 with fail
    have hwa2 := HWA.out
    unfold zrep at hwa2
    rw [← hwa2]
    clear hwa2 c0
    have c0 := cell_blk2 HLA.out (i := 0) (u := .map none) rfl
    have c1 := cell_blk2 HLA.out (i := 1) (u := .map mu) rfl
    have f0 := fro_blk2 HLA.out 0
    have f1 := fro_blk2 HLA.out 1
    have k0 := cell_blk2 HCB.out (i := 0) (u := .int .i64 4) rfl
    have k1 := cell_blk2 HCB.out (i := 1) (u := .string ky) rfl
    have k2 := cell_blk2 HCB.out (i := 2) (u := .slice a n c) rfl
    have k3 := cell_blk2 HCB.out (i := 3) (u := .int .i64 vr) rfl
    have k4 := cell_blk2 HCB.out (i := 4) (u := .int .i64 at_) rfl
    have k5 := cell_blk2 HCB.out (i := 5) (u := .int .i64 nn) rfl
    have k6 := cell_blk2 HCB.out (i := 6) (u := .int .i64 id) rfl
    go_wp2_with fail
    rw [← hW0]
    clear hW0 c0 c1 f0 f1 k0 k1 k2 k3 k4 k5 k6 hmk hs1 hk1
    refine HC.out.mono ?_
    rintro e w1 ⟨⟨x, ra, rn, rc, v, b, i, la, ln, lc, m, rfl⟩, hq, hfr⟩
    have hrb1 : w1.heap[w.heap.size + 1]? = some (.cells zrep 43 (0, 0)) := hfr.at HRB.out (fun hb => HNR.out hb)
    obtain ⟨⟨q0, q1, q2, q3, q4, q5, q6⟩, r0, r1, r2, r3, r4, r5, r6⟩ := rb_cells hrb1
    have HQ := Lib.hid hq
    have HFR := Lib.hid hfr
    have HRB1 := Lib.hid hrb1
    clear hq hfr hrb1
    go_wp2_with fail
    clear q0 q1 q2 q3 q4 q5 q6 r0 r1 r2 r3 r4 r5 r6
    obtain ⟨W5, hW5⟩ : ∃ W5, W5 = setR w1 (w.heap.size + 1) (.int .i64 x) (.slice ra rn rc) (.int .i64 v) (.int .i64 b) (.int .i64 i) (.slice la ln lc) (.bool m) := ⟨_, rfl⟩
    have hr5 := setR_at0 HRB1.out (.int .i64 x) (.slice ra rn rc) (.int .i64 v) (.int .i64 b) (.int .i64 i) (.slice la ln lc) (.bool m)
    have hF5 := (Frm.refl (fun b => b = w.heap.size + 1) w1).setR (R := w.heap.size + 1) (.inl rfl) (.int .i64 x) (.slice ra rn rc) (.int .i64 v) (.int .i64 b) (.int .i64 i) (.slice la ln lc) (.bool m)
    rw [← hW5] at hr5 hF5
    unfold setR at hW5
    rw [← hW5]
    refine bodyPost_ret (ret_rep rfl _ _ (w.heap.size + 1) rfl hr5) rfl ?_
    exact do_end HST.out HF0.out HSZ.out HQ.out HFR.out hF5
set_option maxRecDepth 100000 in
set_option maxHeartbeats 4000000 in
theorem do_5 {w : World} {s Mo Mu : Nat} {σ : Sto} (h : SAt w s Mo Mu σ) {vr at_ nn id : Int} {ky : ByteArray} {a : Option Addr} {n c : Nat} {Q : World → Ending → World → Prop} (hm : DoMeth w s Mo Mu σ 19 #[.int .i64 5, .string ky, .slice a n c, .int .i64 vr, .int .i64 at_, .int .i64 nn, .int .i64 id] Q) :
    Calls Tryz.prog 11 #[.pointer (some ⟨s, 0, none⟩), .agg #[.int .i64 5, .string ky, .slice a n c, .int .i64 vr, .int .i64 at_, .int .i64 nn, .int .i64 id]] w (DoOut w s Mo Mu σ Q) := by
  have hs := h.lts
  have HM := Lib.hid hm
  have hmn := map_nil 48 _ _ Tryz.underlying48
  clear hm
  rcases h with h | ⟨⟨mu, h, hmu⟩, he, hMo, hMu⟩
  · have E := ent_mk h #[.int .i64 5, .string ky, .slice a n c, .int .i64 vr, .int .i64 at_, .int .i64 nn, .int .i64 id]
    obtain ⟨W0, hW0⟩ : ∃ W0, W0 = (w.alloc (.cells #[.int .i64 5, .string ky, .slice a n c, .int .i64 vr, .int .i64 at_, .int .i64 nn, .int .i64 id] 34)).alloc (.cells zrep 43) := ⟨_, rfl⟩
    rw [← hW0] at E
    have HC := Lib.hid (HM.out W0 E.st (Frm.ofBelow E.bel) (by rw [E.sz]; exact Nat.le_refl _))
    have HST := Lib.hid E.st
    have HF0 := Lib.hid (Frm.ofBelow (F := fun b => b = s) E.bel)
    have HSZ := Lib.hid (show w.heap.size + 2 ≤ W0.heap.size by rw [E.sz]; exact Nat.le_refl _)
    have HRB := Lib.hid E.rb
    have HNR := Lib.hid (show ¬ StF s Mo Mu σ (w.heap.size + 1) from fun hb => by have := h.lt hb; omega)
    have c0 := cell_blk2 h.blk (i := 0) (u := .map (some Mo)) rfl
    have hq2 : ∀ j u, (#[.int .i64 5, .string ky, .slice a n c, .int .i64 vr, .int .i64 at_, .int .i64 nn, .int .i64 id] : Array Value)[j]? = some u → W0.cell? ⟨w.heap.size, j, none⟩ = some u := fun j u hu => cell_blk2 E.cb hu
    clear h HM E
    go_enter Tryz.func11, Tryz.ntmps11
    go_wp2_with fail
    unfold zrep at hW0
    rw [← hW0]
    clear hW0 c0 hq2
    refine HC.out.mono ?_
    rintro e w1 ⟨⟨x, ra, rn, rc, v, b, i, la, ln, lc, m, rfl⟩, hq, hfr⟩
    have hrb1 : w1.heap[w.heap.size + 1]? = some (.cells zrep 43 (0, 0)) := hfr.at HRB.out (fun hb => HNR.out hb)
    obtain ⟨⟨q0, q1, q2, q3, q4, q5, q6⟩, r0, r1, r2, r3, r4, r5, r6⟩ := rb_cells hrb1
    have HQ := Lib.hid hq
    have HFR := Lib.hid hfr
    have HRB1 := Lib.hid hrb1
    clear hq hfr hrb1
    go_wp2_with fail
    clear q0 q1 q2 q3 q4 q5 q6 r0 r1 r2 r3 r4 r5 r6
    obtain ⟨W5, hW5⟩ : ∃ W5, W5 = setR w1 (w.heap.size + 1) (.int .i64 x) (.slice ra rn rc) (.int .i64 v) (.int .i64 b) (.int .i64 i) (.slice la ln lc) (.bool m) := ⟨_, rfl⟩
    have hr5 := setR_at0 HRB1.out (.int .i64 x) (.slice ra rn rc) (.int .i64 v) (.int .i64 b) (.int .i64 i) (.slice la ln lc) (.bool m)
    have hF5 := (Frm.refl (fun b => b = w.heap.size + 1) w1).setR (R := w.heap.size + 1) (.inl rfl) (.int .i64 x) (.slice ra rn rc) (.int .i64 v) (.int .i64 b) (.int .i64 i) (.slice la ln lc) (.bool m)
    rw [← hW5] at hr5 hF5
    unfold setR at hW5
    rw [← hW5]
    refine bodyPost_ret (ret_rep rfl _ _ (w.heap.size + 1) rfl hr5) rfl ?_
    exact do_end HST.out HF0.out HSZ.out HQ.out HFR.out hF5
  · obtain ⟨wa, hwa⟩ : ∃ wa, wa = (w.alloc (.cells #[.int .i64 5, .string ky, .slice a n c, .int .i64 vr, .int .i64 at_, .int .i64 nn, .int .i64 id] 34)).alloc (.cells zrep 43) := ⟨_, rfl⟩
    have ez : wa.heap.size = w.heap.size + 2 := by rw [hwa]; simp
    have hbe : Below w.heap.size w wa := by rw [hwa]; exact ((Below.refl _ _).alloc (Nat.le_refl _) _).alloc (by simp) _
    have hcb : wa.heap[w.heap.size]? = some (.cells #[.int .i64 5, .string ky, .slice a n c, .int .i64 vr, .int .i64 at_, .int .i64 nn, .int .i64 id] 34 (0, 0)) := by
      rw [hwa]; exact (Below.heap_alloc _ _ _ (by simp)).trans (heap_new w _)
    have hrb : wa.heap[w.heap.size + 1]? = some (.cells zrep 43 (0, 0)) := by
      have := heap_new (w.alloc (.cells #[.int .i64 5, .string ky, .slice a n c, .int .i64 vr, .int .i64 at_, .int .i64 nn, .int .i64 id] 34)) (.cells zrep 43)
      rw [← hwa] at this
      rwa [show (w.alloc (.cells #[.int .i64 5, .string ky, .slice a n c, .int .i64 vr, .int .i64 at_, .int .i64 nn, .int .i64 id] 34)).heap.size = w.heap.size + 1 by simp] at this
    obtain ⟨hst, hfr⟩ := made_maps h wa hbe
    obtain ⟨W0, hW0⟩ : ∃ W0, W0 = (((wa.setCell ⟨s, 0, none⟩ (.map (some wa.heap.size))).setCell ⟨s, 1, none⟩ (.map (some (wa.heap.size + 1)))).alloc (.map #[] 0)).alloc (.map #[] 0) := ⟨_, rfl⟩
    rw [← hW0] at hst hfr
    have hfa : Frm (fun b => b = s) wa W0 := by
      rw [hW0]
      exact ((((Frm.refl (fun b => b = s) wa).set (p := s) (.inl rfl) 0 _).set (p := s) (.inl rfl) 1 _).below ((Below.refl _ _).alloc (Nat.le_refl _) _)).below ((Below.refl _ _).alloc (Nat.le_refl _) _)
    rw [ez, ← hMo, show Mo + 1 = Mu from by omega, ← he] at hst
    have hsz0 : w.heap.size + 2 ≤ W0.heap.size := by have := hfa.size; omega
    have hrb0 : W0.heap[w.heap.size + 1]? = some (.cells zrep 43 (0, 0)) := hfa.at hrb (by omega)
    have HC := Lib.hid (HM.out W0 hst hfr hsz0)
    have HST := Lib.hid hst
    have HF0 := Lib.hid hfr
    have HSZ := Lib.hid hsz0
    have HRB := Lib.hid hrb0
    have HNR := Lib.hid (show ¬ StF s Mo Mu σ (w.heap.size + 1) from fun hb => by
      rw [he] at hb
      rcases hb with g | g | g | ⟨p, hp, g⟩
      · omega
      · omega
      · omega
      · cases hp)
    have hla : wa.heap[s]? = some (.cells (freC mu σ.now) 51 (0, 0)) := (hbe.block s hs).trans h
    have c0 := cell_blk2 h (i := 0) (u := .map none) rfl
    have hmk := @run_makeMap Tryz.prog
    have MO := Lib.hid hMo
    have MU := Lib.hid hMu
    have hs1 : s < wa.heap.size := Nat.lt_of_lt_of_le hs hbe.size
    have hk1 : w.heap.size < wa.heap.size := by omega
    have HLA := Lib.hid hla
    have HCB := Lib.hid hcb
    have EZ := Lib.hid ez
    have HWA := Lib.hid hwa
    clear hmu h HM hst hfr hsz0 hrb0 hfa hcb hrb hbe he hMo hMu hla hwa ez
    go_enter Tryz.func11, Tryz.ntmps11
    go_upto_region 4 with fail
    have hwa2 := HWA.out
    unfold zrep at hwa2
    rw [← hwa2]
    clear hwa2 c0
    have c0 := cell_blk2 HLA.out (i := 0) (u := .map none) rfl
    have c1 := cell_blk2 HLA.out (i := 1) (u := .map mu) rfl
    have f0 := fro_blk2 HLA.out 0
    have f1 := fro_blk2 HLA.out 1
    have k0 := cell_blk2 HCB.out (i := 0) (u := .int .i64 5) rfl
    have k1 := cell_blk2 HCB.out (i := 1) (u := .string ky) rfl
    have k2 := cell_blk2 HCB.out (i := 2) (u := .slice a n c) rfl
    have k3 := cell_blk2 HCB.out (i := 3) (u := .int .i64 vr) rfl
    have k4 := cell_blk2 HCB.out (i := 4) (u := .int .i64 at_) rfl
    have k5 := cell_blk2 HCB.out (i := 5) (u := .int .i64 nn) rfl
    have k6 := cell_blk2 HCB.out (i := 6) (u := .int .i64 id) rfl
    go_wp2_with fail
    rw [← hW0]
    clear hW0 c0 c1 f0 f1 k0 k1 k2 k3 k4 k5 k6 hmk hs1 hk1
    refine HC.out.mono ?_
    rintro e w1 ⟨⟨x, ra, rn, rc, v, b, i, la, ln, lc, m, rfl⟩, hq, hfr⟩
    have hrb1 : w1.heap[w.heap.size + 1]? = some (.cells zrep 43 (0, 0)) := hfr.at HRB.out (fun hb => HNR.out hb)
    obtain ⟨⟨q0, q1, q2, q3, q4, q5, q6⟩, r0, r1, r2, r3, r4, r5, r6⟩ := rb_cells hrb1
    have HQ := Lib.hid hq
    have HFR := Lib.hid hfr
    have HRB1 := Lib.hid hrb1
    clear hq hfr hrb1
    go_wp2_with fail
    clear q0 q1 q2 q3 q4 q5 q6 r0 r1 r2 r3 r4 r5 r6
    obtain ⟨W5, hW5⟩ : ∃ W5, W5 = setR w1 (w.heap.size + 1) (.int .i64 x) (.slice ra rn rc) (.int .i64 v) (.int .i64 b) (.int .i64 i) (.slice la ln lc) (.bool m) := ⟨_, rfl⟩
    have hr5 := setR_at0 HRB1.out (.int .i64 x) (.slice ra rn rc) (.int .i64 v) (.int .i64 b) (.int .i64 i) (.slice la ln lc) (.bool m)
    have hF5 := (Frm.refl (fun b => b = w.heap.size + 1) w1).setR (R := w.heap.size + 1) (.inl rfl) (.int .i64 x) (.slice ra rn rc) (.int .i64 v) (.int .i64 b) (.int .i64 i) (.slice la ln lc) (.bool m)
    rw [← hW5] at hr5 hF5
    unfold setR at hW5
    rw [← hW5]
    refine bodyPost_ret (ret_rep rfl _ _ (w.heap.size + 1) rfl hr5) rfl ?_
    exact do_end HST.out HF0.out HSZ.out HQ.out HFR.out hF5
set_option maxRecDepth 100000 in
set_option maxHeartbeats 4000000 in
theorem do_6 {w : World} {s Mo Mu : Nat} {σ : Sto} (h : SAt w s Mo Mu σ) {vr at_ nn id : Int} {ky : ByteArray} {a : Option Addr} {n c : Nat} {Q : World → Ending → World → Prop} (hm : DoMeth w s Mo Mu σ 20 #[.int .i64 6, .string ky, .slice a n c, .int .i64 vr, .int .i64 at_, .int .i64 nn, .int .i64 id] Q) :
    Calls Tryz.prog 11 #[.pointer (some ⟨s, 0, none⟩), .agg #[.int .i64 6, .string ky, .slice a n c, .int .i64 vr, .int .i64 at_, .int .i64 nn, .int .i64 id]] w (DoOut w s Mo Mu σ Q) := by
  have hs := h.lts
  have HM := Lib.hid hm
  have hmn := map_nil 48 _ _ Tryz.underlying48
  clear hm
  rcases h with h | ⟨⟨mu, h, hmu⟩, he, hMo, hMu⟩
  · have E := ent_mk h #[.int .i64 6, .string ky, .slice a n c, .int .i64 vr, .int .i64 at_, .int .i64 nn, .int .i64 id]
    obtain ⟨W0, hW0⟩ : ∃ W0, W0 = (w.alloc (.cells #[.int .i64 6, .string ky, .slice a n c, .int .i64 vr, .int .i64 at_, .int .i64 nn, .int .i64 id] 34)).alloc (.cells zrep 43) := ⟨_, rfl⟩
    rw [← hW0] at E
    have HC := Lib.hid (HM.out W0 E.st (Frm.ofBelow E.bel) (by rw [E.sz]; exact Nat.le_refl _))
    have HST := Lib.hid E.st
    have HF0 := Lib.hid (Frm.ofBelow (F := fun b => b = s) E.bel)
    have HSZ := Lib.hid (show w.heap.size + 2 ≤ W0.heap.size by rw [E.sz]; exact Nat.le_refl _)
    have HRB := Lib.hid E.rb
    have HNR := Lib.hid (show ¬ StF s Mo Mu σ (w.heap.size + 1) from fun hb => by have := h.lt hb; omega)
    have c0 := cell_blk2 h.blk (i := 0) (u := .map (some Mo)) rfl
    have hq2 : ∀ j u, (#[.int .i64 6, .string ky, .slice a n c, .int .i64 vr, .int .i64 at_, .int .i64 nn, .int .i64 id] : Array Value)[j]? = some u → W0.cell? ⟨w.heap.size, j, none⟩ = some u := fun j u hu => cell_blk2 E.cb hu
    clear h HM E
    go_enter Tryz.func11, Tryz.ntmps11
    go_wp2_with fail
    unfold zrep at hW0
    rw [← hW0]
    clear hW0 c0 hq2
    refine HC.out.mono ?_
    rintro e w1 ⟨⟨x, ra, rn, rc, v, b, i, la, ln, lc, m, rfl⟩, hq, hfr⟩
    have hrb1 : w1.heap[w.heap.size + 1]? = some (.cells zrep 43 (0, 0)) := hfr.at HRB.out (fun hb => HNR.out hb)
    obtain ⟨⟨q0, q1, q2, q3, q4, q5, q6⟩, r0, r1, r2, r3, r4, r5, r6⟩ := rb_cells hrb1
    have HQ := Lib.hid hq
    have HFR := Lib.hid hfr
    have HRB1 := Lib.hid hrb1
    clear hq hfr hrb1
    go_wp2_with fail
    clear q0 q1 q2 q3 q4 q5 q6 r0 r1 r2 r3 r4 r5 r6
    obtain ⟨W5, hW5⟩ : ∃ W5, W5 = setR w1 (w.heap.size + 1) (.int .i64 x) (.slice ra rn rc) (.int .i64 v) (.int .i64 b) (.int .i64 i) (.slice la ln lc) (.bool m) := ⟨_, rfl⟩
    have hr5 := setR_at0 HRB1.out (.int .i64 x) (.slice ra rn rc) (.int .i64 v) (.int .i64 b) (.int .i64 i) (.slice la ln lc) (.bool m)
    have hF5 := (Frm.refl (fun b => b = w.heap.size + 1) w1).setR (R := w.heap.size + 1) (.inl rfl) (.int .i64 x) (.slice ra rn rc) (.int .i64 v) (.int .i64 b) (.int .i64 i) (.slice la ln lc) (.bool m)
    rw [← hW5] at hr5 hF5
    unfold setR at hW5
    rw [← hW5]
    refine bodyPost_ret (ret_rep rfl _ _ (w.heap.size + 1) rfl hr5) rfl ?_
    exact do_end HST.out HF0.out HSZ.out HQ.out HFR.out hF5
  · obtain ⟨wa, hwa⟩ : ∃ wa, wa = (w.alloc (.cells #[.int .i64 6, .string ky, .slice a n c, .int .i64 vr, .int .i64 at_, .int .i64 nn, .int .i64 id] 34)).alloc (.cells zrep 43) := ⟨_, rfl⟩
    have ez : wa.heap.size = w.heap.size + 2 := by rw [hwa]; simp
    have hbe : Below w.heap.size w wa := by rw [hwa]; exact ((Below.refl _ _).alloc (Nat.le_refl _) _).alloc (by simp) _
    have hcb : wa.heap[w.heap.size]? = some (.cells #[.int .i64 6, .string ky, .slice a n c, .int .i64 vr, .int .i64 at_, .int .i64 nn, .int .i64 id] 34 (0, 0)) := by
      rw [hwa]; exact (Below.heap_alloc _ _ _ (by simp)).trans (heap_new w _)
    have hrb : wa.heap[w.heap.size + 1]? = some (.cells zrep 43 (0, 0)) := by
      have := heap_new (w.alloc (.cells #[.int .i64 6, .string ky, .slice a n c, .int .i64 vr, .int .i64 at_, .int .i64 nn, .int .i64 id] 34)) (.cells zrep 43)
      rw [← hwa] at this
      rwa [show (w.alloc (.cells #[.int .i64 6, .string ky, .slice a n c, .int .i64 vr, .int .i64 at_, .int .i64 nn, .int .i64 id] 34)).heap.size = w.heap.size + 1 by simp] at this
    obtain ⟨hst, hfr⟩ := made_maps h wa hbe
    obtain ⟨W0, hW0⟩ : ∃ W0, W0 = (((wa.setCell ⟨s, 0, none⟩ (.map (some wa.heap.size))).setCell ⟨s, 1, none⟩ (.map (some (wa.heap.size + 1)))).alloc (.map #[] 0)).alloc (.map #[] 0) := ⟨_, rfl⟩
    rw [← hW0] at hst hfr
    have hfa : Frm (fun b => b = s) wa W0 := by
      rw [hW0]
      exact ((((Frm.refl (fun b => b = s) wa).set (p := s) (.inl rfl) 0 _).set (p := s) (.inl rfl) 1 _).below ((Below.refl _ _).alloc (Nat.le_refl _) _)).below ((Below.refl _ _).alloc (Nat.le_refl _) _)
    rw [ez, ← hMo, show Mo + 1 = Mu from by omega, ← he] at hst
    have hsz0 : w.heap.size + 2 ≤ W0.heap.size := by have := hfa.size; omega
    have hrb0 : W0.heap[w.heap.size + 1]? = some (.cells zrep 43 (0, 0)) := hfa.at hrb (by omega)
    have HC := Lib.hid (HM.out W0 hst hfr hsz0)
    have HST := Lib.hid hst
    have HF0 := Lib.hid hfr
    have HSZ := Lib.hid hsz0
    have HRB := Lib.hid hrb0
    have HNR := Lib.hid (show ¬ StF s Mo Mu σ (w.heap.size + 1) from fun hb => by
      rw [he] at hb
      rcases hb with g | g | g | ⟨p, hp, g⟩
      · omega
      · omega
      · omega
      · cases hp)
    have hla : wa.heap[s]? = some (.cells (freC mu σ.now) 51 (0, 0)) := (hbe.block s hs).trans h
    have c0 := cell_blk2 h (i := 0) (u := .map none) rfl
    have hmk := @run_makeMap Tryz.prog
    have MO := Lib.hid hMo
    have MU := Lib.hid hMu
    have hs1 : s < wa.heap.size := Nat.lt_of_lt_of_le hs hbe.size
    have hk1 : w.heap.size < wa.heap.size := by omega
    have HLA := Lib.hid hla
    have HCB := Lib.hid hcb
    have EZ := Lib.hid ez
    have HWA := Lib.hid hwa
    clear hmu h HM hst hfr hsz0 hrb0 hfa hcb hrb hbe he hMo hMu hla hwa ez
    go_enter Tryz.func11, Tryz.ntmps11
    go_upto_region 4 with fail
    have hwa2 := HWA.out
    unfold zrep at hwa2
    rw [← hwa2]
    clear hwa2 c0
    have c0 := cell_blk2 HLA.out (i := 0) (u := .map none) rfl
    have c1 := cell_blk2 HLA.out (i := 1) (u := .map mu) rfl
    have f0 := fro_blk2 HLA.out 0
    have f1 := fro_blk2 HLA.out 1
    have k0 := cell_blk2 HCB.out (i := 0) (u := .int .i64 6) rfl
    have k1 := cell_blk2 HCB.out (i := 1) (u := .string ky) rfl
    have k2 := cell_blk2 HCB.out (i := 2) (u := .slice a n c) rfl
    have k3 := cell_blk2 HCB.out (i := 3) (u := .int .i64 vr) rfl
    have k4 := cell_blk2 HCB.out (i := 4) (u := .int .i64 at_) rfl
    have k5 := cell_blk2 HCB.out (i := 5) (u := .int .i64 nn) rfl
    have k6 := cell_blk2 HCB.out (i := 6) (u := .int .i64 id) rfl
    go_wp2_with fail
    rw [← hW0]
    clear hW0 c0 c1 f0 f1 k0 k1 k2 k3 k4 k5 k6 hmk hs1 hk1
    refine HC.out.mono ?_
    rintro e w1 ⟨⟨x, ra, rn, rc, v, b, i, la, ln, lc, m, rfl⟩, hq, hfr⟩
    have hrb1 : w1.heap[w.heap.size + 1]? = some (.cells zrep 43 (0, 0)) := hfr.at HRB.out (fun hb => HNR.out hb)
    obtain ⟨⟨q0, q1, q2, q3, q4, q5, q6⟩, r0, r1, r2, r3, r4, r5, r6⟩ := rb_cells hrb1
    have HQ := Lib.hid hq
    have HFR := Lib.hid hfr
    have HRB1 := Lib.hid hrb1
    clear hq hfr hrb1
    go_wp2_with fail
    clear q0 q1 q2 q3 q4 q5 q6 r0 r1 r2 r3 r4 r5 r6
    obtain ⟨W5, hW5⟩ : ∃ W5, W5 = setR w1 (w.heap.size + 1) (.int .i64 x) (.slice ra rn rc) (.int .i64 v) (.int .i64 b) (.int .i64 i) (.slice la ln lc) (.bool m) := ⟨_, rfl⟩
    have hr5 := setR_at0 HRB1.out (.int .i64 x) (.slice ra rn rc) (.int .i64 v) (.int .i64 b) (.int .i64 i) (.slice la ln lc) (.bool m)
    have hF5 := (Frm.refl (fun b => b = w.heap.size + 1) w1).setR (R := w.heap.size + 1) (.inl rfl) (.int .i64 x) (.slice ra rn rc) (.int .i64 v) (.int .i64 b) (.int .i64 i) (.slice la ln lc) (.bool m)
    rw [← hW5] at hr5 hF5
    unfold setR at hW5
    rw [← hW5]
    refine bodyPost_ret (ret_rep rfl _ _ (w.heap.size + 1) rfl hr5) rfl ?_
    exact do_end HST.out HF0.out HSZ.out HQ.out HFR.out hF5
set_option maxRecDepth 100000 in
set_option maxHeartbeats 4000000 in
theorem do_7 {w : World} {s Mo Mu : Nat} {σ : Sto} (h : SAt w s Mo Mu σ) {vr at_ nn id : Int} {ky : ByteArray} {a : Option Addr} {n c : Nat} {Q : World → Ending → World → Prop} (hm : DoMeth w s Mo Mu σ 21 #[.int .i64 7, .string ky, .slice a n c, .int .i64 vr, .int .i64 at_, .int .i64 nn, .int .i64 id] Q) :
    Calls Tryz.prog 11 #[.pointer (some ⟨s, 0, none⟩), .agg #[.int .i64 7, .string ky, .slice a n c, .int .i64 vr, .int .i64 at_, .int .i64 nn, .int .i64 id]] w (DoOut w s Mo Mu σ Q) := by
  have hs := h.lts
  have HM := Lib.hid hm
  have hmn := map_nil 48 _ _ Tryz.underlying48
  clear hm
  rcases h with h | ⟨⟨mu, h, hmu⟩, he, hMo, hMu⟩
  · have E := ent_mk h #[.int .i64 7, .string ky, .slice a n c, .int .i64 vr, .int .i64 at_, .int .i64 nn, .int .i64 id]
    obtain ⟨W0, hW0⟩ : ∃ W0, W0 = (w.alloc (.cells #[.int .i64 7, .string ky, .slice a n c, .int .i64 vr, .int .i64 at_, .int .i64 nn, .int .i64 id] 34)).alloc (.cells zrep 43) := ⟨_, rfl⟩
    rw [← hW0] at E
    have HC := Lib.hid (HM.out W0 E.st (Frm.ofBelow E.bel) (by rw [E.sz]; exact Nat.le_refl _))
    have HST := Lib.hid E.st
    have HF0 := Lib.hid (Frm.ofBelow (F := fun b => b = s) E.bel)
    have HSZ := Lib.hid (show w.heap.size + 2 ≤ W0.heap.size by rw [E.sz]; exact Nat.le_refl _)
    have HRB := Lib.hid E.rb
    have HNR := Lib.hid (show ¬ StF s Mo Mu σ (w.heap.size + 1) from fun hb => by have := h.lt hb; omega)
    have c0 := cell_blk2 h.blk (i := 0) (u := .map (some Mo)) rfl
    have hq2 : ∀ j u, (#[.int .i64 7, .string ky, .slice a n c, .int .i64 vr, .int .i64 at_, .int .i64 nn, .int .i64 id] : Array Value)[j]? = some u → W0.cell? ⟨w.heap.size, j, none⟩ = some u := fun j u hu => cell_blk2 E.cb hu
    clear h HM E
    go_enter Tryz.func11, Tryz.ntmps11
    go_wp2_with fail
    unfold zrep at hW0
    rw [← hW0]
    clear hW0 c0 hq2
    refine HC.out.mono ?_
    rintro e w1 ⟨⟨x, ra, rn, rc, v, b, i, la, ln, lc, m, rfl⟩, hq, hfr⟩
    have hrb1 : w1.heap[w.heap.size + 1]? = some (.cells zrep 43 (0, 0)) := hfr.at HRB.out (fun hb => HNR.out hb)
    obtain ⟨⟨q0, q1, q2, q3, q4, q5, q6⟩, r0, r1, r2, r3, r4, r5, r6⟩ := rb_cells hrb1
    have HQ := Lib.hid hq
    have HFR := Lib.hid hfr
    have HRB1 := Lib.hid hrb1
    clear hq hfr hrb1
    go_wp2_with fail
    clear q0 q1 q2 q3 q4 q5 q6 r0 r1 r2 r3 r4 r5 r6
    obtain ⟨W5, hW5⟩ : ∃ W5, W5 = setR w1 (w.heap.size + 1) (.int .i64 x) (.slice ra rn rc) (.int .i64 v) (.int .i64 b) (.int .i64 i) (.slice la ln lc) (.bool m) := ⟨_, rfl⟩
    have hr5 := setR_at0 HRB1.out (.int .i64 x) (.slice ra rn rc) (.int .i64 v) (.int .i64 b) (.int .i64 i) (.slice la ln lc) (.bool m)
    have hF5 := (Frm.refl (fun b => b = w.heap.size + 1) w1).setR (R := w.heap.size + 1) (.inl rfl) (.int .i64 x) (.slice ra rn rc) (.int .i64 v) (.int .i64 b) (.int .i64 i) (.slice la ln lc) (.bool m)
    rw [← hW5] at hr5 hF5
    unfold setR at hW5
    rw [← hW5]
    refine bodyPost_ret (ret_rep rfl _ _ (w.heap.size + 1) rfl hr5) rfl ?_
    exact do_end HST.out HF0.out HSZ.out HQ.out HFR.out hF5
  · obtain ⟨wa, hwa⟩ : ∃ wa, wa = (w.alloc (.cells #[.int .i64 7, .string ky, .slice a n c, .int .i64 vr, .int .i64 at_, .int .i64 nn, .int .i64 id] 34)).alloc (.cells zrep 43) := ⟨_, rfl⟩
    have ez : wa.heap.size = w.heap.size + 2 := by rw [hwa]; simp
    have hbe : Below w.heap.size w wa := by rw [hwa]; exact ((Below.refl _ _).alloc (Nat.le_refl _) _).alloc (by simp) _
    have hcb : wa.heap[w.heap.size]? = some (.cells #[.int .i64 7, .string ky, .slice a n c, .int .i64 vr, .int .i64 at_, .int .i64 nn, .int .i64 id] 34 (0, 0)) := by
      rw [hwa]; exact (Below.heap_alloc _ _ _ (by simp)).trans (heap_new w _)
    have hrb : wa.heap[w.heap.size + 1]? = some (.cells zrep 43 (0, 0)) := by
      have := heap_new (w.alloc (.cells #[.int .i64 7, .string ky, .slice a n c, .int .i64 vr, .int .i64 at_, .int .i64 nn, .int .i64 id] 34)) (.cells zrep 43)
      rw [← hwa] at this
      rwa [show (w.alloc (.cells #[.int .i64 7, .string ky, .slice a n c, .int .i64 vr, .int .i64 at_, .int .i64 nn, .int .i64 id] 34)).heap.size = w.heap.size + 1 by simp] at this
    obtain ⟨hst, hfr⟩ := made_maps h wa hbe
    obtain ⟨W0, hW0⟩ : ∃ W0, W0 = (((wa.setCell ⟨s, 0, none⟩ (.map (some wa.heap.size))).setCell ⟨s, 1, none⟩ (.map (some (wa.heap.size + 1)))).alloc (.map #[] 0)).alloc (.map #[] 0) := ⟨_, rfl⟩
    rw [← hW0] at hst hfr
    have hfa : Frm (fun b => b = s) wa W0 := by
      rw [hW0]
      exact ((((Frm.refl (fun b => b = s) wa).set (p := s) (.inl rfl) 0 _).set (p := s) (.inl rfl) 1 _).below ((Below.refl _ _).alloc (Nat.le_refl _) _)).below ((Below.refl _ _).alloc (Nat.le_refl _) _)
    rw [ez, ← hMo, show Mo + 1 = Mu from by omega, ← he] at hst
    have hsz0 : w.heap.size + 2 ≤ W0.heap.size := by have := hfa.size; omega
    have hrb0 : W0.heap[w.heap.size + 1]? = some (.cells zrep 43 (0, 0)) := hfa.at hrb (by omega)
    have HC := Lib.hid (HM.out W0 hst hfr hsz0)
    have HST := Lib.hid hst
    have HF0 := Lib.hid hfr
    have HSZ := Lib.hid hsz0
    have HRB := Lib.hid hrb0
    have HNR := Lib.hid (show ¬ StF s Mo Mu σ (w.heap.size + 1) from fun hb => by
      rw [he] at hb
      rcases hb with g | g | g | ⟨p, hp, g⟩
      · omega
      · omega
      · omega
      · cases hp)
    have hla : wa.heap[s]? = some (.cells (freC mu σ.now) 51 (0, 0)) := (hbe.block s hs).trans h
    have c0 := cell_blk2 h (i := 0) (u := .map none) rfl
    have hmk := @run_makeMap Tryz.prog
    have MO := Lib.hid hMo
    have MU := Lib.hid hMu
    have hs1 : s < wa.heap.size := Nat.lt_of_lt_of_le hs hbe.size
    have hk1 : w.heap.size < wa.heap.size := by omega
    have HLA := Lib.hid hla
    have HCB := Lib.hid hcb
    have EZ := Lib.hid ez
    have HWA := Lib.hid hwa
    clear hmu h HM hst hfr hsz0 hrb0 hfa hcb hrb hbe he hMo hMu hla hwa ez
    go_enter Tryz.func11, Tryz.ntmps11
    go_upto_region 4 with fail
    have hwa2 := HWA.out
    unfold zrep at hwa2
    rw [← hwa2]
    clear hwa2 c0
    have c0 := cell_blk2 HLA.out (i := 0) (u := .map none) rfl
    have c1 := cell_blk2 HLA.out (i := 1) (u := .map mu) rfl
    have f0 := fro_blk2 HLA.out 0
    have f1 := fro_blk2 HLA.out 1
    have k0 := cell_blk2 HCB.out (i := 0) (u := .int .i64 7) rfl
    have k1 := cell_blk2 HCB.out (i := 1) (u := .string ky) rfl
    have k2 := cell_blk2 HCB.out (i := 2) (u := .slice a n c) rfl
    have k3 := cell_blk2 HCB.out (i := 3) (u := .int .i64 vr) rfl
    have k4 := cell_blk2 HCB.out (i := 4) (u := .int .i64 at_) rfl
    have k5 := cell_blk2 HCB.out (i := 5) (u := .int .i64 nn) rfl
    have k6 := cell_blk2 HCB.out (i := 6) (u := .int .i64 id) rfl
    go_wp2_with fail
    rw [← hW0]
    clear hW0 c0 c1 f0 f1 k0 k1 k2 k3 k4 k5 k6 hmk hs1 hk1
    refine HC.out.mono ?_
    rintro e w1 ⟨⟨x, ra, rn, rc, v, b, i, la, ln, lc, m, rfl⟩, hq, hfr⟩
    have hrb1 : w1.heap[w.heap.size + 1]? = some (.cells zrep 43 (0, 0)) := hfr.at HRB.out (fun hb => HNR.out hb)
    obtain ⟨⟨q0, q1, q2, q3, q4, q5, q6⟩, r0, r1, r2, r3, r4, r5, r6⟩ := rb_cells hrb1
    have HQ := Lib.hid hq
    have HFR := Lib.hid hfr
    have HRB1 := Lib.hid hrb1
    clear hq hfr hrb1
    go_wp2_with fail
    clear q0 q1 q2 q3 q4 q5 q6 r0 r1 r2 r3 r4 r5 r6
    obtain ⟨W5, hW5⟩ : ∃ W5, W5 = setR w1 (w.heap.size + 1) (.int .i64 x) (.slice ra rn rc) (.int .i64 v) (.int .i64 b) (.int .i64 i) (.slice la ln lc) (.bool m) := ⟨_, rfl⟩
    have hr5 := setR_at0 HRB1.out (.int .i64 x) (.slice ra rn rc) (.int .i64 v) (.int .i64 b) (.int .i64 i) (.slice la ln lc) (.bool m)
    have hF5 := (Frm.refl (fun b => b = w.heap.size + 1) w1).setR (R := w.heap.size + 1) (.inl rfl) (.int .i64 x) (.slice ra rn rc) (.int .i64 v) (.int .i64 b) (.int .i64 i) (.slice la ln lc) (.bool m)
    rw [← hW5] at hr5 hF5
    unfold setR at hW5
    rw [← hW5]
    refine bodyPost_ret (ret_rep rfl _ _ (w.heap.size + 1) rfl hr5) rfl ?_
    exact do_end HST.out HF0.out HSZ.out HQ.out HFR.out hF5
set_option maxRecDepth 100000 in
set_option maxHeartbeats 4000000 in
theorem do_8 {w : World} {s Mo Mu : Nat} {σ : Sto} (h : SAt w s Mo Mu σ) {vr at_ nn id : Int} {ky : ByteArray} {a : Option Addr} {n c : Nat} {Q : World → Ending → World → Prop} (hm : DoMeth w s Mo Mu σ 22 #[.int .i64 8, .string ky, .slice a n c, .int .i64 vr, .int .i64 at_, .int .i64 nn, .int .i64 id] Q) :
    Calls Tryz.prog 11 #[.pointer (some ⟨s, 0, none⟩), .agg #[.int .i64 8, .string ky, .slice a n c, .int .i64 vr, .int .i64 at_, .int .i64 nn, .int .i64 id]] w (DoOut w s Mo Mu σ Q) := by
  have hs := h.lts
  have HM := Lib.hid hm
  have hmn := map_nil 48 _ _ Tryz.underlying48
  clear hm
  rcases h with h | ⟨⟨mu, h, hmu⟩, he, hMo, hMu⟩
  · have E := ent_mk h #[.int .i64 8, .string ky, .slice a n c, .int .i64 vr, .int .i64 at_, .int .i64 nn, .int .i64 id]
    obtain ⟨W0, hW0⟩ : ∃ W0, W0 = (w.alloc (.cells #[.int .i64 8, .string ky, .slice a n c, .int .i64 vr, .int .i64 at_, .int .i64 nn, .int .i64 id] 34)).alloc (.cells zrep 43) := ⟨_, rfl⟩
    rw [← hW0] at E
    have HC := Lib.hid (HM.out W0 E.st (Frm.ofBelow E.bel) (by rw [E.sz]; exact Nat.le_refl _))
    have HST := Lib.hid E.st
    have HF0 := Lib.hid (Frm.ofBelow (F := fun b => b = s) E.bel)
    have HSZ := Lib.hid (show w.heap.size + 2 ≤ W0.heap.size by rw [E.sz]; exact Nat.le_refl _)
    have HRB := Lib.hid E.rb
    have HNR := Lib.hid (show ¬ StF s Mo Mu σ (w.heap.size + 1) from fun hb => by have := h.lt hb; omega)
    have c0 := cell_blk2 h.blk (i := 0) (u := .map (some Mo)) rfl
    have hq2 : ∀ j u, (#[.int .i64 8, .string ky, .slice a n c, .int .i64 vr, .int .i64 at_, .int .i64 nn, .int .i64 id] : Array Value)[j]? = some u → W0.cell? ⟨w.heap.size, j, none⟩ = some u := fun j u hu => cell_blk2 E.cb hu
    clear h HM E
    go_enter Tryz.func11, Tryz.ntmps11
    go_wp2_with fail
    unfold zrep at hW0
    rw [← hW0]
    clear hW0 c0 hq2
    refine HC.out.mono ?_
    rintro e w1 ⟨⟨x, ra, rn, rc, v, b, i, la, ln, lc, m, rfl⟩, hq, hfr⟩
    have hrb1 : w1.heap[w.heap.size + 1]? = some (.cells zrep 43 (0, 0)) := hfr.at HRB.out (fun hb => HNR.out hb)
    obtain ⟨⟨q0, q1, q2, q3, q4, q5, q6⟩, r0, r1, r2, r3, r4, r5, r6⟩ := rb_cells hrb1
    have HQ := Lib.hid hq
    have HFR := Lib.hid hfr
    have HRB1 := Lib.hid hrb1
    clear hq hfr hrb1
    go_wp2_with fail
    clear q0 q1 q2 q3 q4 q5 q6 r0 r1 r2 r3 r4 r5 r6
    obtain ⟨W5, hW5⟩ : ∃ W5, W5 = setR w1 (w.heap.size + 1) (.int .i64 x) (.slice ra rn rc) (.int .i64 v) (.int .i64 b) (.int .i64 i) (.slice la ln lc) (.bool m) := ⟨_, rfl⟩
    have hr5 := setR_at0 HRB1.out (.int .i64 x) (.slice ra rn rc) (.int .i64 v) (.int .i64 b) (.int .i64 i) (.slice la ln lc) (.bool m)
    have hF5 := (Frm.refl (fun b => b = w.heap.size + 1) w1).setR (R := w.heap.size + 1) (.inl rfl) (.int .i64 x) (.slice ra rn rc) (.int .i64 v) (.int .i64 b) (.int .i64 i) (.slice la ln lc) (.bool m)
    rw [← hW5] at hr5 hF5
    unfold setR at hW5
    rw [← hW5]
    refine bodyPost_ret (ret_rep rfl _ _ (w.heap.size + 1) rfl hr5) rfl ?_
    exact do_end HST.out HF0.out HSZ.out HQ.out HFR.out hF5
  · obtain ⟨wa, hwa⟩ : ∃ wa, wa = (w.alloc (.cells #[.int .i64 8, .string ky, .slice a n c, .int .i64 vr, .int .i64 at_, .int .i64 nn, .int .i64 id] 34)).alloc (.cells zrep 43) := ⟨_, rfl⟩
    have ez : wa.heap.size = w.heap.size + 2 := by rw [hwa]; simp
    have hbe : Below w.heap.size w wa := by rw [hwa]; exact ((Below.refl _ _).alloc (Nat.le_refl _) _).alloc (by simp) _
    have hcb : wa.heap[w.heap.size]? = some (.cells #[.int .i64 8, .string ky, .slice a n c, .int .i64 vr, .int .i64 at_, .int .i64 nn, .int .i64 id] 34 (0, 0)) := by
      rw [hwa]; exact (Below.heap_alloc _ _ _ (by simp)).trans (heap_new w _)
    have hrb : wa.heap[w.heap.size + 1]? = some (.cells zrep 43 (0, 0)) := by
      have := heap_new (w.alloc (.cells #[.int .i64 8, .string ky, .slice a n c, .int .i64 vr, .int .i64 at_, .int .i64 nn, .int .i64 id] 34)) (.cells zrep 43)
      rw [← hwa] at this
      rwa [show (w.alloc (.cells #[.int .i64 8, .string ky, .slice a n c, .int .i64 vr, .int .i64 at_, .int .i64 nn, .int .i64 id] 34)).heap.size = w.heap.size + 1 by simp] at this
    obtain ⟨hst, hfr⟩ := made_maps h wa hbe
    obtain ⟨W0, hW0⟩ : ∃ W0, W0 = (((wa.setCell ⟨s, 0, none⟩ (.map (some wa.heap.size))).setCell ⟨s, 1, none⟩ (.map (some (wa.heap.size + 1)))).alloc (.map #[] 0)).alloc (.map #[] 0) := ⟨_, rfl⟩
    rw [← hW0] at hst hfr
    have hfa : Frm (fun b => b = s) wa W0 := by
      rw [hW0]
      exact ((((Frm.refl (fun b => b = s) wa).set (p := s) (.inl rfl) 0 _).set (p := s) (.inl rfl) 1 _).below ((Below.refl _ _).alloc (Nat.le_refl _) _)).below ((Below.refl _ _).alloc (Nat.le_refl _) _)
    rw [ez, ← hMo, show Mo + 1 = Mu from by omega, ← he] at hst
    have hsz0 : w.heap.size + 2 ≤ W0.heap.size := by have := hfa.size; omega
    have hrb0 : W0.heap[w.heap.size + 1]? = some (.cells zrep 43 (0, 0)) := hfa.at hrb (by omega)
    have HC := Lib.hid (HM.out W0 hst hfr hsz0)
    have HST := Lib.hid hst
    have HF0 := Lib.hid hfr
    have HSZ := Lib.hid hsz0
    have HRB := Lib.hid hrb0
    have HNR := Lib.hid (show ¬ StF s Mo Mu σ (w.heap.size + 1) from fun hb => by
      rw [he] at hb
      rcases hb with g | g | g | ⟨p, hp, g⟩
      · omega
      · omega
      · omega
      · cases hp)
    have hla : wa.heap[s]? = some (.cells (freC mu σ.now) 51 (0, 0)) := (hbe.block s hs).trans h
    have c0 := cell_blk2 h (i := 0) (u := .map none) rfl
    have hmk := @run_makeMap Tryz.prog
    have MO := Lib.hid hMo
    have MU := Lib.hid hMu
    have hs1 : s < wa.heap.size := Nat.lt_of_lt_of_le hs hbe.size
    have hk1 : w.heap.size < wa.heap.size := by omega
    have HLA := Lib.hid hla
    have HCB := Lib.hid hcb
    have EZ := Lib.hid ez
    have HWA := Lib.hid hwa
    clear hmu h HM hst hfr hsz0 hrb0 hfa hcb hrb hbe he hMo hMu hla hwa ez
    go_enter Tryz.func11, Tryz.ntmps11
    go_upto_region 4 with fail
    have hwa2 := HWA.out
    unfold zrep at hwa2
    rw [← hwa2]
    clear hwa2 c0
    have c0 := cell_blk2 HLA.out (i := 0) (u := .map none) rfl
    have c1 := cell_blk2 HLA.out (i := 1) (u := .map mu) rfl
    have f0 := fro_blk2 HLA.out 0
    have f1 := fro_blk2 HLA.out 1
    have k0 := cell_blk2 HCB.out (i := 0) (u := .int .i64 8) rfl
    have k1 := cell_blk2 HCB.out (i := 1) (u := .string ky) rfl
    have k2 := cell_blk2 HCB.out (i := 2) (u := .slice a n c) rfl
    have k3 := cell_blk2 HCB.out (i := 3) (u := .int .i64 vr) rfl
    have k4 := cell_blk2 HCB.out (i := 4) (u := .int .i64 at_) rfl
    have k5 := cell_blk2 HCB.out (i := 5) (u := .int .i64 nn) rfl
    have k6 := cell_blk2 HCB.out (i := 6) (u := .int .i64 id) rfl
    go_wp2_with fail
    rw [← hW0]
    clear hW0 c0 c1 f0 f1 k0 k1 k2 k3 k4 k5 k6 hmk hs1 hk1
    refine HC.out.mono ?_
    rintro e w1 ⟨⟨x, ra, rn, rc, v, b, i, la, ln, lc, m, rfl⟩, hq, hfr⟩
    have hrb1 : w1.heap[w.heap.size + 1]? = some (.cells zrep 43 (0, 0)) := hfr.at HRB.out (fun hb => HNR.out hb)
    obtain ⟨⟨q0, q1, q2, q3, q4, q5, q6⟩, r0, r1, r2, r3, r4, r5, r6⟩ := rb_cells hrb1
    have HQ := Lib.hid hq
    have HFR := Lib.hid hfr
    have HRB1 := Lib.hid hrb1
    clear hq hfr hrb1
    go_wp2_with fail
    clear q0 q1 q2 q3 q4 q5 q6 r0 r1 r2 r3 r4 r5 r6
    obtain ⟨W5, hW5⟩ : ∃ W5, W5 = setR w1 (w.heap.size + 1) (.int .i64 x) (.slice ra rn rc) (.int .i64 v) (.int .i64 b) (.int .i64 i) (.slice la ln lc) (.bool m) := ⟨_, rfl⟩
    have hr5 := setR_at0 HRB1.out (.int .i64 x) (.slice ra rn rc) (.int .i64 v) (.int .i64 b) (.int .i64 i) (.slice la ln lc) (.bool m)
    have hF5 := (Frm.refl (fun b => b = w.heap.size + 1) w1).setR (R := w.heap.size + 1) (.inl rfl) (.int .i64 x) (.slice ra rn rc) (.int .i64 v) (.int .i64 b) (.int .i64 i) (.slice la ln lc) (.bool m)
    rw [← hW5] at hr5 hF5
    unfold setR at hW5
    rw [← hW5]
    refine bodyPost_ret (ret_rep rfl _ _ (w.heap.size + 1) rfl hr5) rfl ?_
    exact do_end HST.out HF0.out HSZ.out HQ.out HFR.out hF5
set_option maxRecDepth 100000 in
set_option maxHeartbeats 4000000 in
theorem do_9 {w : World} {s Mo Mu : Nat} {σ : Sto} (h : SAt w s Mo Mu σ) {vr at_ nn id : Int} {ky : ByteArray} {a : Option Addr} {n c : Nat} {Q : World → Ending → World → Prop} (hm : DoMeth w s Mo Mu σ 23 #[.int .i64 9, .string ky, .slice a n c, .int .i64 vr, .int .i64 at_, .int .i64 nn, .int .i64 id] Q) :
    Calls Tryz.prog 11 #[.pointer (some ⟨s, 0, none⟩), .agg #[.int .i64 9, .string ky, .slice a n c, .int .i64 vr, .int .i64 at_, .int .i64 nn, .int .i64 id]] w (DoOut w s Mo Mu σ Q) := by
  have hs := h.lts
  have HM := Lib.hid hm
  have hmn := map_nil 48 _ _ Tryz.underlying48
  clear hm
  rcases h with h | ⟨⟨mu, h, hmu⟩, he, hMo, hMu⟩
  · have E := ent_mk h #[.int .i64 9, .string ky, .slice a n c, .int .i64 vr, .int .i64 at_, .int .i64 nn, .int .i64 id]
    obtain ⟨W0, hW0⟩ : ∃ W0, W0 = (w.alloc (.cells #[.int .i64 9, .string ky, .slice a n c, .int .i64 vr, .int .i64 at_, .int .i64 nn, .int .i64 id] 34)).alloc (.cells zrep 43) := ⟨_, rfl⟩
    rw [← hW0] at E
    have HC := Lib.hid (HM.out W0 E.st (Frm.ofBelow E.bel) (by rw [E.sz]; exact Nat.le_refl _))
    have HST := Lib.hid E.st
    have HF0 := Lib.hid (Frm.ofBelow (F := fun b => b = s) E.bel)
    have HSZ := Lib.hid (show w.heap.size + 2 ≤ W0.heap.size by rw [E.sz]; exact Nat.le_refl _)
    have HRB := Lib.hid E.rb
    have HNR := Lib.hid (show ¬ StF s Mo Mu σ (w.heap.size + 1) from fun hb => by have := h.lt hb; omega)
    have c0 := cell_blk2 h.blk (i := 0) (u := .map (some Mo)) rfl
    have hq2 : ∀ j u, (#[.int .i64 9, .string ky, .slice a n c, .int .i64 vr, .int .i64 at_, .int .i64 nn, .int .i64 id] : Array Value)[j]? = some u → W0.cell? ⟨w.heap.size, j, none⟩ = some u := fun j u hu => cell_blk2 E.cb hu
    clear h HM E
    go_enter Tryz.func11, Tryz.ntmps11
    go_wp2_with fail
    unfold zrep at hW0
    rw [← hW0]
    clear hW0 c0 hq2
    refine HC.out.mono ?_
    rintro e w1 ⟨⟨x, ra, rn, rc, v, b, i, la, ln, lc, m, rfl⟩, hq, hfr⟩
    have hrb1 : w1.heap[w.heap.size + 1]? = some (.cells zrep 43 (0, 0)) := hfr.at HRB.out (fun hb => HNR.out hb)
    obtain ⟨⟨q0, q1, q2, q3, q4, q5, q6⟩, r0, r1, r2, r3, r4, r5, r6⟩ := rb_cells hrb1
    have HQ := Lib.hid hq
    have HFR := Lib.hid hfr
    have HRB1 := Lib.hid hrb1
    clear hq hfr hrb1
    go_wp2_with fail
    clear q0 q1 q2 q3 q4 q5 q6 r0 r1 r2 r3 r4 r5 r6
    obtain ⟨W5, hW5⟩ : ∃ W5, W5 = setR w1 (w.heap.size + 1) (.int .i64 x) (.slice ra rn rc) (.int .i64 v) (.int .i64 b) (.int .i64 i) (.slice la ln lc) (.bool m) := ⟨_, rfl⟩
    have hr5 := setR_at0 HRB1.out (.int .i64 x) (.slice ra rn rc) (.int .i64 v) (.int .i64 b) (.int .i64 i) (.slice la ln lc) (.bool m)
    have hF5 := (Frm.refl (fun b => b = w.heap.size + 1) w1).setR (R := w.heap.size + 1) (.inl rfl) (.int .i64 x) (.slice ra rn rc) (.int .i64 v) (.int .i64 b) (.int .i64 i) (.slice la ln lc) (.bool m)
    rw [← hW5] at hr5 hF5
    unfold setR at hW5
    rw [← hW5]
    refine bodyPost_ret (ret_rep rfl _ _ (w.heap.size + 1) rfl hr5) rfl ?_
    exact do_end HST.out HF0.out HSZ.out HQ.out HFR.out hF5
  · obtain ⟨wa, hwa⟩ : ∃ wa, wa = (w.alloc (.cells #[.int .i64 9, .string ky, .slice a n c, .int .i64 vr, .int .i64 at_, .int .i64 nn, .int .i64 id] 34)).alloc (.cells zrep 43) := ⟨_, rfl⟩
    have ez : wa.heap.size = w.heap.size + 2 := by rw [hwa]; simp
    have hbe : Below w.heap.size w wa := by rw [hwa]; exact ((Below.refl _ _).alloc (Nat.le_refl _) _).alloc (by simp) _
    have hcb : wa.heap[w.heap.size]? = some (.cells #[.int .i64 9, .string ky, .slice a n c, .int .i64 vr, .int .i64 at_, .int .i64 nn, .int .i64 id] 34 (0, 0)) := by
      rw [hwa]; exact (Below.heap_alloc _ _ _ (by simp)).trans (heap_new w _)
    have hrb : wa.heap[w.heap.size + 1]? = some (.cells zrep 43 (0, 0)) := by
      have := heap_new (w.alloc (.cells #[.int .i64 9, .string ky, .slice a n c, .int .i64 vr, .int .i64 at_, .int .i64 nn, .int .i64 id] 34)) (.cells zrep 43)
      rw [← hwa] at this
      rwa [show (w.alloc (.cells #[.int .i64 9, .string ky, .slice a n c, .int .i64 vr, .int .i64 at_, .int .i64 nn, .int .i64 id] 34)).heap.size = w.heap.size + 1 by simp] at this
    obtain ⟨hst, hfr⟩ := made_maps h wa hbe
    obtain ⟨W0, hW0⟩ : ∃ W0, W0 = (((wa.setCell ⟨s, 0, none⟩ (.map (some wa.heap.size))).setCell ⟨s, 1, none⟩ (.map (some (wa.heap.size + 1)))).alloc (.map #[] 0)).alloc (.map #[] 0) := ⟨_, rfl⟩
    rw [← hW0] at hst hfr
    have hfa : Frm (fun b => b = s) wa W0 := by
      rw [hW0]
      exact ((((Frm.refl (fun b => b = s) wa).set (p := s) (.inl rfl) 0 _).set (p := s) (.inl rfl) 1 _).below ((Below.refl _ _).alloc (Nat.le_refl _) _)).below ((Below.refl _ _).alloc (Nat.le_refl _) _)
    rw [ez, ← hMo, show Mo + 1 = Mu from by omega, ← he] at hst
    have hsz0 : w.heap.size + 2 ≤ W0.heap.size := by have := hfa.size; omega
    have hrb0 : W0.heap[w.heap.size + 1]? = some (.cells zrep 43 (0, 0)) := hfa.at hrb (by omega)
    have HC := Lib.hid (HM.out W0 hst hfr hsz0)
    have HST := Lib.hid hst
    have HF0 := Lib.hid hfr
    have HSZ := Lib.hid hsz0
    have HRB := Lib.hid hrb0
    have HNR := Lib.hid (show ¬ StF s Mo Mu σ (w.heap.size + 1) from fun hb => by
      rw [he] at hb
      rcases hb with g | g | g | ⟨p, hp, g⟩
      · omega
      · omega
      · omega
      · cases hp)
    have hla : wa.heap[s]? = some (.cells (freC mu σ.now) 51 (0, 0)) := (hbe.block s hs).trans h
    have c0 := cell_blk2 h (i := 0) (u := .map none) rfl
    have hmk := @run_makeMap Tryz.prog
    have MO := Lib.hid hMo
    have MU := Lib.hid hMu
    have hs1 : s < wa.heap.size := Nat.lt_of_lt_of_le hs hbe.size
    have hk1 : w.heap.size < wa.heap.size := by omega
    have HLA := Lib.hid hla
    have HCB := Lib.hid hcb
    have EZ := Lib.hid ez
    have HWA := Lib.hid hwa
    clear hmu h HM hst hfr hsz0 hrb0 hfa hcb hrb hbe he hMo hMu hla hwa ez
    go_enter Tryz.func11, Tryz.ntmps11
    go_upto_region 4 with fail
    have hwa2 := HWA.out
    unfold zrep at hwa2
    rw [← hwa2]
    clear hwa2 c0
    have c0 := cell_blk2 HLA.out (i := 0) (u := .map none) rfl
    have c1 := cell_blk2 HLA.out (i := 1) (u := .map mu) rfl
    have f0 := fro_blk2 HLA.out 0
    have f1 := fro_blk2 HLA.out 1
    have k0 := cell_blk2 HCB.out (i := 0) (u := .int .i64 9) rfl
    have k1 := cell_blk2 HCB.out (i := 1) (u := .string ky) rfl
    have k2 := cell_blk2 HCB.out (i := 2) (u := .slice a n c) rfl
    have k3 := cell_blk2 HCB.out (i := 3) (u := .int .i64 vr) rfl
    have k4 := cell_blk2 HCB.out (i := 4) (u := .int .i64 at_) rfl
    have k5 := cell_blk2 HCB.out (i := 5) (u := .int .i64 nn) rfl
    have k6 := cell_blk2 HCB.out (i := 6) (u := .int .i64 id) rfl
    go_wp2_with fail
    rw [← hW0]
    clear hW0 c0 c1 f0 f1 k0 k1 k2 k3 k4 k5 k6 hmk hs1 hk1
    refine HC.out.mono ?_
    rintro e w1 ⟨⟨x, ra, rn, rc, v, b, i, la, ln, lc, m, rfl⟩, hq, hfr⟩
    have hrb1 : w1.heap[w.heap.size + 1]? = some (.cells zrep 43 (0, 0)) := hfr.at HRB.out (fun hb => HNR.out hb)
    obtain ⟨⟨q0, q1, q2, q3, q4, q5, q6⟩, r0, r1, r2, r3, r4, r5, r6⟩ := rb_cells hrb1
    have HQ := Lib.hid hq
    have HFR := Lib.hid hfr
    have HRB1 := Lib.hid hrb1
    clear hq hfr hrb1
    go_wp2_with fail
    clear q0 q1 q2 q3 q4 q5 q6 r0 r1 r2 r3 r4 r5 r6
    obtain ⟨W5, hW5⟩ : ∃ W5, W5 = setR w1 (w.heap.size + 1) (.int .i64 x) (.slice ra rn rc) (.int .i64 v) (.int .i64 b) (.int .i64 i) (.slice la ln lc) (.bool m) := ⟨_, rfl⟩
    have hr5 := setR_at0 HRB1.out (.int .i64 x) (.slice ra rn rc) (.int .i64 v) (.int .i64 b) (.int .i64 i) (.slice la ln lc) (.bool m)
    have hF5 := (Frm.refl (fun b => b = w.heap.size + 1) w1).setR (R := w.heap.size + 1) (.inl rfl) (.int .i64 x) (.slice ra rn rc) (.int .i64 v) (.int .i64 b) (.int .i64 i) (.slice la ln lc) (.bool m)
    rw [← hW5] at hr5 hF5
    unfold setR at hW5
    rw [← hW5]
    refine bodyPost_ret (ret_rep rfl _ _ (w.heap.size + 1) rfl hr5) rfl ?_
    exact do_end HST.out HF0.out HSZ.out HQ.out HFR.out hF5
set_option maxRecDepth 100000 in
set_option maxHeartbeats 4000000 in
theorem do_10 {w : World} {s Mo Mu : Nat} {σ : Sto} (h : SAt w s Mo Mu σ) {vr at_ nn id : Int} {ky : ByteArray} {a : Option Addr} {n c : Nat} {Q : World → Ending → World → Prop} (hm : DoMeth w s Mo Mu σ 24 #[.int .i64 10, .string ky, .slice a n c, .int .i64 vr, .int .i64 at_, .int .i64 nn, .int .i64 id] Q) :
    Calls Tryz.prog 11 #[.pointer (some ⟨s, 0, none⟩), .agg #[.int .i64 10, .string ky, .slice a n c, .int .i64 vr, .int .i64 at_, .int .i64 nn, .int .i64 id]] w (DoOut w s Mo Mu σ Q) := by
  have hs := h.lts
  have HM := Lib.hid hm
  have hmn := map_nil 48 _ _ Tryz.underlying48
  clear hm
  rcases h with h | ⟨⟨mu, h, hmu⟩, he, hMo, hMu⟩
  · have E := ent_mk h #[.int .i64 10, .string ky, .slice a n c, .int .i64 vr, .int .i64 at_, .int .i64 nn, .int .i64 id]
    obtain ⟨W0, hW0⟩ : ∃ W0, W0 = (w.alloc (.cells #[.int .i64 10, .string ky, .slice a n c, .int .i64 vr, .int .i64 at_, .int .i64 nn, .int .i64 id] 34)).alloc (.cells zrep 43) := ⟨_, rfl⟩
    rw [← hW0] at E
    have HC := Lib.hid (HM.out W0 E.st (Frm.ofBelow E.bel) (by rw [E.sz]; exact Nat.le_refl _))
    have HST := Lib.hid E.st
    have HF0 := Lib.hid (Frm.ofBelow (F := fun b => b = s) E.bel)
    have HSZ := Lib.hid (show w.heap.size + 2 ≤ W0.heap.size by rw [E.sz]; exact Nat.le_refl _)
    have HRB := Lib.hid E.rb
    have HNR := Lib.hid (show ¬ StF s Mo Mu σ (w.heap.size + 1) from fun hb => by have := h.lt hb; omega)
    have c0 := cell_blk2 h.blk (i := 0) (u := .map (some Mo)) rfl
    have hq2 : ∀ j u, (#[.int .i64 10, .string ky, .slice a n c, .int .i64 vr, .int .i64 at_, .int .i64 nn, .int .i64 id] : Array Value)[j]? = some u → W0.cell? ⟨w.heap.size, j, none⟩ = some u := fun j u hu => cell_blk2 E.cb hu
    clear h HM E
    go_enter Tryz.func11, Tryz.ntmps11
    go_wp2_with fail
    unfold zrep at hW0
    rw [← hW0]
    clear hW0 c0 hq2
    refine HC.out.mono ?_
    rintro e w1 ⟨⟨x, ra, rn, rc, v, b, i, la, ln, lc, m, rfl⟩, hq, hfr⟩
    have hrb1 : w1.heap[w.heap.size + 1]? = some (.cells zrep 43 (0, 0)) := hfr.at HRB.out (fun hb => HNR.out hb)
    obtain ⟨⟨q0, q1, q2, q3, q4, q5, q6⟩, r0, r1, r2, r3, r4, r5, r6⟩ := rb_cells hrb1
    have HQ := Lib.hid hq
    have HFR := Lib.hid hfr
    have HRB1 := Lib.hid hrb1
    clear hq hfr hrb1
    go_wp2_with fail
    clear q0 q1 q2 q3 q4 q5 q6 r0 r1 r2 r3 r4 r5 r6
    obtain ⟨W5, hW5⟩ : ∃ W5, W5 = setR w1 (w.heap.size + 1) (.int .i64 x) (.slice ra rn rc) (.int .i64 v) (.int .i64 b) (.int .i64 i) (.slice la ln lc) (.bool m) := ⟨_, rfl⟩
    have hr5 := setR_at0 HRB1.out (.int .i64 x) (.slice ra rn rc) (.int .i64 v) (.int .i64 b) (.int .i64 i) (.slice la ln lc) (.bool m)
    have hF5 := (Frm.refl (fun b => b = w.heap.size + 1) w1).setR (R := w.heap.size + 1) (.inl rfl) (.int .i64 x) (.slice ra rn rc) (.int .i64 v) (.int .i64 b) (.int .i64 i) (.slice la ln lc) (.bool m)
    rw [← hW5] at hr5 hF5
    unfold setR at hW5
    rw [← hW5]
    refine bodyPost_ret (ret_rep rfl _ _ (w.heap.size + 1) rfl hr5) rfl ?_
    exact do_end HST.out HF0.out HSZ.out HQ.out HFR.out hF5
  · obtain ⟨wa, hwa⟩ : ∃ wa, wa = (w.alloc (.cells #[.int .i64 10, .string ky, .slice a n c, .int .i64 vr, .int .i64 at_, .int .i64 nn, .int .i64 id] 34)).alloc (.cells zrep 43) := ⟨_, rfl⟩
    have ez : wa.heap.size = w.heap.size + 2 := by rw [hwa]; simp
    have hbe : Below w.heap.size w wa := by rw [hwa]; exact ((Below.refl _ _).alloc (Nat.le_refl _) _).alloc (by simp) _
    have hcb : wa.heap[w.heap.size]? = some (.cells #[.int .i64 10, .string ky, .slice a n c, .int .i64 vr, .int .i64 at_, .int .i64 nn, .int .i64 id] 34 (0, 0)) := by
      rw [hwa]; exact (Below.heap_alloc _ _ _ (by simp)).trans (heap_new w _)
    have hrb : wa.heap[w.heap.size + 1]? = some (.cells zrep 43 (0, 0)) := by
      have := heap_new (w.alloc (.cells #[.int .i64 10, .string ky, .slice a n c, .int .i64 vr, .int .i64 at_, .int .i64 nn, .int .i64 id] 34)) (.cells zrep 43)
      rw [← hwa] at this
      rwa [show (w.alloc (.cells #[.int .i64 10, .string ky, .slice a n c, .int .i64 vr, .int .i64 at_, .int .i64 nn, .int .i64 id] 34)).heap.size = w.heap.size + 1 by simp] at this
    obtain ⟨hst, hfr⟩ := made_maps h wa hbe
    obtain ⟨W0, hW0⟩ : ∃ W0, W0 = (((wa.setCell ⟨s, 0, none⟩ (.map (some wa.heap.size))).setCell ⟨s, 1, none⟩ (.map (some (wa.heap.size + 1)))).alloc (.map #[] 0)).alloc (.map #[] 0) := ⟨_, rfl⟩
    rw [← hW0] at hst hfr
    have hfa : Frm (fun b => b = s) wa W0 := by
      rw [hW0]
      exact ((((Frm.refl (fun b => b = s) wa).set (p := s) (.inl rfl) 0 _).set (p := s) (.inl rfl) 1 _).below ((Below.refl _ _).alloc (Nat.le_refl _) _)).below ((Below.refl _ _).alloc (Nat.le_refl _) _)
    rw [ez, ← hMo, show Mo + 1 = Mu from by omega, ← he] at hst
    have hsz0 : w.heap.size + 2 ≤ W0.heap.size := by have := hfa.size; omega
    have hrb0 : W0.heap[w.heap.size + 1]? = some (.cells zrep 43 (0, 0)) := hfa.at hrb (by omega)
    have HC := Lib.hid (HM.out W0 hst hfr hsz0)
    have HST := Lib.hid hst
    have HF0 := Lib.hid hfr
    have HSZ := Lib.hid hsz0
    have HRB := Lib.hid hrb0
    have HNR := Lib.hid (show ¬ StF s Mo Mu σ (w.heap.size + 1) from fun hb => by
      rw [he] at hb
      rcases hb with g | g | g | ⟨p, hp, g⟩
      · omega
      · omega
      · omega
      · cases hp)
    have hla : wa.heap[s]? = some (.cells (freC mu σ.now) 51 (0, 0)) := (hbe.block s hs).trans h
    have c0 := cell_blk2 h (i := 0) (u := .map none) rfl
    have hmk := @run_makeMap Tryz.prog
    have MO := Lib.hid hMo
    have MU := Lib.hid hMu
    have hs1 : s < wa.heap.size := Nat.lt_of_lt_of_le hs hbe.size
    have hk1 : w.heap.size < wa.heap.size := by omega
    have HLA := Lib.hid hla
    have HCB := Lib.hid hcb
    have EZ := Lib.hid ez
    have HWA := Lib.hid hwa
    clear hmu h HM hst hfr hsz0 hrb0 hfa hcb hrb hbe he hMo hMu hla hwa ez
    go_enter Tryz.func11, Tryz.ntmps11
    go_upto_region 4 with fail
    have hwa2 := HWA.out
    unfold zrep at hwa2
    rw [← hwa2]
    clear hwa2 c0
    have c0 := cell_blk2 HLA.out (i := 0) (u := .map none) rfl
    have c1 := cell_blk2 HLA.out (i := 1) (u := .map mu) rfl
    have f0 := fro_blk2 HLA.out 0
    have f1 := fro_blk2 HLA.out 1
    have k0 := cell_blk2 HCB.out (i := 0) (u := .int .i64 10) rfl
    have k1 := cell_blk2 HCB.out (i := 1) (u := .string ky) rfl
    have k2 := cell_blk2 HCB.out (i := 2) (u := .slice a n c) rfl
    have k3 := cell_blk2 HCB.out (i := 3) (u := .int .i64 vr) rfl
    have k4 := cell_blk2 HCB.out (i := 4) (u := .int .i64 at_) rfl
    have k5 := cell_blk2 HCB.out (i := 5) (u := .int .i64 nn) rfl
    have k6 := cell_blk2 HCB.out (i := 6) (u := .int .i64 id) rfl
    go_wp2_with fail
    rw [← hW0]
    clear hW0 c0 c1 f0 f1 k0 k1 k2 k3 k4 k5 k6 hmk hs1 hk1
    refine HC.out.mono ?_
    rintro e w1 ⟨⟨x, ra, rn, rc, v, b, i, la, ln, lc, m, rfl⟩, hq, hfr⟩
    have hrb1 : w1.heap[w.heap.size + 1]? = some (.cells zrep 43 (0, 0)) := hfr.at HRB.out (fun hb => HNR.out hb)
    obtain ⟨⟨q0, q1, q2, q3, q4, q5, q6⟩, r0, r1, r2, r3, r4, r5, r6⟩ := rb_cells hrb1
    have HQ := Lib.hid hq
    have HFR := Lib.hid hfr
    have HRB1 := Lib.hid hrb1
    clear hq hfr hrb1
    go_wp2_with fail
    clear q0 q1 q2 q3 q4 q5 q6 r0 r1 r2 r3 r4 r5 r6
    obtain ⟨W5, hW5⟩ : ∃ W5, W5 = setR w1 (w.heap.size + 1) (.int .i64 x) (.slice ra rn rc) (.int .i64 v) (.int .i64 b) (.int .i64 i) (.slice la ln lc) (.bool m) := ⟨_, rfl⟩
    have hr5 := setR_at0 HRB1.out (.int .i64 x) (.slice ra rn rc) (.int .i64 v) (.int .i64 b) (.int .i64 i) (.slice la ln lc) (.bool m)
    have hF5 := (Frm.refl (fun b => b = w.heap.size + 1) w1).setR (R := w.heap.size + 1) (.inl rfl) (.int .i64 x) (.slice ra rn rc) (.int .i64 v) (.int .i64 b) (.int .i64 i) (.slice la ln lc) (.bool m)
    rw [← hW5] at hr5 hF5
    unfold setR at hW5
    rw [← hW5]
    refine bodyPost_ret (ret_rep rfl _ _ (w.heap.size + 1) rfl hr5) rfl ?_
    exact do_end HST.out HF0.out HSZ.out HQ.out HFR.out hF5
set_option maxRecDepth 100000 in
set_option maxHeartbeats 4000000 in
theorem do_11 {w : World} {s Mo Mu : Nat} {σ : Sto} (h : SAt w s Mo Mu σ) {vr at_ nn id : Int} {ky : ByteArray} {a : Option Addr} {n c : Nat} {Q : World → Ending → World → Prop} (hm : DoMeth w s Mo Mu σ 25 #[.int .i64 11, .string ky, .slice a n c, .int .i64 vr, .int .i64 at_, .int .i64 nn, .int .i64 id] Q) :
    Calls Tryz.prog 11 #[.pointer (some ⟨s, 0, none⟩), .agg #[.int .i64 11, .string ky, .slice a n c, .int .i64 vr, .int .i64 at_, .int .i64 nn, .int .i64 id]] w (DoOut w s Mo Mu σ Q) := by
  have hs := h.lts
  have HM := Lib.hid hm
  have hmn := map_nil 48 _ _ Tryz.underlying48
  clear hm
  rcases h with h | ⟨⟨mu, h, hmu⟩, he, hMo, hMu⟩
  · have E := ent_mk h #[.int .i64 11, .string ky, .slice a n c, .int .i64 vr, .int .i64 at_, .int .i64 nn, .int .i64 id]
    obtain ⟨W0, hW0⟩ : ∃ W0, W0 = (w.alloc (.cells #[.int .i64 11, .string ky, .slice a n c, .int .i64 vr, .int .i64 at_, .int .i64 nn, .int .i64 id] 34)).alloc (.cells zrep 43) := ⟨_, rfl⟩
    rw [← hW0] at E
    have HC := Lib.hid (HM.out W0 E.st (Frm.ofBelow E.bel) (by rw [E.sz]; exact Nat.le_refl _))
    have HST := Lib.hid E.st
    have HF0 := Lib.hid (Frm.ofBelow (F := fun b => b = s) E.bel)
    have HSZ := Lib.hid (show w.heap.size + 2 ≤ W0.heap.size by rw [E.sz]; exact Nat.le_refl _)
    have HRB := Lib.hid E.rb
    have HNR := Lib.hid (show ¬ StF s Mo Mu σ (w.heap.size + 1) from fun hb => by have := h.lt hb; omega)
    have c0 := cell_blk2 h.blk (i := 0) (u := .map (some Mo)) rfl
    have hq2 : ∀ j u, (#[.int .i64 11, .string ky, .slice a n c, .int .i64 vr, .int .i64 at_, .int .i64 nn, .int .i64 id] : Array Value)[j]? = some u → W0.cell? ⟨w.heap.size, j, none⟩ = some u := fun j u hu => cell_blk2 E.cb hu
    clear h HM E
    go_enter Tryz.func11, Tryz.ntmps11
    go_wp2_with fail
    unfold zrep at hW0
    rw [← hW0]
    clear hW0 c0 hq2
    refine HC.out.mono ?_
    rintro e w1 ⟨⟨x, ra, rn, rc, v, b, i, la, ln, lc, m, rfl⟩, hq, hfr⟩
    have hrb1 : w1.heap[w.heap.size + 1]? = some (.cells zrep 43 (0, 0)) := hfr.at HRB.out (fun hb => HNR.out hb)
    obtain ⟨⟨q0, q1, q2, q3, q4, q5, q6⟩, r0, r1, r2, r3, r4, r5, r6⟩ := rb_cells hrb1
    have HQ := Lib.hid hq
    have HFR := Lib.hid hfr
    have HRB1 := Lib.hid hrb1
    clear hq hfr hrb1
    go_wp2_with fail
    clear q0 q1 q2 q3 q4 q5 q6 r0 r1 r2 r3 r4 r5 r6
    obtain ⟨W5, hW5⟩ : ∃ W5, W5 = setR w1 (w.heap.size + 1) (.int .i64 x) (.slice ra rn rc) (.int .i64 v) (.int .i64 b) (.int .i64 i) (.slice la ln lc) (.bool m) := ⟨_, rfl⟩
    have hr5 := setR_at0 HRB1.out (.int .i64 x) (.slice ra rn rc) (.int .i64 v) (.int .i64 b) (.int .i64 i) (.slice la ln lc) (.bool m)
    have hF5 := (Frm.refl (fun b => b = w.heap.size + 1) w1).setR (R := w.heap.size + 1) (.inl rfl) (.int .i64 x) (.slice ra rn rc) (.int .i64 v) (.int .i64 b) (.int .i64 i) (.slice la ln lc) (.bool m)
    rw [← hW5] at hr5 hF5
    unfold setR at hW5
    rw [← hW5]
    refine bodyPost_ret (ret_rep rfl _ _ (w.heap.size + 1) rfl hr5) rfl ?_
    exact do_end HST.out HF0.out HSZ.out HQ.out HFR.out hF5
  · obtain ⟨wa, hwa⟩ : ∃ wa, wa = (w.alloc (.cells #[.int .i64 11, .string ky, .slice a n c, .int .i64 vr, .int .i64 at_, .int .i64 nn, .int .i64 id] 34)).alloc (.cells zrep 43) := ⟨_, rfl⟩
    have ez : wa.heap.size = w.heap.size + 2 := by rw [hwa]; simp
    have hbe : Below w.heap.size w wa := by rw [hwa]; exact ((Below.refl _ _).alloc (Nat.le_refl _) _).alloc (by simp) _
    have hcb : wa.heap[w.heap.size]? = some (.cells #[.int .i64 11, .string ky, .slice a n c, .int .i64 vr, .int .i64 at_, .int .i64 nn, .int .i64 id] 34 (0, 0)) := by
      rw [hwa]; exact (Below.heap_alloc _ _ _ (by simp)).trans (heap_new w _)
    have hrb : wa.heap[w.heap.size + 1]? = some (.cells zrep 43 (0, 0)) := by
      have := heap_new (w.alloc (.cells #[.int .i64 11, .string ky, .slice a n c, .int .i64 vr, .int .i64 at_, .int .i64 nn, .int .i64 id] 34)) (.cells zrep 43)
      rw [← hwa] at this
      rwa [show (w.alloc (.cells #[.int .i64 11, .string ky, .slice a n c, .int .i64 vr, .int .i64 at_, .int .i64 nn, .int .i64 id] 34)).heap.size = w.heap.size + 1 by simp] at this
    obtain ⟨hst, hfr⟩ := made_maps h wa hbe
    obtain ⟨W0, hW0⟩ : ∃ W0, W0 = (((wa.setCell ⟨s, 0, none⟩ (.map (some wa.heap.size))).setCell ⟨s, 1, none⟩ (.map (some (wa.heap.size + 1)))).alloc (.map #[] 0)).alloc (.map #[] 0) := ⟨_, rfl⟩
    rw [← hW0] at hst hfr
    have hfa : Frm (fun b => b = s) wa W0 := by
      rw [hW0]
      exact ((((Frm.refl (fun b => b = s) wa).set (p := s) (.inl rfl) 0 _).set (p := s) (.inl rfl) 1 _).below ((Below.refl _ _).alloc (Nat.le_refl _) _)).below ((Below.refl _ _).alloc (Nat.le_refl _) _)
    rw [ez, ← hMo, show Mo + 1 = Mu from by omega, ← he] at hst
    have hsz0 : w.heap.size + 2 ≤ W0.heap.size := by have := hfa.size; omega
    have hrb0 : W0.heap[w.heap.size + 1]? = some (.cells zrep 43 (0, 0)) := hfa.at hrb (by omega)
    have HC := Lib.hid (HM.out W0 hst hfr hsz0)
    have HST := Lib.hid hst
    have HF0 := Lib.hid hfr
    have HSZ := Lib.hid hsz0
    have HRB := Lib.hid hrb0
    have HNR := Lib.hid (show ¬ StF s Mo Mu σ (w.heap.size + 1) from fun hb => by
      rw [he] at hb
      rcases hb with g | g | g | ⟨p, hp, g⟩
      · omega
      · omega
      · omega
      · cases hp)
    have hla : wa.heap[s]? = some (.cells (freC mu σ.now) 51 (0, 0)) := (hbe.block s hs).trans h
    have c0 := cell_blk2 h (i := 0) (u := .map none) rfl
    have hmk := @run_makeMap Tryz.prog
    have MO := Lib.hid hMo
    have MU := Lib.hid hMu
    have hs1 : s < wa.heap.size := Nat.lt_of_lt_of_le hs hbe.size
    have hk1 : w.heap.size < wa.heap.size := by omega
    have HLA := Lib.hid hla
    have HCB := Lib.hid hcb
    have EZ := Lib.hid ez
    have HWA := Lib.hid hwa
    clear hmu h HM hst hfr hsz0 hrb0 hfa hcb hrb hbe he hMo hMu hla hwa ez
    go_enter Tryz.func11, Tryz.ntmps11
    go_upto_region 4 with fail
    have hwa2 := HWA.out
    unfold zrep at hwa2
    rw [← hwa2]
    clear hwa2 c0
    have c0 := cell_blk2 HLA.out (i := 0) (u := .map none) rfl
    have c1 := cell_blk2 HLA.out (i := 1) (u := .map mu) rfl
    have f0 := fro_blk2 HLA.out 0
    have f1 := fro_blk2 HLA.out 1
    have k0 := cell_blk2 HCB.out (i := 0) (u := .int .i64 11) rfl
    have k1 := cell_blk2 HCB.out (i := 1) (u := .string ky) rfl
    have k2 := cell_blk2 HCB.out (i := 2) (u := .slice a n c) rfl
    have k3 := cell_blk2 HCB.out (i := 3) (u := .int .i64 vr) rfl
    have k4 := cell_blk2 HCB.out (i := 4) (u := .int .i64 at_) rfl
    have k5 := cell_blk2 HCB.out (i := 5) (u := .int .i64 nn) rfl
    have k6 := cell_blk2 HCB.out (i := 6) (u := .int .i64 id) rfl
    go_wp2_with fail
    rw [← hW0]
    clear hW0 c0 c1 f0 f1 k0 k1 k2 k3 k4 k5 k6 hmk hs1 hk1
    refine HC.out.mono ?_
    rintro e w1 ⟨⟨x, ra, rn, rc, v, b, i, la, ln, lc, m, rfl⟩, hq, hfr⟩
    have hrb1 : w1.heap[w.heap.size + 1]? = some (.cells zrep 43 (0, 0)) := hfr.at HRB.out (fun hb => HNR.out hb)
    obtain ⟨⟨q0, q1, q2, q3, q4, q5, q6⟩, r0, r1, r2, r3, r4, r5, r6⟩ := rb_cells hrb1
    have HQ := Lib.hid hq
    have HFR := Lib.hid hfr
    have HRB1 := Lib.hid hrb1
    clear hq hfr hrb1
    go_wp2_with fail
    clear q0 q1 q2 q3 q4 q5 q6 r0 r1 r2 r3 r4 r5 r6
    obtain ⟨W5, hW5⟩ : ∃ W5, W5 = setR w1 (w.heap.size + 1) (.int .i64 x) (.slice ra rn rc) (.int .i64 v) (.int .i64 b) (.int .i64 i) (.slice la ln lc) (.bool m) := ⟨_, rfl⟩
    have hr5 := setR_at0 HRB1.out (.int .i64 x) (.slice ra rn rc) (.int .i64 v) (.int .i64 b) (.int .i64 i) (.slice la ln lc) (.bool m)
    have hF5 := (Frm.refl (fun b => b = w.heap.size + 1) w1).setR (R := w.heap.size + 1) (.inl rfl) (.int .i64 x) (.slice ra rn rc) (.int .i64 v) (.int .i64 b) (.int .i64 i) (.slice la ln lc) (.bool m)
    rw [← hW5] at hr5 hF5
    unfold setR at hW5
    rw [← hW5]
    refine bodyPost_ret (ret_rep rfl _ _ (w.heap.size + 1) rfl hr5) rfl ?_
    exact do_end HST.out HF0.out HSZ.out HQ.out HFR.out hF5
end Go.Proofs.YtjafagfhkpaciaaGreat
end PkSP3_0
section PkSP3_1
/- A range over a map, as walks are told of it: which entries are still to come; what is summed up over it. -/
namespace Go.Proofs.YtjafagfhkpaciaaGreat
open Go.RowKit
open Go.Maps (Keyed)
set_option linter.unusedVariables false

section
variable {κ α : Type} {lit : κ → Lit} {f : α → Value} {l : List (κ × α)} {T : MTy} {w w' : World} {M r cnt : Nat} {left : Lit → Bool}
/-- a range over block M under way, its iterator block r -/
def GR (T : MTy) (lit : κ → Lit) (f : α → Value) (w : World) (M r : Nat) (l : List (κ × α)) (left : Lit → Bool) (cnt : Nat) : Prop := w.ranges Tryz.prog T.k heldR M r l.length (.map (encK lit f l)) left cnt
theorem GR.gm (h : GR T lit f w M r l left cnt) : GM T lit f w M l := World.ranges.owns h
theorem GR.kept {row : Option Nat} (h : GR T lit f w M r l left cnt) (hg : w.grownBy w' row) (h1 : some M ≠ row) (h2 : some r ≠ row) : GR T lit f w' M r l left cnt := World.ranges.kept h hg h1 h2
theorem GR.below (h : GR T lit f w M r l left cnt) (hb : Below w.heap.size w w') : GR T lit f w' M r l left cnt :=
  h.kept (row := none) ⟨hb.os, hb.tape, hb.output, hb.size, fun i hi _ => hb.block i hi⟩ (by simp) (by simp)
theorem GR.lt (h : GR T lit f w M r l left cnt) : r < w.heap.size := World.ranges.lt h
theorem GR.left_eq (h : GR T lit f w M r l left cnt) : w.rangeLeft M r = cnt := World.ranges.left_eq h
theorem GM.apart (h : GM T lit f w M l) : l.Pairwise fun p q => lit p.1 ≠ lit q.1 := by
  obtain ⟨es, he, hp⟩ := World.ownsMap.tidy h T.K
  have e1 : es = encK lit f l := by cases he; rfl
  rw [e1] at hp
  unfold encK at hp
  exact (List.pairwise_map (f := fun p : κ × α => (lit p.1, (DataW.held (f p.2) : DataW Value))) (R := fun p q => p.1 ≠ q.1)).1 hp
theorem GM.key (h : GM T lit f w M l) : ∀ p ∈ l, WideAt.IsKeyLit (lit p.1) := by
  obtain ⟨es, he, _, hk⟩ := World.ownsMap.entries h T.K
  have e1 : es = encK lit f l := by cases he; rfl
  intro p hp
  rw [e1] at hk
  exact hk (lit p.1, .held (f p.2)) (List.mem_map.2 ⟨p, hp, rfl⟩)
theorem find_key {kl : Lit} {y : DataW Value} (h : ∀ zd, (DataW.map (encK lit f l)).atKey kl zd = y) : ∃ q ∈ l, lit q.1 = kl ∧ y = .held (f q.2) := by
  unfold DataW.atKey at h
  simp only at h
  cases hf : (encK lit f l).find? (fun p => p.1.sameKey kl) with
  | none =>
    simp only [hf] at h
    have h1 := h .nil
    have h2 := h (.lit (.bool true))
    rw [← h1] at h2
    cases h2
  | some p =>
    simp only [hf] at h
    have h1 := h .nil
    have hm := List.mem_of_find?_eq_some hf
    have hs := List.find?_some hf
    obtain ⟨q, hq, rfl⟩ := List.mem_map.1 hm
    exact ⟨q, hq, WideAt.sameKey_eq hs, h1.symm⟩
theorem wpList_range_gm {ops : Array Oper} {rest : List Oper} {o : Oper} {a : Act} {Q : Exit → Act → World → Prop} (hg : o.guard = none) (m : Operand) (hop : o.op = Op.range T.t m) (hm : a.eval m = .map (some M)) (h : GM T lit f w M l)
    (hK : ∀ w', GR T lit f w' M w.heap.size l (Maps.has (.map (encK lit f l))) l.length → w.grownBy w' none → w'.heap.size = w.heap.size + 1 → wpList Tryz.prog ops Q rest (a.put o.dst (.pointer (some ⟨w.heap.size, 0, none⟩))) w') : wpList Tryz.prog ops Q (o :: rest) a w :=
  wpList_range_own w hg m T.t hop T.k T.e T.K T.ht heldR M l.length _ hm h fun w' h1 h2 h3 => hK w' (by rw [enc_size] at h1; exact h1) h2 h3
theorem wpList_next_gm {ops : Array Oper} {rest : List Oper} {o : Oper} {a : Act} {Q : Exit → Act → World → Prop} (hg : o.guard = none) (it : Operand) (hop : o.op = Op.next it false) (kv : κ → Value) (hkv : ∀ p ∈ l, keyOf Tryz.prog T.k (kv p.1) = some (lit p.1))
    (hit : a.eval it = .pointer (some ⟨r, 0, none⟩)) (h : GR T lit f w M r l left cnt)
    (hDone : (∀ kl, left kl = false) → wpList Tryz.prog ops Q rest (a.put o.dst (.tuple #[.bool false])) w)
    (hMore : ∀ (q : κ × α) (w' : World) (cnt' : Nat), q ∈ l → left (lit q.1) = true → GR T lit f w' M r l (fun z => left z && !z.sameKey (lit q.1)) cnt' → cnt' < cnt → w.grownBy w' (some r) → w'.heap.size = w.heap.size →
      (Instr.entry (.pointer (some ⟨r, 0, none⟩))).run Tryz.prog w' = .ok (.tuple #[kv q.1, f q.2]) w' → wpList Tryz.prog ops Q rest (a.put o.dst (.tuple #[.bool true, kv q.1, f q.2])) w') : wpList Tryz.prog ops Q (o :: rest) a w := by
  refine wpList_plain hg fun K' hK' => ?_
  unfold Oper.wp
  rcases World.ranges.next h T.K o.type with ⟨h0, hl, hrun⟩ | ⟨key, v, kl, y, w', cnt', hkey, hlk, hv, hat, hrun, hrg, hlt, hgr, hsz, hen⟩
  · simp [execOp, hop, hit, hrun, Result.andThen]
    exact hK' _ _ (hDone hl)
  · obtain ⟨q, hq, rfl, hy⟩ := find_key hat
    have hv2 : v = f q.2 := by
      unfold heldR at hv
      have := congrArg (fun z => (z.map Prod.fst)) hv
      simp only [Option.map_some, Option.some.injEq] at this
      rw [hy] at this
      simpa using this
    have hk2 : key = kv q.1 := T.K.inj hkey (hkv q hq)
    subst hv2
    subst hk2
    simp [execOp, hop, hit, hrun, Result.andThen]
    exact hK' _ _ (hMore q w' cnt' hq hlk hrg hlt hgr hsz hen)
/-- what is summed up over those that have come -/
def sumK (lit : κ → Lit) (g : α → Nat) (left : Lit → Bool) (l : List (κ × α)) : Nat := (l.map fun p => if left (lit p.1) = true then 0 else g p.2).sum
def totK (g : α → Nat) (l : List (κ × α)) : Nat := (l.map fun p => g p.2).sum
theorem sumK_start (g : α → Nat) (hk : ∀ p ∈ l, WideAt.IsKeyLit (lit p.1)) : sumK lit g (Maps.has (.map (encK lit f l))) l = 0 := by
  unfold sumK
  have : ∀ p ∈ l, (if Maps.has (DataW.map (encK lit f l)) (lit p.1) = true then 0 else g p.2) = 0 := by
    intro p hp
    have : Maps.has (DataW.map (encK lit f l)) (lit p.1) = true := List.any_eq_true.2 ⟨(lit p.1, .held (f p.2)), List.mem_map.2 ⟨p, hp, rfl⟩, WideAt.sameKey_self (hk p hp)⟩
    rw [if_pos this]
  rw [List.map_congr_left this]
  clear this hk
  induction l with
  | nil => rfl
  | cons p l ih => rw [List.map_cons, List.sum_cons, ih]
theorem sumK_end (g : α → Nat) (h : ∀ kl, left kl = false) : sumK lit g left l = totK g l := by
  unfold sumK totK
  congr 1
  exact List.map_congr_left fun p _ => by rw [h]; rfl
theorem sumK_step (g : α → Nat) : ∀ {l : List (κ × α)}, l.Pairwise (fun p q => lit p.1 ≠ lit q.1) → (∀ p ∈ l, WideAt.IsKeyLit (lit p.1)) → ∀ {q : κ × α}, q ∈ l → left (lit q.1) = true →
    sumK lit g (fun z => left z && !z.sameKey (lit q.1)) l = sumK lit g left l + g q.2
  | [], _, _, q, hq, _ => by cases hq
  | p :: l, hp, hk, q, hq, hl => by
    obtain ⟨h1, h2⟩ := List.pairwise_cons.1 hp
    have same : ∀ x ∈ l, lit x.1 ≠ lit q.1 → (if (left (lit x.1) && !(lit x.1).sameKey (lit q.1)) = true then 0 else g x.2) = if left (lit x.1) = true then 0 else g x.2 := by
      intro x _ hne
      rw [Maps.sameKey_ne hne]; simp
    rcases List.mem_cons.1 hq with rfl | hq'
    · unfold sumK
      rw [List.map_cons, List.map_cons, List.sum_cons, List.sum_cons, List.map_congr_left (fun x hx => same x hx (fun e => h1 x hx e.symm))]
      dsimp only
      have e1 : (left (lit q.1) && !(lit q.1).sameKey (lit q.1)) = false := by rw [WideAt.sameKey_self (hk q (by simp))]; simp
      rw [if_neg (by rw [e1]; decide), if_pos hl]
      omega
    · have ih := sumK_step g h2 (fun x hx => hk x (by simp [hx])) hq' hl
      unfold sumK at ih ⊢
      rw [List.map_cons, List.map_cons, List.sum_cons, List.sum_cons, ih]
      have hne := h1 q hq'
      dsimp only
      have e1 : (left (lit p.1) && !(lit p.1).sameKey (lit q.1)) = left (lit p.1) := by rw [Maps.sameKey_ne hne]; simp
      simp only [e1]
      omega
theorem sumK_le (g : α → Nat) (left : Lit → Bool) (l : List (κ × α)) : sumK lit g left l ≤ totK g l := by
  unfold sumK totK
  induction l with
  | nil => exact Nat.le_refl _
  | cons p l ih =>
    rw [List.map_cons, List.map_cons, List.sum_cons, List.sum_cons]
    split <;> omega
theorem tot_mem (g : α → Nat) : ∀ {l : List (κ × α)} {q : κ × α}, q ∈ l → g q.2 ≤ totK g l
  | p :: l, q, hq => by
    unfold totK
    rw [List.map_cons, List.sum_cons]
    rcases List.mem_cons.1 hq with rfl | h
    · omega
    · have := tot_mem g h
      unfold totK at this
      omega
end
end Go.Proofs.YtjafagfhkpaciaaGreat
end PkSP3_1
section PkSP3_2
/- An upload's size, walked: a range over its parts. -/
namespace Go.Proofs.YtjafagfhkpaciaaGreat
open Go.RowKit
set_option linter.unusedVariables false

set_option maxRecDepth 100000 in
set_option maxHeartbeats 4000000 in
theorem size_any {w : World} {p : Nat} {l : List (Int × ByteArray)} (h : GM TP ilit prtC w p l) (hw : ∀ x ∈ l, (Lit.int .i64 x.1).wf = true) (hs : totK (fun d : ByteArray => d.size) l ≤ 1000000000) (us : ByteArray) (ub : Int) :
    Calls Tryz.prog 55 #[.agg #[.string us, .int .i64 ub, .map (some p)]] w fun e w' => e = .returned (.int .i64 ((totK (fun d : ByteArray => d.size) l : Nat) : Int)) ∧ Below w.heap.size w w' := by
  have hB1 : Below w.heap.size w (w.alloc (.cells #[.string us, .int .i64 ub, .map (some p)] 82)) := (Below.refl _ _).alloc (Nat.le_refl _) _
  have HG1 := Lib.hid (h.below hB1)
  have HAP := Lib.hid h.apart
  have HKY := Lib.hid h.key
  have HKV := Lib.hid (show ∀ x ∈ l, keyOf Tryz.prog TP.k (.int .i64 x.1) = some (ilit x.1) from fun x hx => keyI (hw x hx))
  have HB1 := Lib.hid hB1
  have HPL := Lib.hid h.lt
  clear h hw hB1
  go_enter Tryz.func55, Tryz.ntmps55
  go_wp2_with (first
    | (at_range; refine wpList_range_gm (T := TP) (M := p) rfl _ rfl rfl HG1.out ?_; intro W2 hrg hgr hsz)
    | go_in)
  go_frame
  have hsz2 : (w.alloc (.cells #[.string us, .int .i64 ub, .map (some p)] 82)).heap.size = w.heap.size + 1 := by simp
  rw [hsz2] at hrg hsz
  rw [hsz2]
  have HB2 := Lib.hid (show Below w.heap.size w W2 from HB1.out.grown hgr (by rw [hsz2]; omega) (fun k hk => by cases hk))
  have HRG := Lib.hid hrg
  clear hrg hgr hsz2
  go_loopw [3, 5] (fun s3 s5 wr => ∃ (left : Lit → Bool) (cnt : Nat), Hid (GR TP ilit prtC wr p (w.heap.size + 1) l left cnt) ∧ s3 = .int .i64 ((sumK ilit (fun d : ByteArray => d.size) left l : Nat) : Int) ∧ Hid (Below w.heap.size w wr)) (fun _ _ wr => wr.rangeLeft p (w.heap.size + 1))
  case atStart => exact ⟨_, _, HRG, by rw [sumK_start _ HKY.out]; rfl, HB2⟩
  case round =>
    obtain ⟨left, cnt, HR, rfl, HB⟩ := hrel
    have hsl := sumK_le (lit := ilit) (fun d : ByteArray => d.size) left l
    obtain ⟨z, hz⟩ : ∃ z, z = sumK ilit (fun d : ByteArray => d.size) left l := ⟨_, rfl⟩
    have HZ := Lib.hid hz
    rw [← hz] at hsl
    rw [← hz]
    clear hz
    go_wp2_with (first
      | (at_next; refine wpList_next_gm (T := TP) rfl _ rfl (fun k => .int .i64 k) HKV.out rfl HR.out ?_ ?_)
      | go_in)
    · intro hl0
      have HE := Lib.hid (sumK_end (lit := ilit) (l := l) (fun d : ByteArray => d.size) hl0)
      clear hl0
      go_wp2_with fail
      go_ret
      refine ⟨?_, HB.out⟩
      rw [HZ.out, HE.out]
      rfl
    · intro k d W3 cnt3 hq hlk hrg3 hlt hg3 hs3 hen
      have hst := sumK_step (left := left) (fun d : ByteArray => d.size) HAP.out HKY.out (q := (k, d)) hq hlk
      have hsl3 := sumK_le (lit := ilit) (fun d : ByteArray => d.size) (fun z => left z && !z.sameKey (ilit k)) l
      have HST := Lib.hid hst
      have hq2 : d.size + z ≤ totK (fun d : ByteArray => d.size) l := by rw [HZ.out]; simp only at hst; omega
      have HRG3 := Lib.hid hrg3
      have HLT := Lib.hid hlt
      have HB3 := Lib.hid (show Below w.heap.size w W3 from HB.out.grown hg3 HB.out.size (fun k hk => by cases hk; exact Nat.le_succ _))
      have hen2 : (Instr.entry (.pointer (some ⟨w.heap.size + 1, 0, none⟩))).run Tryz.prog W3 = .ok (.tuple #[.int .i64 k, .agg #[.string d]]) W3 := hen
      have wz : IntKind.i64.wrap ((z : Int) + (d.size : Int)) = (z : Int) + (d.size : Int) := IntWalk.i64_in _ (by omega)
      clear hst hsl3 hq hlk hrg3 hlt hg3 hs3 hen
      go_wp2_with fail
      go_roundw
      case rel => exact ⟨_, cnt3, Lib.hid (HRG3.out.below ((Below.refl _ _).alloc (Nat.le_refl _) _)), by rw [HST.out, ← HZ.out]; go_num, Lib.hid (HB3.out.alloc HB3.out.size _)⟩
      case measure =>
        have h5 := HRG3.out.below ((Below.refl _ W3).alloc (Nat.le_refl _) (.cells #[.string d] 85))
        rw [h5.left_eq, HR.out.left_eq]
        exact HLT.out
end Go.Proofs.YtjafagfhkpaciaaGreat
end PkSP3_2
section PkSP3_3
/- drop, walked: an upload is gone. -/
namespace Go.Proofs.YtjafagfhkpaciaaGreat
open Go.RowKit
set_option linter.unusedVariables false

def upOf (σ : Sto) (i : Int) : Option UplS := getK ilit i σ.ups
def psz (l : List (Int × ByteArray)) : Nat := totK (fun d : ByteArray => d.size) l
def dropS (σ : Sto) (i : Int) (m : Nat) : Sto := { σ with size := σ.size - (m : Int), ups := dropK ilit i σ.ups }
set_option maxRecDepth 100000 in
set_option maxHeartbeats 4000000 in
theorem drop_any {w : World} {s Mo Mu : Nat} {σ : Sto} (h : StAt w s Mo Mu σ) {i : Int} (hi : (Lit.int .i64 i).wf = true) {u : UplS} (hu : upOf σ i = some u) (hm : (i, u) ∈ σ.ups) (hw : ∀ x ∈ u.parts, (Lit.int .i64 x.1).wf = true) (hs : psz u.parts ≤ 1000000000) (hz : 0 ≤ σ.size ∧ σ.size ≤ 4194304) :
    Calls Tryz.prog 50 #[.pointer (some ⟨s, 0, none⟩), .int .i64 i] w fun e w' => e = .returned (.tuple #[]) ∧ StAt w' s Mo Mu (dropS σ i (psz u.parts)) ∧ Frm (StF s Mo Mu σ) w w' := by
  have HC := Lib.hid (show ∀ W, Below w.heap.size w W → W.cell? ⟨s, 4, none⟩ = some (.int .i64 σ.size) ∧ W.cell? ⟨s, 1, none⟩ = some (.map (some Mu)) ∧ W.frozen? ⟨s, 4, none⟩ = false from fun W hb => by
    have h1 := (hb.block s h.lts).trans h.blk
    exact ⟨cell_blk2 h1 rfl, cell_blk2 h1 rfl, fro_blk2 h1 4⟩)
  obtain ⟨c4, c1, f4⟩ := HC.out w (Below.refl _ _)
  have hl := lookU h.upl.drew i hi
  have hu2 : getK ilit i σ.ups = some u := hu
  rw [hu2] at hl
  have hl2 : (Instr.lookup 49 (.map (some Mu)) (.int .i64 i) false).run Tryz.prog w.drew = .ok (.agg #[.string u.key, .int .i64 u.born, .map (some u.pb)]) w.drew := hl
  have HCT := Lib.hid (size_any (h.prt (i, u) hm).drew hw hs u.key u.born)
  obtain ⟨m, hme⟩ : ∃ m, m = psz u.parts := ⟨_, rfl⟩
  have HM := Lib.hid hme
  have HH := Lib.hid h
  have wsub : IntKind.i64.wrap (σ.size - (m : Int)) = σ.size - (m : Int) := IntWalk.i64_in _ (by omega)
  rw [← hme]
  clear h hl hu hu2 hme hw
  go_enter Tryz.func50, Tryz.ntmps50
  go_wp2_with fail
  go_region_with (go_at_call 55; refine HCT.out.mono ?_; rintro e w9 ⟨rfl, hb9⟩; have hb8 : Below w.heap.size w w9 := ((Below.refl w.heap.size w).drew).trans hb9; have HB9 := Lib.hid hb8; obtain ⟨d4, d1, g4⟩ := HC.out w9 hb8; clear hb8; rw [show totK (fun d : ByteArray => d.size) u.parts = m from HM.out.symm]; clear hb9)
  all_goals
    clear c4 c1 f4 d4 d1 g4 hl2
    obtain ⟨W2, hW2⟩ : ∃ W2, W2 = w9.setCell ⟨s, 4, none⟩ (.int .i64 (σ.size - (m : Int))) := ⟨_, rfl⟩
    rw [← hW2]
    have hF2 : Frm (fun b => b = s) w W2 := by rw [hW2]; exact (Frm.ofBelow (F := fun b => b = s) HB9.out).set (p := s) (.inl rfl) 4 _
    have hb2 : W2.heap[s]? = some (.cells (stC Mo Mu (dropS σ i m)) 51 (0, 0)) := by
      rw [hW2]
      exact heap_setCell_same w9 s 4 _ _ _ ((HB9.out.block s HH.out.lts).trans HH.out.blk)
    have hg2 : GM TU ilit uplC W2 Mu σ.ups := HH.out.upl.same (hF2.block Mu HH.out.upl.lt (fun e => HH.out.neS.2.1 e.symm))
    have c1 := cell_blk2 hb2 (i := 1) (u := .map (some Mu)) rfl
    obtain ⟨w3, hrun, g3, ht3⟩ := dropU hg2 i hi 0
    have HF2 := Lib.hid hF2
    have HB2 := Lib.hid hb2
    have HG3 := Lib.hid g3
    have HT3 := Lib.hid ht3
    clear hW2 hF2 hb2 hg2 g3 ht3
    go_wp2_with fail
    go_end0
    have hF3 : Frm (fun b => b = s ∨ b = Mu) w w3 := (HF2.out.imp (fun i e => Or.inl e)).turned (.inl (.inr rfl)) HT3.out
    refine ⟨rfl, HH.out.ups' hF3 ?_ HG3.out rfl (fun p hp => (List.mem_filter.1 hp).1), hF3.imp (fun i e => e.elim (fun g => .inl g) (fun g => .inr (.inr (.inl g))))⟩
    exact (HT3.out.grown.block s (Array.getElem?_eq_some_iff.1 HB2.out).1 (fun e => HH.out.neS.2.1 (Option.some.inj e))).trans HB2.out
end Go.Proofs.YtjafagfhkpaciaaGreat
end PkSP3_3
section PkSP3_4
/- A region that draws its order, makes one box and fills it at its end, and reads besides: walked operation by operation. -/
namespace Go.Proofs.YtjafagfhkpaciaaGreat
open Go.RowKit
set_option linter.unusedVariables false

/-- what has come up: the values that are told, and the world: as it was, with the box empty, with the box filled -/
structure OB (w0 : World) (Z E : Obj) (vals : Nat → Option Value) (ia is : Nat) (L : Nat → Bool) (V : Nat → Value) (w : World) : Prop where
  val : ∀ i v, L i = true → vals i = some v → V i = v
  sa : L ia = false → w = w0.drew
  sb : L ia = true → L is = false → w = (w0.alloc Z).drew
  sc : L is = true → w = (w0.alloc E).drew
  so : L is = true → L ia = true
section
variable {w0 w : World} {Z E : Obj} {vals : Nat → Option Value} {ia is : Nat} {L : Nat → Bool} {V : Nat → Value}
theorem OB.start (V : Nat → Value) : OB w0 Z E vals ia is (fun _ => false) V w0.drew :=
  ⟨fun _ _ h => Bool.noConfusion h, fun _ => rfl, fun h => Bool.noConfusion h, fun h => Bool.noConfusion h, fun h => Bool.noConfusion h⟩
theorem OB.below (h : OB w0 Z E vals ia is L V w) : Below w0.heap.size w0 w := by
  cases ea : L ia with
  | false => rw [h.sa ea]; exact (Below.refl _ _).drew
  | true =>
    cases es : L is with
    | false => rw [h.sb ea es]; exact ((Below.refl _ _).alloc (Nat.le_refl _) _).drew
    | true => rw [h.sc es]; exact ((Below.refl _ _).alloc (Nat.le_refl _) _).drew
theorem OB.vals' (h : OB w0 Z E vals ia is L V w) {j : Nat} {u : Value} (hv : ∀ v, vals j = some v → u = v) : ∀ i v, (L i || decide (i = j)) = true → vals i = some v → upd V j u i = v := by
  intro i v hi he
  unfold upd
  by_cases e : i = j
  · subst e; rw [if_pos rfl]; exact hv v he
  · rw [if_neg e]
    rw [decide_eq_false e, Bool.or_false] at hi
    exact h.val i v hi he
theorem OB.put (h : OB w0 Z E vals ia is L V w) (j : Nat) (u : Value) (ha : (decide (ia = j) || decide (is = j)) = false) (hv : ∀ v, vals j = some v → u = v) : OB w0 Z E vals ia is (fun i => L i || decide (i = j)) (upd V j u) w := by
  simp only [Bool.or_eq_false_iff, decide_eq_false_iff_not] at ha
  have e1 : decide (ia = j) = false := decide_eq_false ha.1
  have e2 : decide (is = j) = false := decide_eq_false ha.2
  refine ⟨h.vals' hv, ?_, ?_, ?_, ?_⟩ <;> simp only [e1, e2, Bool.or_false]
  · exact h.sa
  · exact h.sb
  · exact h.sc
  · exact h.so
theorem OB.puta (h : OB w0 Z E vals ia is L V w) (hne : ia ≠ is) (ha : L ia = false) (u : Value) (hv : ∀ v, vals ia = some v → u = v) : OB w0 Z E vals ia is (fun i => L i || decide (i = ia)) (upd V ia u) (w0.alloc Z).drew := by
  have hs : L is = false := by
    cases e : L is with
    | false => rfl
    | true => rw [h.so e] at ha; cases ha
  have e2 : decide (is = ia) = false := decide_eq_false (Ne.symm hne)
  refine ⟨h.vals' hv, ?_, ?_, ?_, ?_⟩
  · intro e; simp at e
  · intro _ _; rfl
  · simp only [hs, e2, Bool.or_false]; intro e; cases e
  · intro _; simp
theorem OB.puts (h : OB w0 Z E vals ia is L V w) (ha : L ia = true) (u : Value) (hv : ∀ v, vals is = some v → u = v) : OB w0 Z E vals ia is (fun i => L i || decide (i = is)) (upd V is u) (w0.alloc E).drew := by
  refine ⟨h.vals' hv, ?_, ?_, ?_, ?_⟩
  · intro e; simp [ha] at e
  · intro _ e; simp at e
  · intro _; rfl
  · intro _; simp [ha]
end
end Go.Proofs.YtjafagfhkpaciaaGreat
end PkSP3_4
section PkSP3_5
/- The store's abort, walked. Written by genstoabt.py. -/
namespace Go.Proofs.YtjafagfhkpaciaaGreat
open Go.RowKit
set_option linter.unusedVariables false

theorem ilit_inj {i j : Int} (h : ilit i = ilit j) : i = j := by cases h; rfl
theorem slit_inj {x y : ByteArray} (h : slit x = slit y) : x = y := by
  unfold slit at h
  have h1 : x.data.toList = y.data.toList := by simpa using h
  cases x; cases y
  congr 1
  exact Array.toList_inj.1 h1
theorem get_mem {κ α : Type} {lit : κ → Lit} (hinj : ∀ {i j}, lit i = lit j → i = j) {l : List (κ × α)} {k : κ} {a : α} (h : getK lit k l = some a) : (k, a) ∈ l := by
  unfold getK at h
  obtain ⟨q, hq, rfl⟩ := Option.map_eq_some_iff.1 h
  have hs := List.find?_some hq
  have he := hinj (WideAt.sameKey_eq hs)
  rw [← he]
  exact List.mem_of_find?_eq_some hq
theorem field_upl (σ : Sto) (i : Int) : ∃ us ub up, (getK ilit i σ.ups).elim uplZ uplC = .agg #[.string us, .int .i64 ub, .map up] := by
  cases getK ilit i σ.ups with
  | none => exact ⟨_, _, _, rfl⟩
  | some u => exact ⟨_, _, _, rfl⟩
/-- uploads as they must be -/
structure OkU (σ : Sto) : Prop where
  key : ∀ p ∈ σ.ups, ∀ x ∈ p.2.parts, 1 ≤ x.1 ∧ x.1 ≤ 32
  siz : ∀ p ∈ σ.ups, psz p.2.parts ≤ 4194304
  num : ∀ p ∈ σ.ups, p.2.parts.length ≤ 32
theorem wf_small {i : Int} (h : -9223372036854775808 ≤ i ∧ i ≤ 9223372036854775807) : (Lit.int .i64 i).wf = true := WalkArith.wf_i64 (by omega)
def AbtSays (w : World) (s Mo Mu : Nat) (σ : Sto) (i : Int) (e : Ending) (w' : World) : Prop :=
  match upOf σ i with
  | none => e = .returned (rep0 7) ∧ StAt w' s Mo Mu σ ∧ Below w.heap.size w w'
  | some u => e = .returned (rep0 0) ∧ StAt w' s Mo Mu (dropS σ i (psz u.parts)) ∧ Frm (StF s Mo Mu σ) w w'
theorem AbtSays.no {w w' : World} {s Mo Mu : Nat} {σ : Sto} {i : Int} (h : upOf σ i = none) (Z : StAt w' s Mo Mu σ ∧ Below w.heap.size w w') : AbtSays w s Mo Mu σ i (.returned (rep0 7)) w' := by
  unfold AbtSays; rw [h]; exact ⟨rfl, Z.1, Z.2⟩
theorem AbtSays.yes {w w' : World} {s Mo Mu : Nat} {σ : Sto} {i : Int} {u : UplS} (h : upOf σ i = some u) (Z : StAt w' s Mo Mu (dropS σ i (psz u.parts)) ∧ Frm (StF s Mo Mu σ) w w') : AbtSays w s Mo Mu σ i (.returned (rep0 0)) w' := by
  unfold AbtSays; rw [h]; exact ⟨rfl, Z.1, Z.2⟩
/-- a method's end behind a call that turned the store -/
theorem end_frm {w W2 W3 W5 : World} {s Mo Mu : Nat} {σ σ' : Sto} (hst : StAt W3 s Mo Mu σ') (hfr : Frm (StF s Mo Mu σ) W2 W3) (hbel : Below w.heap.size w W2) (h5 : Frm (fun b => b = w.heap.size + 1) W3 W5) (hF : ∀ b, StF s Mo Mu σ' b → b < w.heap.size) :
    StAt W5 s Mo Mu σ' ∧ Frm (StF s Mo Mu σ) w W5 :=
  ⟨hst.same fun b hb => h5.block b (hst.lt hb) (fun e => by have := hF b hb; omega), ((Frm.ofBelow hbel).trans hfr (fun i hi => .inl hi)).trans h5 (fun i hi => .inr (by omega))⟩
theorem StF.drop {s Mo Mu : Nat} {σ : Sto} {i : Int} {m b : Nat} (h : StF s Mo Mu (dropS σ i m) b) : StF s Mo Mu σ b := by
  rcases h with h | h | h | ⟨p, hp, h⟩
  · exact .inl h
  · exact .inr (.inl h)
  · exact .inr (.inr (.inl h))
  · exact .inr (.inr (.inr ⟨p, (List.mem_filter.1 hp).1, h⟩))
set_option maxRecDepth 100000 in
set_option maxHeartbeats 4000000 in
theorem abort_any {w : World} {s Mo Mu : Nat} {σ : Sto} (h : StAt w s Mo Mu σ) {ki vr at_ nn id : Int} {ky : ByteArray} {a : Option Addr} {n c : Nat} (hid : (Lit.int .i64 id).wf = true) (hok : OkU σ) (hz : 0 ≤ σ.size ∧ σ.size ≤ 4194304) :
    Calls Tryz.prog 24 #[.pointer (some ⟨s, 0, none⟩), .agg #[.int .i64 ki, .string ky, .slice a n c, .int .i64 vr, .int .i64 at_, .int .i64 nn, .int .i64 id]] w (AbtSays w s Mo Mu σ id) := by
  have HE := Lib.hid (ent_mk h #[.int .i64 ki, .string ky, .slice a n c, .int .i64 vr, .int .i64 at_, .int .i64 nn, .int .i64 id])
  have HL := Lib.hid h.lts
  have HF := Lib.hid (show ∀ b, StF s Mo Mu σ b → b < w.heap.size from fun b hb => h.lt hb)
  have HS := Lib.hid h
  clear h
  go_enter Tryz.func24, Tryz.ntmps24
  go_wp2_with fail
  obtain ⟨W0, hW0⟩ : ∃ W0, W0 = (w.alloc (.cells #[.int .i64 ki, .string ky, .slice a n c, .int .i64 vr, .int .i64 at_, .int .i64 nn, .int .i64 id] 34)).alloc (.cells zrep 43) := ⟨_, rfl⟩
  rw [← hW0] at HE
  unfold zrep at hW0
  rw [← hW0]
  clear hW0
  have hk0 : w.heap.size < W0.heap.size := by have := HE.out.sz; omega
  have hr0 : w.heap.size + 1 < W0.heap.size := by have := HE.out.sz; omega
  have hs0 := HE.out.st.lts
  have ez0 := Lib.hid HE.out.sz
  obtain ⟨us, ub, up, hus⟩ := field_upl σ id
  obtain ⟨oi, hoi⟩ : ∃ oi, oi = (getK ilit id σ.ups).isSome := ⟨_, rfl⟩
  have HUS := Lib.hid hus
  have HLA := Lib.hid (show ∀ w9, Below W0.heap.size W0 w9 → (Instr.lookup 49 (.map (some Mu)) (.int .i64 id) true).run Tryz.prog w9 = .ok (.tuple #[.agg #[.string us, .int .i64 ub, .map up], .bool oi]) w9 from fun w9 h9 => by
    have h8 := lookU2 (HE.out.st.upl.below h9) id hid
    rw [hus, ← hoi] at h8
    exact h8)
  have HOI := Lib.hid hoi
  clear hus hoi
  refine wp_region_inv (by kernel_rfl) (by kernel_rfl) (by kernel_rfl) (OB W0 (.cells #[.string { data := #[] }, .int .i64 0, .map none] 82) (.cells #[.string us, .int .i64 ub, .map up] 82) (fun j_9 => match j_9 with | 0 => some (.pointer (some ⟨s, 0, none⟩)) | 1 => some (.pointer (some ⟨s, 0, none⟩)) | 2 => some (.pointer (some ⟨s, 1, none⟩)) | 3 => some (.map (some Mu)) | 4 => some (.pointer (some ⟨w.heap.size, 6, none⟩)) | 5 => some (.int .i64 id) | 6 => some (.tuple #[.agg #[.string us, .int .i64 ub, .map up], .bool oi]) | 7 => some (.tuple #[.agg #[.string us, .int .i64 ub, .map up], .bool oi]) | 8 => some (.agg #[.string us, .int .i64 ub, .map up]) | 9 => some (.bool oi) | 10 => some (.pointer (some ⟨W0.heap.size, 0, none⟩)) | 11 => none | 12 => some (.bool oi) | _ => none) 10 11) (fun V => OB.start V) ?_ ?_
  · intro j9 o ho L9 V w9 K hI hL hdep hK
    have HI9 := Lib.hid hI
    have hJ := hI.below
    simp only [fill, slotOf, List.size_toArray, List.length_cons, List.length_nil, Nat.reduceAdd, List.getElem?_toArray, List.getElem?_cons_zero, List.getElem?_cons_succ, Option.bind_some, Act.put, List.setIfInBounds_toArray, List.set_cons_zero, List.set_cons_succ] at hK ⊢
    have hin : j9 < 13 := (Array.getElem?_eq_some_iff.1 ho).1
    have hcs : j9 = 0 ∨ j9 = 1 ∨ j9 = 2 ∨ j9 = 3 ∨ j9 = 4 ∨ j9 = 5 ∨ j9 = 6 ∨ j9 = 7 ∨ j9 = 8 ∨ j9 = 9 ∨ j9 = 10 ∨ j9 = 11 ∨ j9 = 12 := by omega
    clear hin
    rcases hcs with rfl | rfl | rfl | rfl | rfl | rfl | rfl | rfl | rfl | rfl | rfl | rfl | rfl
    · obtain rfl := Option.some.inj ho.symm
      clear hdep ho hI hL hJ
      try simp only [fill, slotOf, List.size_toArray, List.length_cons, List.length_nil, Nat.reduceAdd, List.getElem?_toArray, List.getElem?_cons_zero, List.getElem?_cons_succ, Option.bind_some, Act.put, List.setIfInBounds_toArray, List.set_cons_zero, List.set_cons_succ] at hK ⊢
      go_simp
      exact hK (.pointer (some ⟨s, 0, none⟩)) _ (HI9.out.put 0 _ (by decide) (fun v h => Option.some.inj h)) _ rfl
    · obtain rfl := Option.some.inj ho.symm
      have d0 : V 0 = .pointer (some ⟨s, 0, none⟩) := hI.val 0 _ (hdep ⟨0, .data⟩ (by simp) rfl) rfl
      clear hdep ho hI hL hJ
      try simp only [fill, slotOf, List.size_toArray, List.length_cons, List.length_nil, Nat.reduceAdd, List.getElem?_toArray, List.getElem?_cons_zero, List.getElem?_cons_succ, Option.bind_some, Act.put, List.setIfInBounds_toArray, List.set_cons_zero, List.set_cons_succ] at hK ⊢
      rw [d0] at hK ⊢
      go_simp
      exact hK (.pointer (some ⟨s, 0, none⟩)) _ (HI9.out.put 1 _ (by decide) (fun v h => Option.some.inj h)) _ rfl
    · obtain rfl := Option.some.inj ho.symm
      have d1 : V 1 = .pointer (some ⟨s, 0, none⟩) := hI.val 1 _ (hdep ⟨1, .data⟩ (by simp) rfl) rfl
      clear hdep ho hI hL hJ
      try simp only [fill, slotOf, List.size_toArray, List.length_cons, List.length_nil, Nat.reduceAdd, List.getElem?_toArray, List.getElem?_cons_zero, List.getElem?_cons_succ, Option.bind_some, Act.put, List.setIfInBounds_toArray, List.set_cons_zero, List.set_cons_succ] at hK ⊢
      rw [d1] at hK ⊢
      go_simp
      exact hK (.pointer (some ⟨s, 1, none⟩)) _ (HI9.out.put 2 _ (by decide) (fun v h => Option.some.inj h)) _ rfl
    · obtain rfl := Option.some.inj ho.symm
      have d2 : V 2 = .pointer (some ⟨s, 1, none⟩) := hI.val 2 _ (hdep ⟨2, .data⟩ (by simp) rfl) rfl
      have g9 := cell_blk2 ((hJ.block s hs0).trans HE.out.st.blk) (i := 1) (u := .map (some Mu)) rfl
      clear hdep ho hI hL hJ
      try simp only [fill, slotOf, List.size_toArray, List.length_cons, List.length_nil, Nat.reduceAdd, List.getElem?_toArray, List.getElem?_cons_zero, List.getElem?_cons_succ, Option.bind_some, Act.put, List.setIfInBounds_toArray, List.set_cons_zero, List.set_cons_succ] at hK ⊢
      rw [d2] at hK ⊢
      go_simp
      exact hK (.map (some Mu)) _ (HI9.out.put 3 _ (by decide) (fun v h => Option.some.inj h)) _ rfl
    · obtain rfl := Option.some.inj ho.symm
      clear hdep ho hI hL hJ
      try simp only [fill, slotOf, List.size_toArray, List.length_cons, List.length_nil, Nat.reduceAdd, List.getElem?_toArray, List.getElem?_cons_zero, List.getElem?_cons_succ, Option.bind_some, Act.put, List.setIfInBounds_toArray, List.set_cons_zero, List.set_cons_succ] at hK ⊢
      go_simp
      exact hK (.pointer (some ⟨w.heap.size, 6, none⟩)) _ (HI9.out.put 4 _ (by decide) (fun v h => Option.some.inj h)) _ rfl
    · obtain rfl := Option.some.inj ho.symm
      have d4 : V 4 = .pointer (some ⟨w.heap.size, 6, none⟩) := hI.val 4 _ (hdep ⟨4, .data⟩ (by simp) rfl) rfl
      have g9 := cell_blk2 ((hJ.block w.heap.size hk0).trans HE.out.cb) (i := 6) (u := .int .i64 id) rfl
      clear hdep ho hI hL hJ
      try simp only [fill, slotOf, List.size_toArray, List.length_cons, List.length_nil, Nat.reduceAdd, List.getElem?_toArray, List.getElem?_cons_zero, List.getElem?_cons_succ, Option.bind_some, Act.put, List.setIfInBounds_toArray, List.set_cons_zero, List.set_cons_succ] at hK ⊢
      rw [d4] at hK ⊢
      go_simp
      exact hK (.int .i64 id) _ (HI9.out.put 5 _ (by decide) (fun v h => Option.some.inj h)) _ rfl
    · obtain rfl := Option.some.inj ho.symm
      have d3 : V 3 = .map (some Mu) := hI.val 3 _ (hdep ⟨3, .data⟩ (by simp) rfl) rfl
      have d5 : V 5 = .int .i64 id := hI.val 5 _ (hdep ⟨5, .data⟩ (by simp) rfl) rfl
      have g9 := HLA.out w9 hJ
      clear hdep ho hI hL hJ
      try simp only [fill, slotOf, List.size_toArray, List.length_cons, List.length_nil, Nat.reduceAdd, List.getElem?_toArray, List.getElem?_cons_zero, List.getElem?_cons_succ, Option.bind_some, Act.put, List.setIfInBounds_toArray, List.set_cons_zero, List.set_cons_succ] at hK ⊢
      rw [d3, d5] at hK ⊢
      go_simp
      exact hK (.tuple #[.agg #[.string us, .int .i64 ub, .map up], .bool oi]) _ (HI9.out.put 6 _ (by decide) (fun v h => Option.some.inj h)) _ rfl
    · obtain rfl := Option.some.inj ho.symm
      have d6 : V 6 = .tuple #[.agg #[.string us, .int .i64 ub, .map up], .bool oi] := hI.val 6 _ (hdep ⟨6, .data⟩ (by simp) rfl) rfl
      clear hdep ho hI hL hJ
      try simp only [fill, slotOf, List.size_toArray, List.length_cons, List.length_nil, Nat.reduceAdd, List.getElem?_toArray, List.getElem?_cons_zero, List.getElem?_cons_succ, Option.bind_some, Act.put, List.setIfInBounds_toArray, List.set_cons_zero, List.set_cons_succ] at hK ⊢
      rw [d6] at hK ⊢
      go_simp
      exact hK (.tuple #[.agg #[.string us, .int .i64 ub, .map up], .bool oi]) _ (HI9.out.put 7 _ (by decide) (fun v h => Option.some.inj h)) _ rfl
    · obtain rfl := Option.some.inj ho.symm
      have d7 : V 7 = .tuple #[.agg #[.string us, .int .i64 ub, .map up], .bool oi] := hI.val 7 _ (hdep ⟨7, .data⟩ (by simp) rfl) rfl
      clear hdep ho hI hL hJ
      try simp only [fill, slotOf, List.size_toArray, List.length_cons, List.length_nil, Nat.reduceAdd, List.getElem?_toArray, List.getElem?_cons_zero, List.getElem?_cons_succ, Option.bind_some, Act.put, List.setIfInBounds_toArray, List.set_cons_zero, List.set_cons_succ] at hK ⊢
      rw [d7] at hK ⊢
      go_simp
      exact hK (.agg #[.string us, .int .i64 ub, .map up]) _ (HI9.out.put 8 _ (by decide) (fun v h => Option.some.inj h)) _ rfl
    · obtain rfl := Option.some.inj ho.symm
      have d7 : V 7 = .tuple #[.agg #[.string us, .int .i64 ub, .map up], .bool oi] := hI.val 7 _ (hdep ⟨7, .data⟩ (by simp) rfl) rfl
      clear hdep ho hI hL hJ
      try simp only [fill, slotOf, List.size_toArray, List.length_cons, List.length_nil, Nat.reduceAdd, List.getElem?_toArray, List.getElem?_cons_zero, List.getElem?_cons_succ, Option.bind_some, Act.put, List.setIfInBounds_toArray, List.set_cons_zero, List.set_cons_succ] at hK ⊢
      rw [d7] at hK ⊢
      go_simp
      exact hK (.bool oi) _ (HI9.out.put 9 _ (by decide) (fun v h => Option.some.inj h)) _ rfl
    · obtain rfl := Option.some.inj ho.symm
      have HL9 := Lib.hid hL
      have e9 := hI.sa hL
      clear hdep ho hI hL hJ
      subst e9
      try simp only [fill, slotOf, List.size_toArray, List.length_cons, List.length_nil, Nat.reduceAdd, List.getElem?_toArray, List.getElem?_cons_zero, List.getElem?_cons_succ, Option.bind_some, Act.put, List.setIfInBounds_toArray, List.set_cons_zero, List.set_cons_succ] at hK ⊢
      go_simp
      exact hK (.pointer (some ⟨W0.heap.size, 0, none⟩)) _ (HI9.out.puta (by decide) HL9.out _ (fun v h => Option.some.inj h)) _ rfl
    · obtain rfl := Option.some.inj ho.symm
      have d10 : V 10 = .pointer (some ⟨W0.heap.size, 0, none⟩) := hI.val 10 _ (hdep ⟨10, .data⟩ (by simp) rfl) rfl
      have d8 : V 8 = .agg #[.string us, .int .i64 ub, .map up] := hI.val 8 _ (hdep ⟨8, .data⟩ (by simp) rfl) rfl
      have la : L9 10 = true := hdep ⟨10, .data⟩ (by simp) rfl
      have HLA := Lib.hid la
      have e9 := hI.sb la hL
      clear hdep ho hI hL hJ la
      subst e9
      try simp only [fill, slotOf, List.size_toArray, List.length_cons, List.length_nil, Nat.reduceAdd, List.getElem?_toArray, List.getElem?_cons_zero, List.getElem?_cons_succ, Option.bind_some, Act.put, List.setIfInBounds_toArray, List.set_cons_zero, List.set_cons_succ] at hK ⊢
      rw [d10, d8] at hK ⊢
      go_simp
      exact hK undef _ (HI9.out.puts HLA.out _ (fun v h => by cases h)) _ rfl
    · obtain rfl := Option.some.inj ho.symm
      have d9 : V 9 = .bool oi := hI.val 9 _ (hdep ⟨9, .data⟩ (by simp) rfl) rfl
      clear hdep ho hI hL hJ
      try simp only [fill, slotOf, List.size_toArray, List.length_cons, List.length_nil, Nat.reduceAdd, List.getElem?_toArray, List.getElem?_cons_zero, List.getElem?_cons_succ, Option.bind_some, Act.put, List.setIfInBounds_toArray, List.set_cons_zero, List.set_cons_succ] at hK ⊢
      rw [d9] at hK ⊢
      go_simp
      exact hK (.bool oi) _ (HI9.out.put 12 _ (by decide) (fun v h => Option.some.inj h)) _ rfl
  · intro L9 V w9 hI hall
    have k10 : V 10 = .pointer (some ⟨W0.heap.size, 0, none⟩) := hI.val 10 _ (hall 10 (by decide)) rfl
    have k12 : V 12 = .bool oi := hI.val 12 _ (hall 12 (by decide)) rfl
    have e9 := hI.sc (hall 11 (by decide))
    clear hI hall
    subst e9
    simp only [fill, slotOf, List.size_toArray, List.length_cons, List.length_nil, Nat.reduceAdd, List.getElem?_toArray, List.getElem?_cons_zero, List.getElem?_cons_succ, Option.bind_some, Act.put, List.setIfInBounds_toArray, List.set_cons_zero, List.set_cons_succ]
    rw [k10, k12]
    clear k10 k12
    obtain ⟨W1, hW1⟩ : ∃ W1, W1 = (W0.alloc (.cells #[.string us, .int .i64 ub, .map up] 82)).drew := ⟨_, rfl⟩
    have M1 := Lib.hid (md_mk HE.out #[.string us, .int .i64 ub, .map up] 82)
    rw [← hW1] at M1
    rw [← hW1]
    rw [ez0.out]
    clear hW1 HE hk0 hr0 hs0 ez0 HLA
    cases oi with
    | false =>
      have HE0 := Lib.hid (show upOf σ id = none from by
        have h1 := HOI.out
        unfold upOf
        cases hg : getK ilit id σ.ups with
        | none => rfl
        | some x => rw [hg] at h1; cases h1)
      go_wp2_with fail
      refine (failed_any _ _).mono ?_
      rintro e W9 ⟨rfl, hb9⟩
      have M9 := Lib.hid (M1.out.kept hb9)
      clear hb9
      obtain ⟨⟨q0, q1, q2, q3, q4, q5, q6⟩, r0, r1, r2, r3, r4, r5, r6⟩ := rb_cells M9.out.rb
      unfold rep0
      go_wp2_with fail
      clear q0 q1 q2 q3 q4 q5 q6 r0 r1 r2 r3 r4 r5 r6
      obtain ⟨W5, hW5⟩ : ∃ W5, W5 = setR W9 (w.heap.size + 1) (.int .i64 7) (.slice none 0 0) (.int .i64 0) (.int .i64 0) (.int .i64 0) (.slice none 0 0) (.bool false) := ⟨_, rfl⟩
      have hr5 := setR_at0 M9.out.rb (.int .i64 7) (.slice none 0 0) (.int .i64 0) (.int .i64 0) (.int .i64 0) (.slice none 0 0) (.bool false)
      have Z := M9.out.done HL.out (fun b hb => HF.out b hb) (.int .i64 7) (.slice none 0 0) (.int .i64 0) (.int .i64 0) (.int .i64 0) (.slice none 0 0) (.bool false)
      rw [← hW5] at hr5 Z
      unfold setR at hW5
      rw [← hW5]
      refine bodyPost_ret (ret_rep rfl _ _ (w.heap.size + 1) rfl hr5) rfl ?_
      exact AbtSays.no HE0.out Z

    | true =>
      obtain ⟨u, hu⟩ : ∃ u, upOf σ id = some u := by
        have h1 := HOI.out
        unfold upOf
        cases hg : getK ilit id σ.ups with
        | none => rw [hg] at h1; cases h1
        | some x => exact ⟨x, rfl⟩
      have hm := get_mem ilit_inj hu
      have k6 := cell_blk2 M1.out.cb (i := 6) (u := .int .i64 id) rfl
      have HD := Lib.hid (drop_any M1.out.st hid hu hm (fun x hx => wf_small (by have := hok.key _ hm x hx; omega)) (by have := hok.siz _ hm; simp only at this; omega) hz)
      have HU := Lib.hid hu
      clear hu hm
      go_wp2_with fail
      refine HD.out.mono ?_
      rintro e W3 ⟨rfl, hst3, hfr3⟩
      have hrb3 : W3.heap[w.heap.size + 1]? = some (.cells zrep 43 (0, 0)) := hfr3.at M1.out.rb (fun hb => by have := HF.out _ hb; omega)
      have HST := Lib.hid hst3
      have HFR := Lib.hid hfr3
      have HRB := Lib.hid hrb3
      obtain ⟨⟨q0, q1, q2, q3, q4, q5, q6⟩, r0, r1, r2, r3, r4, r5, r6⟩ := rb_cells hrb3
      clear hst3 hfr3 hrb3
      go_wp2_with fail
      clear q0 q1 q2 q3 q4 q5 q6 r0 r1 r2 r3 r4 r5 r6
      obtain ⟨W5, hW5⟩ : ∃ W5, W5 = setR W3 (w.heap.size + 1) (.int .i64 0) (.slice none 0 0) (.int .i64 0) (.int .i64 0) (.int .i64 0) (.slice none 0 0) (.bool false) := ⟨_, rfl⟩
      have hr5 := setR_at0 HRB.out (.int .i64 0) (.slice none 0 0) (.int .i64 0) (.int .i64 0) (.int .i64 0) (.slice none 0 0) (.bool false)
      have hF5 := (Frm.refl (fun b => b = w.heap.size + 1) W3).setR (R := w.heap.size + 1) (.inl rfl) (.int .i64 0) (.slice none 0 0) (.int .i64 0) (.int .i64 0) (.int .i64 0) (.slice none 0 0) (.bool false)
      rw [← hW5] at hr5 hF5
      unfold setR at hW5
      rw [← hW5]
      have Z := end_frm HST.out HFR.out M1.out.bel hF5 (fun b hb => HF.out b hb.drop)
      refine bodyPost_ret (ret_rep rfl _ _ (w.heap.size + 1) rfl hr5) rfl ?_
      exact AbtSays.yes HU.out Z
end Go.Proofs.YtjafagfhkpaciaaGreat
end PkSP3_5
section PkSP3_6
/- The store's create, walked. Written by genstocre.py. -/
namespace Go.Proofs.YtjafagfhkpaciaaGreat
open Go.RowKit
set_option linter.unusedVariables false

/-- under way: the call's box, the reply's -/
structure Me (w W : World) (s Mo Mu : Nat) (σ : Sto) (cs : Array Value) : Prop where
  st : StAt W s Mo Mu σ
  cb : W.heap[w.heap.size]? = some (.cells cs 34 (0, 0))
  rb : W.heap[w.heap.size + 1]? = some (.cells zrep 43 (0, 0))
  bel : Below w.heap.size w W
theorem Ent.me {w W : World} {s Mo Mu : Nat} {σ : Sto} {cs : Array Value} (h : Ent w W s Mo Mu σ cs) : Me w W s Mo Mu σ cs := ⟨h.st, h.cb, h.rb, h.bel⟩
theorem Me.kept {w W W' : World} {s Mo Mu : Nat} {σ : Sto} {cs : Array Value} (h : Me w W s Mo Mu σ cs) (hb : Below W.heap.size W W') : Me w W' s Mo Mu σ cs :=
  ⟨h.st.below hb, (hb.block _ (Array.getElem?_eq_some_iff.1 h.cb).1).trans h.cb, (hb.block _ (Array.getElem?_eq_some_iff.1 h.rb).1).trans h.rb, h.bel.trans (hb.mono h.bel.size)⟩
theorem Me.done {w W : World} {s Mo Mu : Nat} {σ : Sto} {cs : Array Value} (h : Me w W s Mo Mu σ cs) (hs : s < w.heap.size) (hF : ∀ b, StF s Mo Mu σ b → b < w.heap.size) (x0 x1 x2 x3 x4 x5 x6 : Value) :
    StAt (setR W (w.heap.size + 1) x0 x1 x2 x3 x4 x5 x6) s Mo Mu σ ∧ Below w.heap.size w (setR W (w.heap.size + 1) x0 x1 x2 x3 x4 x5 x6) := by
  have h1 : Frm (fun b => b = w.heap.size + 1) W (setR W (w.heap.size + 1) x0 x1 x2 x3 x4 x5 x6) := (Frm.refl (fun b => b = w.heap.size + 1) W).setR (R := w.heap.size + 1) (.inl rfl) _ _ _ _ _ _ _
  refine ⟨h.st.same fun b hb => h1.block b (h.st.lt hb) (fun e => by have := hF b hb; omega), ?_⟩
  exact ⟨h1.os.trans h.bel.os, h1.tape.trans h.bel.tape, h1.output.trans h.bel.output, Nat.le_trans h.bel.size h1.size, fun i hi => (h1.block i (Nat.lt_of_lt_of_le hi h.bel.size) (by omega)).trans (h.bel.block i hi)⟩
theorem mem_ins {κ α : Type} {lit : κ → Lit} {x p : κ × α} : ∀ {l : List (κ × α)}, p ∈ insK lit x l → p = x ∨ p ∈ l
  | [], h => by unfold insK at h; exact .inl (List.mem_singleton.1 h)
  | y :: r, h => by
    unfold insK at h
    split at h
    · rcases List.mem_cons.1 h with g | g
      · exact .inl g
      · exact .inr g
    · rcases List.mem_cons.1 h with g | g
      · exact .inr (by rw [g]; simp)
      · rcases mem_ins g with e | e
        · exact .inl e
        · exact .inr (List.mem_cons_of_mem _ e)
theorem mem_put {κ α : Type} {lit : κ → Lit} {k : κ} {a : α} {l : List (κ × α)} {p : κ × α} (h : p ∈ putK lit k a l) : p = (k, a) ∨ p ∈ l := by
  rcases mem_ins h with e | e
  · exact .inl e
  · exact .inr (List.mem_filter.1 e).1
def createS (σ : Sto) (k : ByteArray) (pb : Nat) : Sto := { σ with id := σ.id + 1, ups := putK ilit (σ.id + 1) ⟨k, σ.now, pb, []⟩ σ.ups }
def CreSays (w : World) (s Mo Mu : Nat) (σ : Sto) (ky : ByteArray) (e : Ending) (w' : World) : Prop :=
  (isKeyB ky = false → e = .returned (rep0 1) ∧ StAt w' s Mo Mu σ ∧ Below w.heap.size w w') ∧
  (isKeyB ky = true → 512 ≤ σ.ups.length → e = .returned (rep0 9) ∧ StAt w' s Mo Mu σ ∧ Below w.heap.size w w') ∧
  (isKeyB ky = true → σ.ups.length < 512 → ∃ pb, e = .returned (rep 0 (.slice none 0 0) 0 σ.now (σ.id + 1) (.slice none 0 0) false) ∧ w.heap.size ≤ pb ∧ StAt w' s Mo Mu (createS σ ky pb) ∧ Frm (StF s Mo Mu σ) w w')
theorem CreSays.no1 {w w' : World} {s Mo Mu : Nat} {σ : Sto} {ky : ByteArray} (h : isKeyB ky = false) (Z : StAt w' s Mo Mu σ ∧ Below w.heap.size w w') : CreSays w s Mo Mu σ ky (.returned (rep0 1)) w' :=
  ⟨fun _ => ⟨rfl, Z.1, Z.2⟩, fun e => (by rw [h] at e; cases e), fun e => (by rw [h] at e; cases e)⟩
theorem CreSays.no9 {w w' : World} {s Mo Mu : Nat} {σ : Sto} {ky : ByteArray} (h : isKeyB ky = true) (hn : 512 ≤ σ.ups.length) (Z : StAt w' s Mo Mu σ ∧ Below w.heap.size w w') : CreSays w s Mo Mu σ ky (.returned (rep0 9)) w' :=
  ⟨fun e => (by rw [h] at e; cases e), fun _ _ => ⟨rfl, Z.1, Z.2⟩, fun _ e => by omega⟩
theorem CreSays.yes {w w' : World} {s Mo Mu : Nat} {σ : Sto} {ky : ByteArray} {pb : Nat} (h : isKeyB ky = true) (hn : σ.ups.length < 512) (hp : w.heap.size ≤ pb) (Z : StAt w' s Mo Mu (createS σ ky pb) ∧ Frm (StF s Mo Mu σ) w w') : CreSays w s Mo Mu σ ky (.returned (rep 0 (.slice none 0 0) 0 σ.now (σ.id + 1) (.slice none 0 0) false)) w' :=
  ⟨fun e => (by rw [h] at e; cases e), fun _ e => (by omega), fun _ _ => ⟨pb, rfl, hp, Z.1, Z.2⟩⟩
/-- an upload more, its parts' map new -/
theorem StAt.cre {w w' : World} {s Mo Mu : Nat} {σ σ' : Sto} {i : Int} {u : UplS} (h : StAt w s Mo Mu σ) (hF : Frm (fun b => b = s ∨ b = Mu) w w') (hb : w'.heap[s]? = some (.cells (stC Mo Mu σ') 51 (0, 0))) (hu : GM TU ilit uplC w' Mu σ'.ups) (ho : σ'.objs = σ.objs) (hs : σ'.ups = putK ilit i u σ.ups) (hp : GM TP ilit prtC w' u.pb u.parts) (hn : w.heap.size ≤ u.pb) : StAt w' s Mo Mu σ' := by
  have hn2 := h.neS
  have old : ∀ p ∈ σ.ups, p.2.pb < w.heap.size := fun p hp => (h.prt p hp).lt
  have hMo := h.obj.lt
  have hMu := h.upl.lt
  refine ⟨hb, ?_, hu, fun p hp' => ?_, h.neM, fun p hp' => ?_, fun p hp' q hq' e => ?_⟩
  · rw [ho]
    exact h.obj.same (hF.block Mo h.obj.lt (fun e => e.elim (fun g => hn2.1 g.symm) (fun g => h.neM g)))
  · rw [hs] at hp'
    rcases mem_put hp' with rfl | g
    · exact hp
    · exact (h.prt p g).same (hF.block _ (h.prt p g).lt (fun e => e.elim (fun x => hn2.2.2 p g x.symm) (fun x => (h.neP p g).2 x)))
  · rw [hs] at hp'
    rcases mem_put hp' with rfl | g
    · exact ⟨by simp only; omega, by simp only; omega⟩
    · exact h.neP p g
  · rw [hs] at hp' hq'
    rcases mem_put hp' with rfl | g1 <;> rcases mem_put hq' with rfl | g2
    · rfl
    · have := old q g2; simp only at e; omega
    · have := old p g1; simp only at e; omega
    · exact h.apart p g1 q g2 e
theorem cre_blk {s Mo Mu : Nat} {σ : Sto} {k : ByteArray} {pb b : Nat} (h : StF s Mo Mu (createS σ k pb) b) : StF s Mo Mu σ b ∨ b = pb := by
  rcases h with h | h | h | ⟨p, hp, h⟩
  · exact .inl (.inl h)
  · exact .inl (.inr (.inl h))
  · exact .inl (.inr (.inr (.inl h)))
  · rcases mem_put hp with rfl | g
    · exact .inr h
    · exact .inl (.inr (.inr (.inr ⟨p, g, h⟩)))
set_option maxRecDepth 100000 in
set_option maxHeartbeats 4000000 in
theorem create_any {w : World} {s Mo Mu : Nat} {σ : Sto} (h : StAt w s Mo Mu σ) {ki vr at_ nn id : Int} {ky : ByteArray} {a : Option Addr} {n c : Nat} (hid : 0 ≤ σ.id ∧ σ.id ≤ 1099511627776) :
    Calls Tryz.prog 21 #[.pointer (some ⟨s, 0, none⟩), .agg #[.int .i64 ki, .string ky, .slice a n c, .int .i64 vr, .int .i64 at_, .int .i64 nn, .int .i64 id]] w (CreSays w s Mo Mu σ ky) := by
  have HE := Lib.hid (ent_mk h #[.int .i64 ki, .string ky, .slice a n c, .int .i64 vr, .int .i64 at_, .int .i64 nn, .int .i64 id])
  have HL := Lib.hid h.lts
  have HF := Lib.hid (show ∀ b, StF s Mo Mu σ b → b < w.heap.size from fun b hb => h.lt hb)
  have HS := Lib.hid h
  clear h
  go_enter Tryz.func21, Tryz.ntmps21
  go_wp2_with fail
  obtain ⟨W0, hW0⟩ : ∃ W0, W0 = (w.alloc (.cells #[.int .i64 ki, .string ky, .slice a n c, .int .i64 vr, .int .i64 at_, .int .i64 nn, .int .i64 id] 34)).alloc (.cells zrep 43) := ⟨_, rfl⟩
  rw [← hW0] at HE
  unfold zrep at hW0
  rw [← hW0]
  clear hW0
  have hk0 : w.heap.size < W0.heap.size := by have := HE.out.sz; omega
  have hr0 : w.heap.size + 1 < W0.heap.size := by have := HE.out.sz; omega
  have hs0 := HE.out.st.lts
  have ez0 := Lib.hid HE.out.sz
  have M0 := Lib.hid HE.out.me
  have k1 := cell_blk2 M0.out.cb (i := 1) (u := .string ky) rfl
  clear HE hk0 hr0 hs0 ez0
  go_wp2_with fail
  refine (isKey_any _ _).mono ?_
  rintro e W1 ⟨rfl, hb1⟩
  have M1 := Lib.hid (M0.out.kept hb1)
  clear hb1 k1 M0
  cases hkb : isKeyB ky with
  | false =>
    have HE0 := Lib.hid hkb
    clear hkb
    go_wp2_with fail
    refine (failed_any _ _).mono ?_
    rintro e W9 ⟨rfl, hb9⟩
    have M9 := Lib.hid (M1.out.kept hb9)
    clear hb9
    obtain ⟨⟨q0, q1, q2, q3, q4, q5, q6⟩, r0, r1, r2, r3, r4, r5, r6⟩ := rb_cells M9.out.rb
    unfold rep0
    go_wp2_with fail
    clear q0 q1 q2 q3 q4 q5 q6 r0 r1 r2 r3 r4 r5 r6
    obtain ⟨W5, hW5⟩ : ∃ W5, W5 = setR W9 (w.heap.size + 1) (.int .i64 1) (.slice none 0 0) (.int .i64 0) (.int .i64 0) (.int .i64 0) (.slice none 0 0) (.bool false) := ⟨_, rfl⟩
    have hr5 := setR_at0 M9.out.rb (.int .i64 1) (.slice none 0 0) (.int .i64 0) (.int .i64 0) (.int .i64 0) (.slice none 0 0) (.bool false)
    have Z := M9.out.done HL.out (fun b hb => HF.out b hb) (.int .i64 1) (.slice none 0 0) (.int .i64 0) (.int .i64 0) (.int .i64 0) (.slice none 0 0) (.bool false)
    rw [← hW5] at hr5 Z
    unfold setR at hW5
    rw [← hW5]
    refine bodyPost_ret (ret_rep rfl _ _ (w.heap.size + 1) rfl hr5) rfl ?_
    exact CreSays.no1 HE0.out Z

  | true =>
    have HE0 := Lib.hid hkb
    clear hkb
    have c1 := cell_blk2 M1.out.st.blk (i := 1) (u := .map (some Mu)) rfl
    have hmlen := fun ty => lenU M1.out.st.upl ty
    by_cases hfull : 512 ≤ σ.ups.length
    case pos =>
      have y1 : (512 : Int) ≤ (σ.ups.length : Int) := by omega
      have y2 : decide ((512 : Int) ≤ (σ.ups.length : Int)) = true := decide_eq_true y1
      have HFU := Lib.hid hfull
      clear hfull
      go_wp2_with fail
      refine (failed_any _ _).mono ?_
      rintro e W9 ⟨rfl, hb9⟩
      have M9 := Lib.hid (M1.out.kept hb9)
      clear hb9
      obtain ⟨⟨q0, q1, q2, q3, q4, q5, q6⟩, r0, r1, r2, r3, r4, r5, r6⟩ := rb_cells M9.out.rb
      unfold rep0
      go_wp2_with fail
      clear q0 q1 q2 q3 q4 q5 q6 r0 r1 r2 r3 r4 r5 r6
      obtain ⟨W5, hW5⟩ : ∃ W5, W5 = setR W9 (w.heap.size + 1) (.int .i64 9) (.slice none 0 0) (.int .i64 0) (.int .i64 0) (.int .i64 0) (.slice none 0 0) (.bool false) := ⟨_, rfl⟩
      have hr5 := setR_at0 M9.out.rb (.int .i64 9) (.slice none 0 0) (.int .i64 0) (.int .i64 0) (.int .i64 0) (.slice none 0 0) (.bool false)
      have Z := M9.out.done HL.out (fun b hb => HF.out b hb) (.int .i64 9) (.slice none 0 0) (.int .i64 0) (.int .i64 0) (.int .i64 0) (.slice none 0 0) (.bool false)
      rw [← hW5] at hr5 Z
      unfold setR at hW5
      rw [← hW5]
      refine bodyPost_ret (ret_rep rfl _ _ (w.heap.size + 1) rfl hr5) rfl ?_
      exact CreSays.no9 HE0.out HFU.out Z

    case neg =>
      have y1 : ¬ (512 : Int) ≤ (σ.ups.length : Int) := by omega
      have y2 : decide ((512 : Int) ≤ (σ.ups.length : Int)) = false := decide_eq_false y1
      have HFU := Lib.hid (show σ.ups.length < 512 by omega)
      have c3 := cell_blk2 M1.out.st.blk (i := 3) (u := .int .i64 σ.id) rfl
      have f3 := fro_blk2 M1.out.st.blk 3
      have w1 : IntKind.i64.wrap (σ.id + 1) = σ.id + 1 := IntWalk.i64_in _ (by omega)
      clear hfull
      go_wp2_with fail
      clear c1 c3 f3 w1 hmlen y1 y2
      obtain ⟨W2, hW2⟩ : ∃ W2, W2 = W1.setCell ⟨s, 3, none⟩ (.int .i64 (σ.id + 1)) := ⟨_, rfl⟩
      rw [← hW2]
      have hF2 : Frm (fun b => b = s) W1 W2 := by rw [hW2]; exact (Frm.refl (fun b => b = s) W1).set (p := s) (.inl rfl) 3 _
      have hb2 : W2.heap[s]? = some (.cells #[.map (some Mo), .map (some Mu), .int .i64 σ.ver, .int .i64 (σ.id + 1), .int .i64 σ.size, .int .i64 σ.now] 51 (0, 0)) := by
        rw [hW2]
        exact heap_setCell_same W1 s 3 _ _ _ M1.out.st.blk
      have hsne := HL.out
      have hcb2 : W2.heap[w.heap.size]? = some (.cells #[.int .i64 ki, .string ky, .slice a n c, .int .i64 vr, .int .i64 at_, .int .i64 nn, .int .i64 id] 34 (0, 0)) := hF2.at M1.out.cb (by omega)
      have hrb2 : W2.heap[w.heap.size + 1]? = some (.cells zrep 43 (0, 0)) := hF2.at M1.out.rb (by omega)
      have hu2 : GM TU ilit uplC W2 Mu σ.ups := M1.out.st.upl.same (hF2.block Mu M1.out.st.upl.lt (fun e => M1.out.st.neS.2.1 e.symm))
      obtain ⟨B2, hB2⟩ : ∃ B2, B2 = W2.alloc (.map #[] 0) := ⟨_, rfl⟩
      have hbel2 : Below W2.heap.size W2 B2 := by rw [hB2]; exact (Below.refl _ _).alloc (Nat.le_refl _) _
      have hnew : GM TP ilit prtC B2 W2.heap.size [] := by rw [hB2]; exact GM.made _ _ _ _
      obtain ⟨w3, hrun, g3, ht3⟩ := storeU (hu2.below hbel2).drew (σ.id + 1) (wf_small (by omega)) ⟨ky, σ.now, W2.heap.size, []⟩ (by have := HFU.out; omega)
      rw [hB2] at hrun
      have hrun2 : (Instr.mapUpdate 49 (.map (some Mu)) (.int .i64 (σ.id + 1)) (.agg #[.string ky, .int .i64 σ.now, .map (some W2.heap.size)])).run Tryz.prog (W2.alloc (.map #[] 0)).drew = .ok () w3 := hrun
      have c1 := cell_blk2 hb2 (i := 1) (u := .map (some Mu)) rfl
      have c3 := cell_blk2 hb2 (i := 3) (u := .int .i64 (σ.id + 1)) rfl
      have c5 := cell_blk2 hb2 (i := 5) (u := .int .i64 σ.now) rfl
      have k1 := cell_blk2 hcb2 (i := 1) (u := .string ky) rfl
      have ls : s < W2.heap.size := (Array.getElem?_eq_some_iff.1 hb2).1
      have lc : w.heap.size < W2.heap.size := (Array.getElem?_eq_some_iff.1 hcb2).1
      have HF2 := Lib.hid hF2
      have HB2 := Lib.hid hb2
      have HRB2 := Lib.hid hrb2
      have HU2 := Lib.hid hu2
      have HBE2 := Lib.hid hbel2
      have HNEW := Lib.hid hnew
      have HG3 := Lib.hid g3
      have HT3 := Lib.hid ht3
      clear hrun hW2 hF2 hb2 hcb2 hrb2 hu2 hB2 hbel2 hnew g3 ht3
      have hmk := @run_makeMap Tryz.prog
      go_region
      clear hmk hrun2 c1 c3 c5 k1 ls lc
      go_wp2_with fail
      have hMu := HU2.out.lt
      have hF3 : Frm (fun b => b = s ∨ b = Mu) w w3 := (((Frm.ofBelow (F := fun b => b = s ∨ b = Mu) M1.out.bel).trans HF2.out (fun i hi => .inl (.inl hi))).below HBE2.out).drew.turned (.inl (.inr rfl)) HT3.out
      have hb3 : w3.heap[s]? = some (.cells (stC Mo Mu (createS σ ky W2.heap.size)) 51 (0, 0)) :=
        (HT3.out.grown.block s (Nat.lt_of_lt_of_le (Array.getElem?_eq_some_iff.1 HB2.out).1 HBE2.out.size) (fun e => M1.out.st.neS.2.1 (Option.some.inj e))).trans ((HBE2.out.block s (Array.getElem?_eq_some_iff.1 HB2.out).1).trans HB2.out)
      have hr3 : w3.heap[w.heap.size + 1]? = some (.cells zrep 43 (0, 0)) :=
        (HT3.out.grown.block (w.heap.size + 1) (Nat.lt_of_lt_of_le (Array.getElem?_eq_some_iff.1 HRB2.out).1 HBE2.out.size) (fun e => by have h5 := HF.out Mu (.inr (.inr (.inl rfl))); have h6 := Option.some.inj e; omega)).trans ((HBE2.out.block _ (Array.getElem?_eq_some_iff.1 HRB2.out).1).trans HRB2.out)
      have hp3 : GM TP ilit prtC w3 W2.heap.size [] := HNEW.out.same (HT3.out.grown.block W2.heap.size HNEW.out.lt (fun e => by have h6 := Option.some.inj e; omega))
      have hst3 : StAt w3 s Mo Mu (createS σ ky W2.heap.size) := HS.out.cre (i := σ.id + 1) (u := ⟨ky, σ.now, W2.heap.size, []⟩) hF3 hb3 HG3.out rfl rfl hp3 (Nat.le_trans M1.out.bel.size HF2.out.size)
      have hfr3 : Frm (StF s Mo Mu σ) w w3 := hF3.imp (fun i e => e.elim (fun g => .inl g) (fun g => .inr (.inr (.inl g))))
      have c3 := cell_blk2 hb3 (i := 3) (u := .int .i64 (σ.id + 1)) rfl
      have c5 := cell_blk2 hb3 (i := 5) (u := .int .i64 σ.now) rfl
      have HLW := Lib.hid (show w.heap.size + 1 < W2.heap.size from (Array.getElem?_eq_some_iff.1 HRB2.out).1)
      have HPB := Lib.hid (show w.heap.size ≤ W2.heap.size from Nat.le_trans M1.out.bel.size HF2.out.size)
      have HST := Lib.hid hst3
      have HFR := Lib.hid hfr3
      have HRB := Lib.hid hr3
      obtain ⟨⟨q0, q1, q2, q3, q4, q5, q6⟩, r0, r1, r2, r3, r4, r5, r6⟩ := rb_cells hr3
      clear hMu hF3 hb3 hr3 hp3 hst3 hfr3
      go_region
      go_wp2_with fail
      clear q0 q1 q2 q3 q4 q5 q6 r0 r1 r2 r3 r4 r5 r6 c3 c5
      obtain ⟨W5, hW5⟩ : ∃ W5, W5 = setR w3 (w.heap.size + 1) (.int .i64 0) (.slice none 0 0) (.int .i64 0) (.int .i64 σ.now) (.int .i64 (σ.id + 1)) (.slice none 0 0) (.bool false) := ⟨_, rfl⟩
      have hr5 := setR_at0 HRB.out (.int .i64 0) (.slice none 0 0) (.int .i64 0) (.int .i64 σ.now) (.int .i64 (σ.id + 1)) (.slice none 0 0) (.bool false)
      have hF5 := (Frm.refl (fun b => b = w.heap.size + 1) w3).setR (R := w.heap.size + 1) (.inl rfl) (.int .i64 0) (.slice none 0 0) (.int .i64 0) (.int .i64 σ.now) (.int .i64 (σ.id + 1)) (.slice none 0 0) (.bool false)
      rw [← hW5] at hr5 hF5
      unfold setR at hW5
      rw [← hW5]
      refine bodyPost_ret (ret_rep rfl _ _ (w.heap.size + 1) rfl (show W5.drew.heap[w.heap.size + 1]? = _ from hr5)) rfl ?_
      refine CreSays.yes HE0.out HFU.out HPB.out ⟨HST.out.same fun b hb => hF5.block b (HST.out.lt hb) (fun e => ?_), (HFR.out.trans hF5.drew (fun i hi => .inr (by omega)))⟩
      rcases cre_blk hb with g | g
      · have := HF.out b g; omega
      · have := HLW.out; omega
end Go.Proofs.YtjafagfhkpaciaaGreat
end PkSP3_6
section PkSP3_7
/- The bytes of a text, made in a block of their own. -/
namespace Go.Proofs.YtjafagfhkpaciaaGreat
open Go.RowKit
set_option linter.unusedVariables false

/-- a text's bytes as numbers -/
def numsOf (s : ByteArray) : List Nat := s.data.toList.map UInt8.toNat
theorem numsOf_len (s : ByteArray) : (numsOf s).length = s.size := by unfold numsOf; simp
theorem numsOf_lt (s : ByteArray) : ∀ x ∈ numsOf s, x < 256 := by
  intro x hx
  unfold numsOf at hx
  obtain ⟨b, _, rfl⟩ := List.mem_map.1 hx
  exact b.toNat_lt
theorem bs_numsOf (s : ByteArray) : bs (numsOf s) = s := by
  have h : (bs (numsOf s)).data.toList = s.data.toList := by
    unfold bs numsOf
    rw [strOfNums_data, List.map_map, List.map_map]
    conv => rhs; rw [← List.map_id s.data.toList]
    apply List.map_congr_left
    intro b _
    simp
  have h2 : (bs (numsOf s)).data = s.data := Array.toList_inj.1 h
  cases s
  cases hb : bs (numsOf _)
  simp only [hb] at h2
  rw [h2]
theorem bs_sizeS (xs : List Nat) : (bs xs).size = xs.length := by
  have h1 : (bs xs).data.size = xs.length := by
    rw [← Array.length_toList]
    unfold bs
    rw [strOfNums_data]; simp
  exact h1
/-- bytes of a block that no text shares -/
def Unf (w : World) (g n : Nat) : Prop := ∃ cs fr, w.heap[g]? = some (.cells cs 5 fr) ∧ n ≤ fr.1
theorem bytes_made (w : World) (s : ByteArray) (hs : s.size ≤ 1000000000) : ∃ w1 c, (convert 9 32 (.string s)).run Tryz.prog w = .ok (.slice (some ⟨w.heap.size, 0, none⟩) s.size c) w1 ∧
    BytesAt w1 (some ⟨w.heap.size, 0, none⟩) s.size c (numsOf s) ∧ Below w.heap.size w w1 ∧ w.heap.size < w1.heap.size ∧ Unf w1 w.heap.size s.size := by
  have hr := run_bytes_of_string (P := Tryz.prog) w 9 32 5 s Tryz.underlying9 Tryz.underlying32 Tryz.underlying5
  have hb : Below w.heap.size w (w.drew.alloc (.cells (bytesRow s (grownCap w s.size 0 5)) 5 ((bytesRow s (grownCap w s.size 0 5)).size, (bytesRow s (grownCap w s.size 0 5)).size + 1))) := (Below.refl _ _).drew.alloc (Nat.le_refl _) _
  have hsz : w.heap.size < (w.drew.alloc (.cells (bytesRow s (grownCap w s.size 0 5)) 5 ((bytesRow s (grownCap w s.size 0 5)).size, (bytesRow s (grownCap w s.size 0 5)).size + 1))).heap.size := by
    rw [World.size_alloc]; exact Nat.lt_succ_self _
  refine ⟨_, _, hr, ⟨numsOf_len s, grownCap_ge w s.size 0 _, numsOf_lt s, by omega, ?_, (fun e => by cases e), fun hp => ⟨w.heap.size, 0, rfl, hsz, fun i hi => ?_⟩⟩, hb, hsz, _, _, (Go.MapKept.heap_alloc w.drew _).1, by show s.size ≤ (bytesRow s _).size; unfold bytesRow; simp⟩
  · have := grownCap_le_maxLen w s.size 0 5 (by unfold maxLen; omega)
    unfold maxLen at this; exact this
  · have h1 := World.cell?_alloc_mark w.drew (bytesRow s (grownCap w s.size 0 5)) 5 ((bytesRow s (grownCap w s.size 0 5)).size, (bytesRow s (grownCap w s.size 0 5)).size + 1) i
    rw [Nat.zero_add]
    refine h1.trans ?_
    have hi2 : i < s.data.size := hi
    unfold bytesRow numsOf
    rw [Array.getElem?_append_left (by simpa using hi2)]
    simp
    have h3 : s.data[i]? = some s.data[i] := Array.getElem?_eq_getElem hi2
    exact ⟨s.data[i], h3, by rw [h3]; rfl⟩
theorem cell_of_heap {w w' : World} {b o : Nat} (h : w'.heap[b]? = w.heap[b]?) : w'.cell? ⟨b, o, none⟩ = w.cell? ⟨b, o, none⟩ := by
  unfold World.cell?
  simp only [h]
end Go.Proofs.YtjafagfhkpaciaaGreat
end PkSP3_7
section PkSP3_8
/- The store's part, walked. Written by genstoprt.py. -/
namespace Go.Proofs.YtjafagfhkpaciaaGreat
open Go.RowKit
set_option linter.unusedVariables false

def oldP (u : UplS) (n : Int) : Nat := match getK ilit n u.parts with | some d => d.size | none => 0
def setParts (i : Int) (ps : List (Int × ByteArray)) (l : List (Int × UplS)) : List (Int × UplS) := l.map fun p => if p.1 = i then (p.1, { p.2 with parts := ps }) else p
def partS (σ : Sto) (i : Int) (u : UplS) (n : Int) (d : ByteArray) : Sto := { σ with size := σ.size + ((d.size : Int) - (oldP u n : Int)), ups := setParts i (putK ilit n d u.parts) σ.ups }
theorem enc_setParts (i : Int) (ps : List (Int × ByteArray)) (l : List (Int × UplS)) : encK ilit uplC (setParts i ps l) = encK ilit uplC l := by
  unfold encK setParts
  rw [List.map_map]
  apply List.map_congr_left
  intro p _
  simp only [Function.comp]
  split <;> rfl
theorem gm_enc {κ α : Type} {T : MTy} {lit : κ → Lit} {f : α → Value} {w : World} {M : Nat} {l l' : List (κ × α)} (h : GM T lit f w M l) (e : encK lit f l' = encK lit f l) : GM T lit f w M l' := by
  have e2 : l'.length = l.length := by
    have := congrArg List.length e
    unfold encK at this
    simpa using this
  unfold GM at h ⊢
  rw [e, e2]
  exact h
theorem mem_setParts {i : Int} {ps : List (Int × ByteArray)} {l : List (Int × UplS)} {p : Int × UplS} (h : p ∈ setParts i ps l) : ∃ q ∈ l, p.1 = q.1 ∧ p.2.pb = q.2.pb ∧ p.2.key = q.2.key ∧ p.2.born = q.2.born ∧ ((q.1 = i ∧ p.2.parts = ps) ∨ (q.1 ≠ i ∧ p.2.parts = q.2.parts)) := by
  unfold setParts at h
  obtain ⟨q, hq, rfl⟩ := List.mem_map.1 h
  refine ⟨q, hq, ?_⟩
  split
  · rename_i e; exact ⟨rfl, rfl, rfl, rfl, .inl ⟨e, rfl⟩⟩
  · rename_i e; exact ⟨rfl, rfl, rfl, rfl, .inr ⟨e, rfl⟩⟩
theorem apart_same {κ α : Type} {lit : κ → Lit} : ∀ {l : List (κ × α)}, l.Pairwise (fun p q => lit p.1 ≠ lit q.1) → ∀ {p q : κ × α}, p ∈ l → q ∈ l → p ≠ q → lit p.1 = lit q.1 → False
  | [], _, _, _, hp, _, _, _ => by cases hp
  | a :: r, h, p, q, hp, hq, hne, e => by
    obtain ⟨h1, h2⟩ := List.pairwise_cons.1 h
    rcases List.mem_cons.1 hp with rfl | hp'
    · rcases List.mem_cons.1 hq with rfl | hq'
      · exact hne rfl
      · exact h1 q hq' e
    · rcases List.mem_cons.1 hq with rfl | hq'
      · exact h1 p hp' e.symm
      · exact apart_same h2 hp' hq' hne e
/-- the parts of one upload turned -/
theorem StAt.prt' {w w' : World} {s Mo Mu : Nat} {σ σ' : Sto} {i : Int} {u : UplS} {ps : List (Int × ByteArray)} (h : StAt w s Mo Mu σ) (hm : (i, u) ∈ σ.ups) (hF : Frm (fun b => b = s ∨ b = u.pb) w w') (hb : w'.heap[s]? = some (.cells (stC Mo Mu σ') 51 (0, 0))) (ho : σ'.objs = σ.objs) (hs : σ'.ups = setParts i ps σ.ups) (hp : GM TP ilit prtC w' u.pb ps) : StAt w' s Mo Mu σ' := by
  have hn := h.neS
  have hpb := h.neP _ hm
  simp only at hpb
  refine ⟨hb, ?_, ?_, fun p hp' => ?_, h.neM, fun p hp' => ?_, fun p hp' q hq' e => ?_⟩
  · rw [ho]
    exact h.obj.same (hF.block Mo h.obj.lt (fun e => e.elim (fun g => hn.1 g.symm) (fun g => hpb.1 g.symm)))
  · rw [hs]
    exact gm_enc (h.upl.same (hF.block Mu h.upl.lt (fun e => e.elim (fun g => hn.2.1 g.symm) (fun g => hpb.2 g.symm)))) (enc_setParts _ _ _)
  · rw [hs] at hp'
    obtain ⟨q, hq, h1, h2, _, _, h3⟩ := mem_setParts hp'
    rcases h3 with ⟨g, h4⟩ | ⟨g, h4⟩
    · have : q.2.pb = u.pb := by
        have hu := h.upl.apart
        have : q = (i, u) := by
          rcases Classical.em (q = (i, u)) with e | e
          · exact e
          · exfalso
            exact apart_same hu hq hm e (by simp only; rw [g])
        rw [this]
      rw [h2, h4, this]
      exact hp
    · rw [h2, h4]
      refine (h.prt q hq).same (hF.block _ (h.prt q hq).lt (fun e => e.elim (fun x => hn.2.2 q hq x.symm) (fun x => ?_)))
      exact g (h.apart q hq _ hm x)
  · rw [hs] at hp'
    obtain ⟨q, hq, h1, h2, _⟩ := mem_setParts hp'
    rw [h2]
    exact h.neP q hq
  · rw [hs] at hp' hq'
    obtain ⟨p1, hp1, h1, h2, _⟩ := mem_setParts hp'
    obtain ⟨q1, hq1, h3, h4, _⟩ := mem_setParts hq'
    rw [h1, h3]
    exact h.apart p1 hp1 q1 hq1 (by rw [← h2, ← h4]; exact e)
theorem bytes_frm {F : Nat → Prop} {w w' : World} {a : Option Addr} {n c : Nat} {xs : List Nat} (h : BytesAt w a n c xs) (hF : Frm F w w') (hne : ∀ b off, a = some ⟨b, off, none⟩ → 0 < n → ¬ F b) : BytesAt w' a n c xs := by
  refine ⟨h.len, h.cap, h.byte, h.reach, h.capm, h.nl, fun hn => ?_⟩
  obtain ⟨b, off, ha, hlt, hc⟩ := h.cells hn
  exact ⟨b, off, ha, Nat.lt_of_lt_of_le hlt hF.size, fun i hi => (cell_of_heap (hF.block b hlt (hne b off ha hn))).trans (hc i hi)⟩
theorem bytes_not {w : World} {s Mo Mu : Nat} {σ : Sto} (h : StAt w s Mo Mu σ) {a : Option Addr} {n c : Nat} {xs : List Nat} (hx : BytesAt w a n c xs) : ∀ b off, a = some ⟨b, off, none⟩ → 0 < n → ¬ StF s Mo Mu σ b := by
  intro b off ha hn hF
  obtain ⟨b', off', ha', _, hc⟩ := hx.cells hn
  rw [ha] at ha'
  cases ha'
  have h0 := hc 0 hn
  rw [Nat.add_zero] at h0
  have hmap : ∀ {M : Nat}, (∃ es cl, w.heap[M]? = some (.map es cl)) → b = M → False := by
    rintro M ⟨es, cl, hb⟩ rfl
    unfold World.cell? at h0
    simp [hb] at h0
  rcases hF with e | e | e | ⟨p, hp, e⟩
  · subst e
    rw [cell_of_row w b off _ _ (0, 0) h.blk] at h0
    unfold stC at h0
    rcases (by omega : off = 0 ∨ off = 1 ∨ off = 2 ∨ off = 3 ∨ off = 4 ∨ off = 5 ∨ 6 ≤ off) with rfl | rfl | rfl | rfl | rfl | rfl | g
    · simp at h0
    · simp at h0
    · simp at h0
    · simp at h0
    · simp at h0
    · simp at h0
    · rw [Array.getElem?_eq_none (by simpa using g)] at h0; cases h0
  · exact hmap (gm_obj h.obj) e
  · exact hmap (gm_obj h.upl) e
  · exact hmap (gm_obj (h.prt p hp)) e
/-- why a part isn't taken -/
def partE (σ : Sto) (i nn : Int) (n : Nat) : Int :=
  match upOf σ i with
  | none => 7
  | some u => if nn < 1 ∨ 32 < nn then 1 else if 262144 < n then 5 else if 4194304 < σ.size + ((n : Int) - (oldP u nn : Int)) then 9 else 0
def PrtSays (w : World) (s Mo Mu : Nat) (σ : Sto) (i nn : Int) (n : Nat) (d : ByteArray) (e : Ending) (w' : World) : Prop :=
  (partE σ i nn n ≠ 0 → e = .returned (rep0 (partE σ i nn n)) ∧ StAt w' s Mo Mu σ ∧ Below w.heap.size w w') ∧
  (partE σ i nn n = 0 → ∃ u, upOf σ i = some u ∧ e = .returned (rep0 0) ∧ StAt w' s Mo Mu (partS σ i u nn d) ∧ Frm (StF s Mo Mu σ) w w')
theorem PrtSays.no {w w' : World} {s Mo Mu : Nat} {σ : Sto} {i nn x : Int} {n : Nat} {d : ByteArray} (h : partE σ i nn n = x) (hx : x ≠ 0) (Z : StAt w' s Mo Mu σ ∧ Below w.heap.size w w') : PrtSays w s Mo Mu σ i nn n d (.returned (rep0 x)) w' := by
  subst h
  exact ⟨fun _ => ⟨rfl, Z.1, Z.2⟩, fun e => absurd e hx⟩
theorem PrtSays.yes {w w' : World} {s Mo Mu : Nat} {σ : Sto} {i nn : Int} {n : Nat} {d : ByteArray} {u : UplS} (hu : upOf σ i = some u) (h : partE σ i nn n = 0) (Z : StAt w' s Mo Mu (partS σ i u nn d) ∧ Frm (StF s Mo Mu σ) w w') : PrtSays w s Mo Mu σ i nn n d (.returned (rep0 0)) w' :=
  ⟨fun e => absurd h e, fun _ => ⟨u, hu, rfl, Z.1, Z.2⟩⟩
theorem part_blk {s Mo Mu : Nat} {σ : Sto} {i nn : Int} {u : UplS} {d : ByteArray} {b : Nat} (h : StF s Mo Mu (partS σ i u nn d) b) : StF s Mo Mu σ b := by
  rcases h with h | h | h | ⟨p, hp, h⟩
  · exact .inl h
  · exact .inr (.inl h)
  · exact .inr (.inr (.inl h))
  · obtain ⟨q, hq, _, h2, _⟩ := mem_setParts hp
    exact .inr (.inr (.inr ⟨q, hq, by rw [h, h2]⟩))
theorem field_prt (u : UplS) (n : Int) : ∃ s, (getK ilit n u.parts).elim prtZ prtC = .agg #[.string s] ∧ s.size = oldP u n := by
  unfold oldP
  cases getK ilit n u.parts with
  | none => exact ⟨_, rfl, rfl⟩
  | some o => exact ⟨_, rfl, rfl⟩
theorem upl_eq {σ : Sto} {i ub : Int} {us : ByteArray} {up : Option Nat} {u : UplS} (h : (getK ilit i σ.ups).elim uplZ uplC = .agg #[.string us, .int .i64 ub, .map up]) (hu : upOf σ i = some u) : us = u.key ∧ ub = u.born ∧ up = some u.pb := by
  have hu2 : getK ilit i σ.ups = some u := hu
  rw [hu2] at h
  simp only [Option.elim, uplC, Value.agg.injEq, Array.mk.injEq, List.cons.injEq, Value.string.injEq, Value.int.injEq, Value.map.injEq, true_and, and_true] at h
  exact ⟨h.1.symm, h.2.1.symm, h.2.2.symm⟩
set_option maxRecDepth 100000 in
set_option maxHeartbeats 4000000 in
theorem part_any {w : World} {s Mo Mu : Nat} {σ : Sto} (h : StAt w s Mo Mu σ) {ki vr at_ nn id : Int} {ky : ByteArray} {a : Option Addr} {n c : Nat} {xs : List Nat} (hx : BytesAt w a n c xs) (hid : (Lit.int .i64 id).wf = true) (hok : OkU σ) (hz : 0 ≤ σ.size ∧ σ.size ≤ 4194304) :
    Calls Tryz.prog 22 #[.pointer (some ⟨s, 0, none⟩), .agg #[.int .i64 ki, .string ky, .slice a n c, .int .i64 vr, .int .i64 at_, .int .i64 nn, .int .i64 id]] w (PrtSays w s Mo Mu σ id nn n (bs xs)) := by
  have HE := Lib.hid (ent_mk h #[.int .i64 ki, .string ky, .slice a n c, .int .i64 vr, .int .i64 at_, .int .i64 nn, .int .i64 id])
  have HL := Lib.hid h.lts
  have HF := Lib.hid (show ∀ b, StF s Mo Mu σ b → b < w.heap.size from fun b hb => h.lt hb)
  have HS := Lib.hid h
  have HX := Lib.hid hx
  have hcap := hx.cap
  have hcm := hx.capm
  have HXL := Lib.hid hx.len
  clear h hx
  go_enter Tryz.func22, Tryz.ntmps22
  go_wp2_with fail
  obtain ⟨W0, hW0⟩ : ∃ W0, W0 = (w.alloc (.cells #[.int .i64 ki, .string ky, .slice a n c, .int .i64 vr, .int .i64 at_, .int .i64 nn, .int .i64 id] 34)).alloc (.cells zrep 43) := ⟨_, rfl⟩
  rw [← hW0] at HE
  unfold zrep at hW0
  rw [← hW0]
  clear hW0
  have hk0 : w.heap.size < W0.heap.size := by have := HE.out.sz; omega
  have hr0 : w.heap.size + 1 < W0.heap.size := by have := HE.out.sz; omega
  have hs0 := HE.out.st.lts
  have ez0 := Lib.hid HE.out.sz
  obtain ⟨us, ub, up, hus⟩ := field_upl σ id
  obtain ⟨oi, hoi⟩ : ∃ oi, oi = (getK ilit id σ.ups).isSome := ⟨_, rfl⟩
  have HUS := Lib.hid hus
  have HLA := Lib.hid (show ∀ w9, Below W0.heap.size W0 w9 → (Instr.lookup 49 (.map (some Mu)) (.int .i64 id) true).run Tryz.prog w9 = .ok (.tuple #[.agg #[.string us, .int .i64 ub, .map up], .bool oi]) w9 from fun w9 h9 => by
    have h8 := lookU2 (HE.out.st.upl.below h9) id hid
    rw [hus, ← hoi] at h8
    exact h8)
  have HOI := Lib.hid hoi
  clear hus hoi
  refine wp_region_inv (by kernel_rfl) (by kernel_rfl) (by kernel_rfl) (OB W0 (.cells #[.string { data := #[] }, .int .i64 0, .map none] 82) (.cells #[.string us, .int .i64 ub, .map up] 82) (fun j_9 => match j_9 with | 0 => some (.pointer (some ⟨s, 0, none⟩)) | 1 => some (.pointer (some ⟨s, 0, none⟩)) | 2 => some (.pointer (some ⟨s, 1, none⟩)) | 3 => some (.map (some Mu)) | 4 => some (.pointer (some ⟨w.heap.size, 6, none⟩)) | 5 => some (.int .i64 id) | 6 => some (.tuple #[.agg #[.string us, .int .i64 ub, .map up], .bool oi]) | 7 => some (.tuple #[.agg #[.string us, .int .i64 ub, .map up], .bool oi]) | 8 => some (.agg #[.string us, .int .i64 ub, .map up]) | 9 => some (.bool oi) | 10 => some (.pointer (some ⟨W0.heap.size, 0, none⟩)) | 11 => none | 12 => some (.bool oi) | _ => none) 10 11) (fun V => OB.start V) ?_ ?_
  · intro j9 o ho L9 V w9 K hI hL hdep hK
    have HI9 := Lib.hid hI
    have hJ := hI.below
    simp only [fill, slotOf, List.size_toArray, List.length_cons, List.length_nil, Nat.reduceAdd, List.getElem?_toArray, List.getElem?_cons_zero, List.getElem?_cons_succ, Option.bind_some, Act.put, List.setIfInBounds_toArray, List.set_cons_zero, List.set_cons_succ] at hK ⊢
    have hin : j9 < 13 := (Array.getElem?_eq_some_iff.1 ho).1
    have hcs : j9 = 0 ∨ j9 = 1 ∨ j9 = 2 ∨ j9 = 3 ∨ j9 = 4 ∨ j9 = 5 ∨ j9 = 6 ∨ j9 = 7 ∨ j9 = 8 ∨ j9 = 9 ∨ j9 = 10 ∨ j9 = 11 ∨ j9 = 12 := by omega
    clear hin
    rcases hcs with rfl | rfl | rfl | rfl | rfl | rfl | rfl | rfl | rfl | rfl | rfl | rfl | rfl
    · obtain rfl := Option.some.inj ho.symm
      clear hdep ho hI hL hJ
      try simp only [fill, slotOf, List.size_toArray, List.length_cons, List.length_nil, Nat.reduceAdd, List.getElem?_toArray, List.getElem?_cons_zero, List.getElem?_cons_succ, Option.bind_some, Act.put, List.setIfInBounds_toArray, List.set_cons_zero, List.set_cons_succ] at hK ⊢
      go_simp
      exact hK (.pointer (some ⟨s, 0, none⟩)) _ (HI9.out.put 0 _ (by decide) (fun v h => Option.some.inj h)) _ rfl
    · obtain rfl := Option.some.inj ho.symm
      have d0 : V 0 = .pointer (some ⟨s, 0, none⟩) := hI.val 0 _ (hdep ⟨0, .data⟩ (by simp) rfl) rfl
      clear hdep ho hI hL hJ
      try simp only [fill, slotOf, List.size_toArray, List.length_cons, List.length_nil, Nat.reduceAdd, List.getElem?_toArray, List.getElem?_cons_zero, List.getElem?_cons_succ, Option.bind_some, Act.put, List.setIfInBounds_toArray, List.set_cons_zero, List.set_cons_succ] at hK ⊢
      rw [d0] at hK ⊢
      go_simp
      exact hK (.pointer (some ⟨s, 0, none⟩)) _ (HI9.out.put 1 _ (by decide) (fun v h => Option.some.inj h)) _ rfl
    · obtain rfl := Option.some.inj ho.symm
      have d1 : V 1 = .pointer (some ⟨s, 0, none⟩) := hI.val 1 _ (hdep ⟨1, .data⟩ (by simp) rfl) rfl
      clear hdep ho hI hL hJ
      try simp only [fill, slotOf, List.size_toArray, List.length_cons, List.length_nil, Nat.reduceAdd, List.getElem?_toArray, List.getElem?_cons_zero, List.getElem?_cons_succ, Option.bind_some, Act.put, List.setIfInBounds_toArray, List.set_cons_zero, List.set_cons_succ] at hK ⊢
      rw [d1] at hK ⊢
      go_simp
      exact hK (.pointer (some ⟨s, 1, none⟩)) _ (HI9.out.put 2 _ (by decide) (fun v h => Option.some.inj h)) _ rfl
    · obtain rfl := Option.some.inj ho.symm
      have d2 : V 2 = .pointer (some ⟨s, 1, none⟩) := hI.val 2 _ (hdep ⟨2, .data⟩ (by simp) rfl) rfl
      have g9 := cell_blk2 ((hJ.block s hs0).trans HE.out.st.blk) (i := 1) (u := .map (some Mu)) rfl
      clear hdep ho hI hL hJ
      try simp only [fill, slotOf, List.size_toArray, List.length_cons, List.length_nil, Nat.reduceAdd, List.getElem?_toArray, List.getElem?_cons_zero, List.getElem?_cons_succ, Option.bind_some, Act.put, List.setIfInBounds_toArray, List.set_cons_zero, List.set_cons_succ] at hK ⊢
      rw [d2] at hK ⊢
      go_simp
      exact hK (.map (some Mu)) _ (HI9.out.put 3 _ (by decide) (fun v h => Option.some.inj h)) _ rfl
    · obtain rfl := Option.some.inj ho.symm
      clear hdep ho hI hL hJ
      try simp only [fill, slotOf, List.size_toArray, List.length_cons, List.length_nil, Nat.reduceAdd, List.getElem?_toArray, List.getElem?_cons_zero, List.getElem?_cons_succ, Option.bind_some, Act.put, List.setIfInBounds_toArray, List.set_cons_zero, List.set_cons_succ] at hK ⊢
      go_simp
      exact hK (.pointer (some ⟨w.heap.size, 6, none⟩)) _ (HI9.out.put 4 _ (by decide) (fun v h => Option.some.inj h)) _ rfl
    · obtain rfl := Option.some.inj ho.symm
      have d4 : V 4 = .pointer (some ⟨w.heap.size, 6, none⟩) := hI.val 4 _ (hdep ⟨4, .data⟩ (by simp) rfl) rfl
      have g9 := cell_blk2 ((hJ.block w.heap.size hk0).trans HE.out.cb) (i := 6) (u := .int .i64 id) rfl
      clear hdep ho hI hL hJ
      try simp only [fill, slotOf, List.size_toArray, List.length_cons, List.length_nil, Nat.reduceAdd, List.getElem?_toArray, List.getElem?_cons_zero, List.getElem?_cons_succ, Option.bind_some, Act.put, List.setIfInBounds_toArray, List.set_cons_zero, List.set_cons_succ] at hK ⊢
      rw [d4] at hK ⊢
      go_simp
      exact hK (.int .i64 id) _ (HI9.out.put 5 _ (by decide) (fun v h => Option.some.inj h)) _ rfl
    · obtain rfl := Option.some.inj ho.symm
      have d3 : V 3 = .map (some Mu) := hI.val 3 _ (hdep ⟨3, .data⟩ (by simp) rfl) rfl
      have d5 : V 5 = .int .i64 id := hI.val 5 _ (hdep ⟨5, .data⟩ (by simp) rfl) rfl
      have g9 := HLA.out w9 hJ
      clear hdep ho hI hL hJ
      try simp only [fill, slotOf, List.size_toArray, List.length_cons, List.length_nil, Nat.reduceAdd, List.getElem?_toArray, List.getElem?_cons_zero, List.getElem?_cons_succ, Option.bind_some, Act.put, List.setIfInBounds_toArray, List.set_cons_zero, List.set_cons_succ] at hK ⊢
      rw [d3, d5] at hK ⊢
      go_simp
      exact hK (.tuple #[.agg #[.string us, .int .i64 ub, .map up], .bool oi]) _ (HI9.out.put 6 _ (by decide) (fun v h => Option.some.inj h)) _ rfl
    · obtain rfl := Option.some.inj ho.symm
      have d6 : V 6 = .tuple #[.agg #[.string us, .int .i64 ub, .map up], .bool oi] := hI.val 6 _ (hdep ⟨6, .data⟩ (by simp) rfl) rfl
      clear hdep ho hI hL hJ
      try simp only [fill, slotOf, List.size_toArray, List.length_cons, List.length_nil, Nat.reduceAdd, List.getElem?_toArray, List.getElem?_cons_zero, List.getElem?_cons_succ, Option.bind_some, Act.put, List.setIfInBounds_toArray, List.set_cons_zero, List.set_cons_succ] at hK ⊢
      rw [d6] at hK ⊢
      go_simp
      exact hK (.tuple #[.agg #[.string us, .int .i64 ub, .map up], .bool oi]) _ (HI9.out.put 7 _ (by decide) (fun v h => Option.some.inj h)) _ rfl
    · obtain rfl := Option.some.inj ho.symm
      have d7 : V 7 = .tuple #[.agg #[.string us, .int .i64 ub, .map up], .bool oi] := hI.val 7 _ (hdep ⟨7, .data⟩ (by simp) rfl) rfl
      clear hdep ho hI hL hJ
      try simp only [fill, slotOf, List.size_toArray, List.length_cons, List.length_nil, Nat.reduceAdd, List.getElem?_toArray, List.getElem?_cons_zero, List.getElem?_cons_succ, Option.bind_some, Act.put, List.setIfInBounds_toArray, List.set_cons_zero, List.set_cons_succ] at hK ⊢
      rw [d7] at hK ⊢
      go_simp
      exact hK (.agg #[.string us, .int .i64 ub, .map up]) _ (HI9.out.put 8 _ (by decide) (fun v h => Option.some.inj h)) _ rfl
    · obtain rfl := Option.some.inj ho.symm
      have d7 : V 7 = .tuple #[.agg #[.string us, .int .i64 ub, .map up], .bool oi] := hI.val 7 _ (hdep ⟨7, .data⟩ (by simp) rfl) rfl
      clear hdep ho hI hL hJ
      try simp only [fill, slotOf, List.size_toArray, List.length_cons, List.length_nil, Nat.reduceAdd, List.getElem?_toArray, List.getElem?_cons_zero, List.getElem?_cons_succ, Option.bind_some, Act.put, List.setIfInBounds_toArray, List.set_cons_zero, List.set_cons_succ] at hK ⊢
      rw [d7] at hK ⊢
      go_simp
      exact hK (.bool oi) _ (HI9.out.put 9 _ (by decide) (fun v h => Option.some.inj h)) _ rfl
    · obtain rfl := Option.some.inj ho.symm
      have HL9 := Lib.hid hL
      have e9 := hI.sa hL
      clear hdep ho hI hL hJ
      subst e9
      try simp only [fill, slotOf, List.size_toArray, List.length_cons, List.length_nil, Nat.reduceAdd, List.getElem?_toArray, List.getElem?_cons_zero, List.getElem?_cons_succ, Option.bind_some, Act.put, List.setIfInBounds_toArray, List.set_cons_zero, List.set_cons_succ] at hK ⊢
      go_simp
      exact hK (.pointer (some ⟨W0.heap.size, 0, none⟩)) _ (HI9.out.puta (by decide) HL9.out _ (fun v h => Option.some.inj h)) _ rfl
    · obtain rfl := Option.some.inj ho.symm
      have d10 : V 10 = .pointer (some ⟨W0.heap.size, 0, none⟩) := hI.val 10 _ (hdep ⟨10, .data⟩ (by simp) rfl) rfl
      have d8 : V 8 = .agg #[.string us, .int .i64 ub, .map up] := hI.val 8 _ (hdep ⟨8, .data⟩ (by simp) rfl) rfl
      have la : L9 10 = true := hdep ⟨10, .data⟩ (by simp) rfl
      have HLA := Lib.hid la
      have e9 := hI.sb la hL
      clear hdep ho hI hL hJ la
      subst e9
      try simp only [fill, slotOf, List.size_toArray, List.length_cons, List.length_nil, Nat.reduceAdd, List.getElem?_toArray, List.getElem?_cons_zero, List.getElem?_cons_succ, Option.bind_some, Act.put, List.setIfInBounds_toArray, List.set_cons_zero, List.set_cons_succ] at hK ⊢
      rw [d10, d8] at hK ⊢
      go_simp
      exact hK undef _ (HI9.out.puts HLA.out _ (fun v h => by cases h)) _ rfl
    · obtain rfl := Option.some.inj ho.symm
      have d9 : V 9 = .bool oi := hI.val 9 _ (hdep ⟨9, .data⟩ (by simp) rfl) rfl
      clear hdep ho hI hL hJ
      try simp only [fill, slotOf, List.size_toArray, List.length_cons, List.length_nil, Nat.reduceAdd, List.getElem?_toArray, List.getElem?_cons_zero, List.getElem?_cons_succ, Option.bind_some, Act.put, List.setIfInBounds_toArray, List.set_cons_zero, List.set_cons_succ] at hK ⊢
      rw [d9] at hK ⊢
      go_simp
      exact hK (.bool oi) _ (HI9.out.put 12 _ (by decide) (fun v h => Option.some.inj h)) _ rfl
  · intro L9 V w9 hI hall
    have k10 : V 10 = .pointer (some ⟨W0.heap.size, 0, none⟩) := hI.val 10 _ (hall 10 (by decide)) rfl
    have k12 : V 12 = .bool oi := hI.val 12 _ (hall 12 (by decide)) rfl
    have e9 := hI.sc (hall 11 (by decide))
    clear hI hall
    subst e9
    simp only [fill, slotOf, List.size_toArray, List.length_cons, List.length_nil, Nat.reduceAdd, List.getElem?_toArray, List.getElem?_cons_zero, List.getElem?_cons_succ, Option.bind_some, Act.put, List.setIfInBounds_toArray, List.set_cons_zero, List.set_cons_succ]
    rw [k10, k12]
    clear k10 k12
    obtain ⟨W1, hW1⟩ : ∃ W1, W1 = (W0.alloc (.cells #[.string us, .int .i64 ub, .map up] 82)).drew := ⟨_, rfl⟩
    have M1 := Lib.hid (md_mk HE.out #[.string us, .int .i64 ub, .map up] 82)
    rw [← hW1] at M1
    rw [← hW1]
    rw [ez0.out]
    clear hW1 HE hk0 hr0 hs0 ez0 HLA
    cases oi with
    | false =>
      have HE0 := Lib.hid (show partE σ id nn n = 7 from by
        have h1 := HOI.out
        unfold partE upOf
        cases hg : getK ilit id σ.ups with
        | none => rfl
        | some x => rw [hg] at h1; cases h1)
      go_wp2_with fail
      refine (failed_any _ _).mono ?_
      rintro e W9 ⟨rfl, hb9⟩
      have M9 := Lib.hid (M1.out.kept hb9)
      clear hb9
      obtain ⟨⟨q0, q1, q2, q3, q4, q5, q6⟩, r0, r1, r2, r3, r4, r5, r6⟩ := rb_cells M9.out.rb
      unfold rep0
      go_wp2_with fail
      clear q0 q1 q2 q3 q4 q5 q6 r0 r1 r2 r3 r4 r5 r6
      obtain ⟨W5, hW5⟩ : ∃ W5, W5 = setR W9 (w.heap.size + 1) (.int .i64 7) (.slice none 0 0) (.int .i64 0) (.int .i64 0) (.int .i64 0) (.slice none 0 0) (.bool false) := ⟨_, rfl⟩
      have hr5 := setR_at0 M9.out.rb (.int .i64 7) (.slice none 0 0) (.int .i64 0) (.int .i64 0) (.int .i64 0) (.slice none 0 0) (.bool false)
      have Z := M9.out.done HL.out (fun b hb => HF.out b hb) (.int .i64 7) (.slice none 0 0) (.int .i64 0) (.int .i64 0) (.int .i64 0) (.slice none 0 0) (.bool false)
      rw [← hW5] at hr5 Z
      unfold setR at hW5
      rw [← hW5]
      refine bodyPost_ret (ret_rep rfl _ _ (w.heap.size + 1) rfl hr5) rfl ?_
      exact PrtSays.no HE0.out (by decide) Z

    | true =>
      obtain ⟨u, hu⟩ : ∃ u, upOf σ id = some u := by
        have h1 := HOI.out
        unfold upOf
        cases hg : getK ilit id σ.ups with
        | none => rw [hg] at h1; cases h1
        | some x => exact ⟨x, rfl⟩
      have hm := get_mem ilit_inj hu
      obtain ⟨rfl, rfl, rfl⟩ := upl_eq HUS.out hu
      have HU := Lib.hid hu
      have HM := Lib.hid hm
      have HPN := Lib.hid (hok.num _ hm)
      clear hu hm HUS
      have k5 := cell_blk2 M1.out.cb (i := 5) (u := .int .i64 nn) rfl
      by_cases hN : nn < 1 ∨ 32 < nn
      case pos =>
        have HE0 := Lib.hid (show partE σ id nn n = 1 from by unfold partE; rw [HU.out]; exact if_pos hN)
        have hN2 : nn < 1 ∨ (¬ nn < 1 ∧ 32 < nn) := by omega
        clear hN
        rcases hN2 with g | ⟨g0, g⟩
        all_goals
          go_wp2_with fail
          refine (failed_any _ _).mono ?_
          rintro e W9 ⟨rfl, hb9⟩
          have M9 := Lib.hid (M1.out.kept hb9)
          clear hb9
          obtain ⟨⟨q0, q1, q2, q3, q4, q5, q6⟩, r0, r1, r2, r3, r4, r5, r6⟩ := rb_cells M9.out.rb
          unfold rep0
          go_wp2_with fail
          clear q0 q1 q2 q3 q4 q5 q6 r0 r1 r2 r3 r4 r5 r6
          obtain ⟨W5, hW5⟩ : ∃ W5, W5 = setR W9 (w.heap.size + 1) (.int .i64 1) (.slice none 0 0) (.int .i64 0) (.int .i64 0) (.int .i64 0) (.slice none 0 0) (.bool false) := ⟨_, rfl⟩
          have hr5 := setR_at0 M9.out.rb (.int .i64 1) (.slice none 0 0) (.int .i64 0) (.int .i64 0) (.int .i64 0) (.slice none 0 0) (.bool false)
          have Z := M9.out.done HL.out (fun b hb => HF.out b hb) (.int .i64 1) (.slice none 0 0) (.int .i64 0) (.int .i64 0) (.int .i64 0) (.slice none 0 0) (.bool false)
          rw [← hW5] at hr5 Z
          unfold setR at hW5
          rw [← hW5]
          refine bodyPost_ret (ret_rep rfl _ _ (w.heap.size + 1) rfl hr5) rfl ?_
          exact PrtSays.no HE0.out (by decide) Z

      case neg =>
        have y1 : ¬ nn < 1 := by omega
        have y2 : ¬ 32 < nn := by omega
        have y1b : decide (nn < 1) = false := decide_eq_false y1
        have y2b : decide (32 < nn) = false := decide_eq_false y2
        have HN := Lib.hid hN
        have hnw : (Lit.int .i64 nn).wf = true := wf_small (by omega)
        clear hN
        have k2 := cell_blk2 M1.out.cb (i := 2) (u := .slice a n c) rfl
        by_cases hlen : 262144 < n
        case pos =>
          have zn : (262144 : Int) < (n : Int) := by omega
          have znb : decide ((262144 : Int) < (n : Int)) = true := decide_eq_true zn
          have HE0 := Lib.hid (show partE σ id nn n = 5 from by unfold partE; rw [HU.out]; simp only; rw [if_neg HN.out, if_pos hlen])
          clear hlen
          go_wp2_with fail
          refine (failed_any _ _).mono ?_
          rintro e W9 ⟨rfl, hb9⟩
          have M9 := Lib.hid (M1.out.kept hb9)
          clear hb9
          obtain ⟨⟨q0, q1, q2, q3, q4, q5, q6⟩, r0, r1, r2, r3, r4, r5, r6⟩ := rb_cells M9.out.rb
          unfold rep0
          go_wp2_with fail
          clear q0 q1 q2 q3 q4 q5 q6 r0 r1 r2 r3 r4 r5 r6
          obtain ⟨W5, hW5⟩ : ∃ W5, W5 = setR W9 (w.heap.size + 1) (.int .i64 5) (.slice none 0 0) (.int .i64 0) (.int .i64 0) (.int .i64 0) (.slice none 0 0) (.bool false) := ⟨_, rfl⟩
          have hr5 := setR_at0 M9.out.rb (.int .i64 5) (.slice none 0 0) (.int .i64 0) (.int .i64 0) (.int .i64 0) (.slice none 0 0) (.bool false)
          have Z := M9.out.done HL.out (fun b hb => HF.out b hb) (.int .i64 5) (.slice none 0 0) (.int .i64 0) (.int .i64 0) (.int .i64 0) (.slice none 0 0) (.bool false)
          rw [← hW5] at hr5 Z
          unfold setR at hW5
          rw [← hW5]
          refine bodyPost_ret (ret_rep rfl _ _ (w.heap.size + 1) rfl hr5) rfl ?_
          exact PrtSays.no HE0.out (by decide) Z

        case neg =>
          have zn : ¬ (262144 : Int) < (n : Int) := by omega
          have znb : decide ((262144 : Int) < (n : Int)) = false := decide_eq_false zn
          have HLN := Lib.hid hlen
          have o2 := cell_blk2 M1.out.ob (i := 2) (u := .map (some u.pb)) rfl
          have hgp := M1.out.st.prt _ HM.out
          obtain ⟨ps, hps, hpl⟩ := field_prt u nn
          have hlk := lookP hgp nn hnw
          rw [hps] at hlk
          have hfl := fldP ps
          have hpsl : ps.size ≤ 4194304 := by
            rw [hpl]
            unfold oldP
            cases hg : getK ilit nn u.parts with
            | none => simp
            | some d =>
              have h1 := tot_mem (fun d : ByteArray => d.size) (get_mem ilit_inj hg)
              have h2 := hok.siz _ HM.out
              unfold psz at h2
              simp only at h1 h2 ⊢
              omega
          have wsub : IntKind.i64.wrap ((n : Int) - (ps.size : Int)) = (n : Int) - (ps.size : Int) := IntWalk.i64_in _ (by omega)
          have c4 := Lib.hid (cell_blk2 M1.out.st.blk (i := 4) (u := .int .i64 σ.size) rfl)
          have HB4 := Lib.hid (show (0 ≤ σ.size ∧ σ.size ≤ 4194304) ∧ (-4194304 ≤ (n : Int) - (ps.size : Int) ∧ (n : Int) - (ps.size : Int) ≤ 4194304) from ⟨hz, by omega⟩)
          have HPS := Lib.hid hps
          have HPL := Lib.hid hpl
          have HGP := Lib.hid hgp
          clear hlen hps hpl hgp
          by_cases hroom : σ.size + ((n : Int) - (ps.size : Int)) ≤ 4194304
          case neg =>
            have zr : decide (σ.size + ((n : Int) - (ps.size : Int)) ≤ 4194304) = false := decide_eq_false hroom
            have HE0 := Lib.hid (show partE σ id nn n = 9 from by unfold partE; rw [HU.out]; simp only; rw [if_neg HN.out, if_neg HLN.out, if_pos (by have := HPL.out; omega)])
            clear hroom
            go_wp2_with (go_at_call 42; refine (holds_any c4.out HB4.out.1 HB4.out.2).mono ?_; rintro e w9 ⟨rfl, rfl⟩; rw [zr])
            go_wp2_with fail
            refine (failed_any _ _).mono ?_
            rintro e W9 ⟨rfl, hb9⟩
            have M9 := Lib.hid (M1.out.kept hb9)
            clear hb9
            obtain ⟨⟨q0, q1, q2, q3, q4, q5, q6⟩, r0, r1, r2, r3, r4, r5, r6⟩ := rb_cells M9.out.rb
            unfold rep0
            go_wp2_with fail
            clear q0 q1 q2 q3 q4 q5 q6 r0 r1 r2 r3 r4 r5 r6
            obtain ⟨W5, hW5⟩ : ∃ W5, W5 = setR W9 (w.heap.size + 1) (.int .i64 9) (.slice none 0 0) (.int .i64 0) (.int .i64 0) (.int .i64 0) (.slice none 0 0) (.bool false) := ⟨_, rfl⟩
            have hr5 := setR_at0 M9.out.rb (.int .i64 9) (.slice none 0 0) (.int .i64 0) (.int .i64 0) (.int .i64 0) (.slice none 0 0) (.bool false)
            have Z := M9.out.done HL.out (fun b hb => HF.out b hb) (.int .i64 9) (.slice none 0 0) (.int .i64 0) (.int .i64 0) (.int .i64 0) (.slice none 0 0) (.bool false)
            rw [← hW5] at hr5 Z
            unfold setR at hW5
            rw [← hW5]
            refine bodyPost_ret (ret_rep rfl _ _ (w.heap.size + 1) rfl hr5) rfl ?_
            exact PrtSays.no HE0.out (by decide) Z

          case pos =>
            have zr : decide (σ.size + ((n : Int) - (ps.size : Int)) ≤ 4194304) = true := decide_eq_true hroom
            have HE0 := Lib.hid (show partE σ id nn n = 0 from by unfold partE; rw [HU.out]; simp only; rw [if_neg HN.out, if_neg HLN.out, if_neg (by have := HPL.out; omega)])
            go_wp2_with (go_at_call 42; refine (holds_any c4.out HB4.out.1 HB4.out.2).mono ?_; rintro e w9 ⟨rfl, rfl⟩; rw [zr])
            have c4b := c4.out
            have f4 := fro_blk2 M1.out.st.blk 4
            have hlk2 := lookP HGP.out.drew nn hnw
            rw [HPS.out] at hlk2
            have wadd : IntKind.i64.wrap (σ.size + ((n : Int) - (ps.size : Int))) = σ.size + ((n : Int) - (ps.size : Int)) := IntWalk.i64_in _ (by omega)
            clear hlk hroom
            go_region
            clear c4b f4 hlk2 hfl wadd wsub zr
            obtain ⟨W2, hW2⟩ : ∃ W2, W2 = (W1.setCell ⟨s, 4, none⟩ (.int .i64 (σ.size + ((n : Int) - (ps.size : Int))))).drew := ⟨_, rfl⟩
            rw [← hW2]
            have hF2 : Frm (fun b => b = s) W1 W2 := by rw [hW2]; exact ((Frm.refl (fun b => b = s) W1).set (p := s) (.inl rfl) 4 _).drew
            have hb2 : W2.heap[s]? = some (.cells (stC Mo Mu (partS σ id u nn (bs xs))) 51 (0, 0)) := by
              rw [hW2]
              have h1 := heap_setCell_same W1 s 4 _ _ (.int .i64 (σ.size + ((n : Int) - (ps.size : Int)))) M1.out.st.blk
              unfold stC partS
              rw [bs_sizeS, HXL.out, ← HPL.out]
              exact h1
            have hsne := HL.out
            have hob2 : W2.heap[w.heap.size + 2]? = some (.cells #[.string u.key, .int .i64 u.born, .map (some u.pb)] 82 (0, 0)) := hF2.at M1.out.ob (by omega)
            have hcb2 : W2.heap[w.heap.size]? = some (.cells #[.int .i64 ki, .string ky, .slice a n c, .int .i64 vr, .int .i64 at_, .int .i64 nn, .int .i64 id] 34 (0, 0)) := hF2.at M1.out.cb (by omega)
            have hrb2 : W2.heap[w.heap.size + 1]? = some (.cells zrep 43 (0, 0)) := hF2.at M1.out.rb (by omega)
            have hgp2 : GM TP ilit prtC W2 u.pb u.parts := HGP.out.same (hF2.block u.pb HGP.out.lt (fun e => M1.out.st.neS.2.2 _ HM.out e.symm))
            have hx2 : BytesAt W2 a n c xs := bytes_frm (HX.out.kept M1.out.bel) hF2 (fun b off ha hp e => bytes_not M1.out.st (HX.out.kept M1.out.bel) b off ha hp (.inl e))
            have hconv := hx2.conv
            have o2b := cell_blk2 hob2 (i := 2) (u := .map (some u.pb)) rfl
            have k5b := cell_blk2 hcb2 (i := 5) (u := .int .i64 nn) rfl
            have k2b := cell_blk2 hcb2 (i := 2) (u := .slice a n c) rfl
            obtain ⟨w3, hrun, g3, ht3⟩ := storeP hgp2 nn hnw (bs xs) (by have := HPN.out; omega)
            have hrun2 : (Instr.mapUpdate 80 (.map (some u.pb)) (.int .i64 nn) (.agg #[.string (bs xs)])).run Tryz.prog W2 = .ok () w3 := hrun
            have hpbF := HF.out u.pb (.inr (.inr (.inr ⟨_, HM.out, rfl⟩)))
            have hr3 : w3.heap[w.heap.size + 1]? = some (.cells zrep 43 (0, 0)) :=
              (ht3.grown.block (w.heap.size + 1) (Array.getElem?_eq_some_iff.1 hrb2).1 (fun e => by have h6 := Option.some.inj e; omega)).trans hrb2
            have hb3 : w3.heap[s]? = some (.cells (stC Mo Mu (partS σ id u nn (bs xs))) 51 (0, 0)) :=
              (ht3.grown.block s (Array.getElem?_eq_some_iff.1 hb2).1 (fun e => M1.out.st.neS.2.2 _ HM.out (Option.some.inj e))).trans hb2
            have hF3 : Frm (fun b => b = s ∨ b = u.pb) W1 w3 := (hF2.imp (fun i e => Or.inl e)).turned (.inl (.inr rfl)) ht3
            have hst3 : StAt w3 s Mo Mu (partS σ id u nn (bs xs)) := M1.out.st.prt' HM.out hF3 hb3 rfl rfl g3
            have HST := Lib.hid hst3
            have HFR := Lib.hid (show Frm (StF s Mo Mu σ) W1 w3 from hF3.imp (fun i e => e.elim (fun g => .inl g) (fun g => .inr (.inr (.inr ⟨_, HM.out, g⟩)))))
            have HRB := Lib.hid hr3
            have HR2 := Lib.hid hrb2
            clear hrun hW2 hF2 hb2 hob2 hcb2 hgp2 hx2 hr3 hb3 hF3 hst3 g3 ht3 hrb2 hpbF k5 k2 o2 hsne
            obtain ⟨⟨q0, q1, q2, q3, q4, q5, q6⟩, r0, r1, r2, r3, r4, r5, r6⟩ := rb_cells HRB.out
            go_wp2_with fail
            clear q0 q1 q2 q3 q4 q5 q6 r0 r1 r2 r3 r4 r5 r6
            obtain ⟨W5, hW5⟩ : ∃ W5, W5 = setR w3 (w.heap.size + 1) (.int .i64 0) (.slice none 0 0) (.int .i64 0) (.int .i64 0) (.int .i64 0) (.slice none 0 0) (.bool false) := ⟨_, rfl⟩
            have hr5 := setR_at0 HRB.out (.int .i64 0) (.slice none 0 0) (.int .i64 0) (.int .i64 0) (.int .i64 0) (.slice none 0 0) (.bool false)
            have hF5 := (Frm.refl (fun b => b = w.heap.size + 1) w3).setR (R := w.heap.size + 1) (.inl rfl) (.int .i64 0) (.slice none 0 0) (.int .i64 0) (.int .i64 0) (.int .i64 0) (.slice none 0 0) (.bool false)
            rw [← hW5] at hr5 hF5
            unfold setR at hW5
            rw [← hW5]
            have Z := end_frm HST.out HFR.out M1.out.bel hF5 (fun b hb => HF.out b (part_blk hb))
            refine bodyPost_ret (ret_rep rfl _ _ (w.heap.size + 1) rfl hr5) rfl ?_
            exact PrtSays.yes HU.out HE0.out Z
end Go.Proofs.YtjafagfhkpaciaaGreat
end PkSP3_8
