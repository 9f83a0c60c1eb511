/- The store's create, walked. Written by genstocre.py. -/
import Derived.Test.YtjafagfhkpaciaaStoAbt
import Derived.Test.YtjafagfhkpaciaaStoKey
namespace Go.Proofs.Ytjafagfhkpaciaa
open Go.RowKit
set_option linter.unusedVariables false

/-- under way: the call's box, the reply's -/
structure Me (w W : World) (s Mo Mu : Nat) (σ : Sto) (cs : Array Value) : Prop where
  st : StAt W s Mo Mu σ
  cb : W.heap[w.heap.size]? = some (.cells cs 29 (0, 0))
  rb : W.heap[w.heap.size + 1]? = some (.cells zrep 35 (0, 0))
  bel : Below w.heap.size w W
theorem Ent.me {w W : World} {s Mo Mu : Nat} {σ : Sto} {cs : Array Value} (h : Ent w W s Mo Mu σ cs) : Me w W s Mo Mu σ cs := ⟨h.st, h.cb, h.rb, h.bel⟩
theorem Me.kept {w W W' : World} {s Mo Mu : Nat} {σ : Sto} {cs : Array Value} (h : Me w W s Mo Mu σ cs) (hb : Below W.heap.size W W') : Me w W' s Mo Mu σ cs :=
  ⟨h.st.below hb, (hb.block _ (Array.getElem?_eq_some_iff.1 h.cb).1).trans h.cb, (hb.block _ (Array.getElem?_eq_some_iff.1 h.rb).1).trans h.rb, h.bel.trans (hb.mono h.bel.size)⟩
theorem Me.done {w W : World} {s Mo Mu : Nat} {σ : Sto} {cs : Array Value} (h : Me w W s Mo Mu σ cs) (hs : s < w.heap.size) (hF : ∀ b, StF s Mo Mu σ b → b < w.heap.size) (x0 x1 x2 x3 x4 x5 x6 : Value) :
    StAt (setR W (w.heap.size + 1) x0 x1 x2 x3 x4 x5 x6) s Mo Mu σ ∧ Below w.heap.size w (setR W (w.heap.size + 1) x0 x1 x2 x3 x4 x5 x6) := by
  have h1 : Frm (fun b => b = w.heap.size + 1) W (setR W (w.heap.size + 1) x0 x1 x2 x3 x4 x5 x6) := (Frm.refl (fun b => b = w.heap.size + 1) W).setR (R := w.heap.size + 1) (.inl rfl) _ _ _ _ _ _ _
  refine ⟨h.st.same fun b hb => h1.block b (h.st.lt hb) (fun e => by have := hF b hb; omega), ?_⟩
  exact ⟨h1.os.trans h.bel.os, h1.tape.trans h.bel.tape, h1.output.trans h.bel.output, Nat.le_trans h.bel.size h1.size, fun i hi => (h1.block i (Nat.lt_of_lt_of_le hi h.bel.size) (by omega)).trans (h.bel.block i hi)⟩
theorem mem_ins {κ α : Type} {lit : κ → Lit} {x p : κ × α} : ∀ {l : List (κ × α)}, p ∈ insK lit x l → p = x ∨ p ∈ l
  | [], h => by unfold insK at h; exact .inl (List.mem_singleton.1 h)
  | y :: r, h => by
    unfold insK at h
    split at h
    · rcases List.mem_cons.1 h with g | g
      · exact .inl g
      · exact .inr g
    · rcases List.mem_cons.1 h with g | g
      · exact .inr (by rw [g]; simp)
      · rcases mem_ins g with e | e
        · exact .inl e
        · exact .inr (List.mem_cons_of_mem _ e)
theorem mem_put {κ α : Type} {lit : κ → Lit} {k : κ} {a : α} {l : List (κ × α)} {p : κ × α} (h : p ∈ putK lit k a l) : p = (k, a) ∨ p ∈ l := by
  rcases mem_ins h with e | e
  · exact .inl e
  · exact .inr (List.mem_filter.1 e).1
def createS (σ : Sto) (k : ByteArray) (pb : Nat) : Sto := { σ with id := σ.id + 1, ups := putK ilit (σ.id + 1) ⟨k, σ.now, pb, []⟩ σ.ups }
def CreSays (w : World) (s Mo Mu : Nat) (σ : Sto) (ky : ByteArray) (e : Ending) (w' : World) : Prop :=
  (isKeyB ky = false → e = .returned (rep0 1) ∧ StAt w' s Mo Mu σ ∧ Below w.heap.size w w') ∧
  (isKeyB ky = true → 512 ≤ σ.ups.length → e = .returned (rep0 9) ∧ StAt w' s Mo Mu σ ∧ Below w.heap.size w w') ∧
  (isKeyB ky = true → σ.ups.length < 512 → ∃ pb, e = .returned (rep 0 (.slice none 0 0) 0 σ.now (σ.id + 1) (.slice none 0 0) false) ∧ w.heap.size ≤ pb ∧ StAt w' s Mo Mu (createS σ ky pb) ∧ Frm (StF s Mo Mu σ) w w')
theorem CreSays.no1 {w w' : World} {s Mo Mu : Nat} {σ : Sto} {ky : ByteArray} (h : isKeyB ky = false) (Z : StAt w' s Mo Mu σ ∧ Below w.heap.size w w') : CreSays w s Mo Mu σ ky (.returned (rep0 1)) w' :=
  ⟨fun _ => ⟨rfl, Z.1, Z.2⟩, fun e => (by rw [h] at e; cases e), fun e => (by rw [h] at e; cases e)⟩
theorem CreSays.no9 {w w' : World} {s Mo Mu : Nat} {σ : Sto} {ky : ByteArray} (h : isKeyB ky = true) (hn : 512 ≤ σ.ups.length) (Z : StAt w' s Mo Mu σ ∧ Below w.heap.size w w') : CreSays w s Mo Mu σ ky (.returned (rep0 9)) w' :=
  ⟨fun e => (by rw [h] at e; cases e), fun _ _ => ⟨rfl, Z.1, Z.2⟩, fun _ e => by omega⟩
theorem CreSays.yes {w w' : World} {s Mo Mu : Nat} {σ : Sto} {ky : ByteArray} {pb : Nat} (h : isKeyB ky = true) (hn : σ.ups.length < 512) (hp : w.heap.size ≤ pb) (Z : StAt w' s Mo Mu (createS σ ky pb) ∧ Frm (StF s Mo Mu σ) w w') : CreSays w s Mo Mu σ ky (.returned (rep 0 (.slice none 0 0) 0 σ.now (σ.id + 1) (.slice none 0 0) false)) w' :=
  ⟨fun e => (by rw [h] at e; cases e), fun _ e => (by omega), fun _ _ => ⟨pb, rfl, hp, Z.1, Z.2⟩⟩
/-- an upload more, its parts' map new -/
theorem StAt.cre {w w' : World} {s Mo Mu : Nat} {σ σ' : Sto} {i : Int} {u : UplS} (h : StAt w s Mo Mu σ) (hF : Frm (fun b => b = s ∨ b = Mu) w w') (hb : w'.heap[s]? = some (.cells (stC Mo Mu σ') 61 (0, 0))) (hu : GM TU ilit uplC w' Mu σ'.ups) (ho : σ'.objs = σ.objs) (hs : σ'.ups = putK ilit i u σ.ups) (hp : GM TP ilit prtC w' u.pb u.parts) (hn : w.heap.size ≤ u.pb) : StAt w' s Mo Mu σ' := by
  have hn2 := h.neS
  have old : ∀ p ∈ σ.ups, p.2.pb < w.heap.size := fun p hp => (h.prt p hp).lt
  have hMo := h.obj.lt
  have hMu := h.upl.lt
  refine ⟨hb, ?_, hu, fun p hp' => ?_, h.neM, fun p hp' => ?_, fun p hp' q hq' e => ?_⟩
  · rw [ho]
    exact h.obj.same (hF.block Mo h.obj.lt (fun e => e.elim (fun g => hn2.1 g.symm) (fun g => h.neM g)))
  · rw [hs] at hp'
    rcases mem_put hp' with rfl | g
    · exact hp
    · exact (h.prt p g).same (hF.block _ (h.prt p g).lt (fun e => e.elim (fun x => hn2.2.2 p g x.symm) (fun x => (h.neP p g).2 x)))
  · rw [hs] at hp'
    rcases mem_put hp' with rfl | g
    · exact ⟨by simp only; omega, by simp only; omega⟩
    · exact h.neP p g
  · rw [hs] at hp' hq'
    rcases mem_put hp' with rfl | g1 <;> rcases mem_put hq' with rfl | g2
    · rfl
    · have := old q g2; simp only at e; omega
    · have := old p g1; simp only at e; omega
    · exact h.apart p g1 q g2 e
theorem cre_blk {s Mo Mu : Nat} {σ : Sto} {k : ByteArray} {pb b : Nat} (h : StF s Mo Mu (createS σ k pb) b) : StF s Mo Mu σ b ∨ b = pb := by
  rcases h with h | h | h | ⟨p, hp, h⟩
  · exact .inl (.inl h)
  · exact .inl (.inr (.inl h))
  · exact .inl (.inr (.inr (.inl h)))
  · rcases mem_put hp with rfl | g
    · exact .inr h
    · exact .inl (.inr (.inr (.inr ⟨p, g, h⟩)))
set_option maxRecDepth 100000 in
set_option maxHeartbeats 4000000 in
theorem create_any {w : World} {s Mo Mu : Nat} {σ : Sto} (h : StAt w s Mo Mu σ) {ki vr at_ nn id : Int} {ky : ByteArray} {a : Option Addr} {n c : Nat} (hid : 0 ≤ σ.id ∧ σ.id ≤ 1099511627776) :
    Calls Try.prog 28 #[.pointer (some ⟨s, 0, none⟩), .agg #[.int .i64 ki, .string ky, .slice a n c, .int .i64 vr, .int .i64 at_, .int .i64 nn, .int .i64 id]] w (CreSays w s Mo Mu σ ky) := by
  have HE := Lib.hid (ent_mk h #[.int .i64 ki, .string ky, .slice a n c, .int .i64 vr, .int .i64 at_, .int .i64 nn, .int .i64 id])
  have HL := Lib.hid h.lts
  have HF := Lib.hid (show ∀ b, StF s Mo Mu σ b → b < w.heap.size from fun b hb => h.lt hb)
  have HS := Lib.hid h
  clear h
  go_enter Try.func28, Try.ntmps28
  go_wp2_with fail
  obtain ⟨W0, hW0⟩ : ∃ W0, W0 = (w.alloc (.cells #[.int .i64 ki, .string ky, .slice a n c, .int .i64 vr, .int .i64 at_, .int .i64 nn, .int .i64 id] 29)).alloc (.cells zrep 35) := ⟨_, rfl⟩
  rw [← hW0] at HE
  unfold zrep at hW0
  rw [← hW0]
  clear hW0
  have hk0 : w.heap.size < W0.heap.size := by have := HE.out.sz; omega
  have hr0 : w.heap.size + 1 < W0.heap.size := by have := HE.out.sz; omega
  have hs0 := HE.out.st.lts
  have ez0 := Lib.hid HE.out.sz
  have M0 := Lib.hid HE.out.me
  have k1 := cell_blk2 M0.out.cb (i := 1) (u := .string ky) rfl
  clear HE hk0 hr0 hs0 ez0
  go_wp2_with fail
  refine (isKey_any _ _).mono ?_
  rintro e W1 ⟨rfl, hb1⟩
  have M1 := Lib.hid (M0.out.kept hb1)
  clear hb1 k1 M0
  cases hkb : isKeyB ky with
  | false =>
    have HE0 := Lib.hid hkb
    clear hkb
    go_wp2_with fail
    refine (failed_any _ _).mono ?_
    rintro e W9 ⟨rfl, hb9⟩
    have M9 := Lib.hid (M1.out.kept hb9)
    clear hb9
    obtain ⟨⟨q0, q1, q2, q3, q4, q5, q6⟩, r0, r1, r2, r3, r4, r5, r6⟩ := rb_cells M9.out.rb
    unfold rep0
    go_wp2_with fail
    clear q0 q1 q2 q3 q4 q5 q6 r0 r1 r2 r3 r4 r5 r6
    obtain ⟨W5, hW5⟩ : ∃ W5, W5 = setR W9 (w.heap.size + 1) (.int .i64 1) (.slice none 0 0) (.int .i64 0) (.int .i64 0) (.int .i64 0) (.slice none 0 0) (.bool false) := ⟨_, rfl⟩
    have hr5 := setR_at0 M9.out.rb (.int .i64 1) (.slice none 0 0) (.int .i64 0) (.int .i64 0) (.int .i64 0) (.slice none 0 0) (.bool false)
    have Z := M9.out.done HL.out (fun b hb => HF.out b hb) (.int .i64 1) (.slice none 0 0) (.int .i64 0) (.int .i64 0) (.int .i64 0) (.slice none 0 0) (.bool false)
    rw [← hW5] at hr5 Z
    unfold setR at hW5
    rw [← hW5]
    refine bodyPost_ret (ret_rep rfl _ _ (w.heap.size + 1) rfl hr5) rfl ?_
    exact CreSays.no1 HE0.out Z

  | true =>
    have HE0 := Lib.hid hkb
    clear hkb
    have c1 := cell_blk2 M1.out.st.blk (i := 1) (u := .map (some Mu)) rfl
    have hmlen := fun ty => lenU M1.out.st.upl ty
    by_cases hfull : 512 ≤ σ.ups.length
    case pos =>
      have y1 : (512 : Int) ≤ (σ.ups.length : Int) := by omega
      have y2 : decide ((512 : Int) ≤ (σ.ups.length : Int)) = true := decide_eq_true y1
      have HFU := Lib.hid hfull
      clear hfull
      go_wp2_with fail
      refine (failed_any _ _).mono ?_
      rintro e W9 ⟨rfl, hb9⟩
      have M9 := Lib.hid (M1.out.kept hb9)
      clear hb9
      obtain ⟨⟨q0, q1, q2, q3, q4, q5, q6⟩, r0, r1, r2, r3, r4, r5, r6⟩ := rb_cells M9.out.rb
      unfold rep0
      go_wp2_with fail
      clear q0 q1 q2 q3 q4 q5 q6 r0 r1 r2 r3 r4 r5 r6
      obtain ⟨W5, hW5⟩ : ∃ W5, W5 = setR W9 (w.heap.size + 1) (.int .i64 9) (.slice none 0 0) (.int .i64 0) (.int .i64 0) (.int .i64 0) (.slice none 0 0) (.bool false) := ⟨_, rfl⟩
      have hr5 := setR_at0 M9.out.rb (.int .i64 9) (.slice none 0 0) (.int .i64 0) (.int .i64 0) (.int .i64 0) (.slice none 0 0) (.bool false)
      have Z := M9.out.done HL.out (fun b hb => HF.out b hb) (.int .i64 9) (.slice none 0 0) (.int .i64 0) (.int .i64 0) (.int .i64 0) (.slice none 0 0) (.bool false)
      rw [← hW5] at hr5 Z
      unfold setR at hW5
      rw [← hW5]
      refine bodyPost_ret (ret_rep rfl _ _ (w.heap.size + 1) rfl hr5) rfl ?_
      exact CreSays.no9 HE0.out HFU.out Z

    case neg =>
      have y1 : ¬ (512 : Int) ≤ (σ.ups.length : Int) := by omega
      have y2 : decide ((512 : Int) ≤ (σ.ups.length : Int)) = false := decide_eq_false y1
      have HFU := Lib.hid (show σ.ups.length < 512 by omega)
      have c3 := cell_blk2 M1.out.st.blk (i := 3) (u := .int .i64 σ.id) rfl
      have f3 := fro_blk2 M1.out.st.blk 3
      have w1 : IntKind.i64.wrap (σ.id + 1) = σ.id + 1 := IntWalk.i64_in _ (by omega)
      clear hfull
      go_wp2_with fail
      clear c1 c3 f3 w1 hmlen y1 y2
      obtain ⟨W2, hW2⟩ : ∃ W2, W2 = W1.setCell ⟨s, 3, none⟩ (.int .i64 (σ.id + 1)) := ⟨_, rfl⟩
      rw [← hW2]
      have hF2 : Frm (fun b => b = s) W1 W2 := by rw [hW2]; exact (Frm.refl (fun b => b = s) W1).set (p := s) (.inl rfl) 3 _
      have hb2 : W2.heap[s]? = some (.cells #[.map (some Mo), .map (some Mu), .int .i64 σ.ver, .int .i64 (σ.id + 1), .int .i64 σ.size, .int .i64 σ.now] 61 (0, 0)) := by
        rw [hW2]
        exact heap_setCell_same W1 s 3 _ _ _ M1.out.st.blk
      have hsne := HL.out
      have hcb2 : W2.heap[w.heap.size]? = some (.cells #[.int .i64 ki, .string ky, .slice a n c, .int .i64 vr, .int .i64 at_, .int .i64 nn, .int .i64 id] 29 (0, 0)) := hF2.at M1.out.cb (by omega)
      have hrb2 : W2.heap[w.heap.size + 1]? = some (.cells zrep 35 (0, 0)) := hF2.at M1.out.rb (by omega)
      have hu2 : GM TU ilit uplC W2 Mu σ.ups := M1.out.st.upl.same (hF2.block Mu M1.out.st.upl.lt (fun e => M1.out.st.neS.2.1 e.symm))
      obtain ⟨B2, hB2⟩ : ∃ B2, B2 = W2.alloc (.map #[] 0) := ⟨_, rfl⟩
      have hbel2 : Below W2.heap.size W2 B2 := by rw [hB2]; exact (Below.refl _ _).alloc (Nat.le_refl _) _
      have hnew : GM TP ilit prtC B2 W2.heap.size [] := by rw [hB2]; exact GM.made _ _ _ _
      obtain ⟨w3, hrun, g3, ht3⟩ := storeU (hu2.below hbel2).drew (σ.id + 1) (wf_small (by omega)) ⟨ky, σ.now, W2.heap.size, []⟩ (by have := HFU.out; omega)
      rw [hB2] at hrun
      have hrun2 : (Instr.mapUpdate 59 (.map (some Mu)) (.int .i64 (σ.id + 1)) (.agg #[.string ky, .int .i64 σ.now, .map (some W2.heap.size)])).run Try.prog (W2.alloc (.map #[] 0)).drew = .ok () w3 := hrun
      have c1 := cell_blk2 hb2 (i := 1) (u := .map (some Mu)) rfl
      have c3 := cell_blk2 hb2 (i := 3) (u := .int .i64 (σ.id + 1)) rfl
      have c5 := cell_blk2 hb2 (i := 5) (u := .int .i64 σ.now) rfl
      have k1 := cell_blk2 hcb2 (i := 1) (u := .string ky) rfl
      have ls : s < W2.heap.size := (Array.getElem?_eq_some_iff.1 hb2).1
      have lc : w.heap.size < W2.heap.size := (Array.getElem?_eq_some_iff.1 hcb2).1
      have HF2 := Lib.hid hF2
      have HB2 := Lib.hid hb2
      have HRB2 := Lib.hid hrb2
      have HU2 := Lib.hid hu2
      have HBE2 := Lib.hid hbel2
      have HNEW := Lib.hid hnew
      have HG3 := Lib.hid g3
      have HT3 := Lib.hid ht3
      clear hrun hW2 hF2 hb2 hcb2 hrb2 hu2 hB2 hbel2 hnew g3 ht3
      have hmk := @run_makeMap Try.prog
      go_region
      clear hmk hrun2 c1 c3 c5 k1 ls lc
      go_wp2_with fail
      have hMu := HU2.out.lt
      have hF3 : Frm (fun b => b = s ∨ b = Mu) w w3 := (((Frm.ofBelow (F := fun b => b = s ∨ b = Mu) M1.out.bel).trans HF2.out (fun i hi => .inl (.inl hi))).below HBE2.out).drew.turned (.inl (.inr rfl)) HT3.out
      have hb3 : w3.heap[s]? = some (.cells (stC Mo Mu (createS σ ky W2.heap.size)) 61 (0, 0)) :=
        (HT3.out.grown.block s (Nat.lt_of_lt_of_le (Array.getElem?_eq_some_iff.1 HB2.out).1 HBE2.out.size) (fun e => M1.out.st.neS.2.1 (Option.some.inj e))).trans ((HBE2.out.block s (Array.getElem?_eq_some_iff.1 HB2.out).1).trans HB2.out)
      have hr3 : w3.heap[w.heap.size + 1]? = some (.cells zrep 35 (0, 0)) :=
        (HT3.out.grown.block (w.heap.size + 1) (Nat.lt_of_lt_of_le (Array.getElem?_eq_some_iff.1 HRB2.out).1 HBE2.out.size) (fun e => by have h5 := HF.out Mu (.inr (.inr (.inl rfl))); have h6 := Option.some.inj e; omega)).trans ((HBE2.out.block _ (Array.getElem?_eq_some_iff.1 HRB2.out).1).trans HRB2.out)
      have hp3 : GM TP ilit prtC w3 W2.heap.size [] := HNEW.out.same (HT3.out.grown.block W2.heap.size HNEW.out.lt (fun e => by have h6 := Option.some.inj e; omega))
      have hst3 : StAt w3 s Mo Mu (createS σ ky W2.heap.size) := HS.out.cre (i := σ.id + 1) (u := ⟨ky, σ.now, W2.heap.size, []⟩) hF3 hb3 HG3.out rfl rfl hp3 (Nat.le_trans M1.out.bel.size HF2.out.size)
      have hfr3 : Frm (StF s Mo Mu σ) w w3 := hF3.imp (fun i e => e.elim (fun g => .inl g) (fun g => .inr (.inr (.inl g))))
      have c3 := cell_blk2 hb3 (i := 3) (u := .int .i64 (σ.id + 1)) rfl
      have c5 := cell_blk2 hb3 (i := 5) (u := .int .i64 σ.now) rfl
      have HLW := Lib.hid (show w.heap.size + 1 < W2.heap.size from (Array.getElem?_eq_some_iff.1 HRB2.out).1)
      have HPB := Lib.hid (show w.heap.size ≤ W2.heap.size from Nat.le_trans M1.out.bel.size HF2.out.size)
      have HST := Lib.hid hst3
      have HFR := Lib.hid hfr3
      have HRB := Lib.hid hr3
      obtain ⟨⟨q0, q1, q2, q3, q4, q5, q6⟩, r0, r1, r2, r3, r4, r5, r6⟩ := rb_cells hr3
      clear hMu hF3 hb3 hr3 hp3 hst3 hfr3
      go_region
      go_wp2_with fail
      clear q0 q1 q2 q3 q4 q5 q6 r0 r1 r2 r3 r4 r5 r6 c3 c5
      obtain ⟨W5, hW5⟩ : ∃ W5, W5 = setR w3 (w.heap.size + 1) (.int .i64 0) (.slice none 0 0) (.int .i64 0) (.int .i64 σ.now) (.int .i64 (σ.id + 1)) (.slice none 0 0) (.bool false) := ⟨_, rfl⟩
      have hr5 := setR_at0 HRB.out (.int .i64 0) (.slice none 0 0) (.int .i64 0) (.int .i64 σ.now) (.int .i64 (σ.id + 1)) (.slice none 0 0) (.bool false)
      have hF5 := (Frm.refl (fun b => b = w.heap.size + 1) w3).setR (R := w.heap.size + 1) (.inl rfl) (.int .i64 0) (.slice none 0 0) (.int .i64 0) (.int .i64 σ.now) (.int .i64 (σ.id + 1)) (.slice none 0 0) (.bool false)
      rw [← hW5] at hr5 hF5
      unfold setR at hW5
      rw [← hW5]
      refine bodyPost_ret (ret_rep rfl _ _ (w.heap.size + 1) rfl (show W5.drew.heap[w.heap.size + 1]? = _ from hr5)) rfl ?_
      refine CreSays.yes HE0.out HFU.out HPB.out ⟨HST.out.same fun b hb => hF5.block b (HST.out.lt hb) (fun e => ?_), (HFR.out.trans hF5.drew (fun i hi => .inr (by omega)))⟩
      rcases cre_blk hb with g | g
      · have := HF.out b g; omega
      · have := HLW.out; omega
end Go.Proofs.Ytjafagfhkpaciaa
