/- The store's part, walked. Written by genstoprt.py. -/
import Derived.Test.YtjafagfhkpaciaaStoCre
import Derived.Test.YtjafagfhkpaciaaStoBytes
namespace Go.Proofs.Ytjafagfhkpaciaa
open Go.RowKit
set_option linter.unusedVariables false

def oldP (u : UplS) (n : Int) : Nat := match getK ilit n u.parts with | some d => d.size | none => 0
def setParts (i : Int) (ps : List (Int × ByteArray)) (l : List (Int × UplS)) : List (Int × UplS) := l.map fun p => if p.1 = i then (p.1, { p.2 with parts := ps }) else p
def partS (σ : Sto) (i : Int) (u : UplS) (n : Int) (d : ByteArray) : Sto := { σ with size := σ.size + ((d.size : Int) - (oldP u n : Int)), ups := setParts i (putK ilit n d u.parts) σ.ups }
theorem enc_setParts (i : Int) (ps : List (Int × ByteArray)) (l : List (Int × UplS)) : encK ilit uplC (setParts i ps l) = encK ilit uplC l := by
  unfold encK setParts
  rw [List.map_map]
  apply List.map_congr_left
  intro p _
  simp only [Function.comp]
  split <;> rfl
theorem gm_enc {κ α : Type} {T : MTy} {lit : κ → Lit} {f : α → Value} {w : World} {M : Nat} {l l' : List (κ × α)} (h : GM T lit f w M l) (e : encK lit f l' = encK lit f l) : GM T lit f w M l' := by
  have e2 : l'.length = l.length := by
    have := congrArg List.length e
    unfold encK at this
    simpa using this
  unfold GM at h ⊢
  rw [e, e2]
  exact h
theorem mem_setParts {i : Int} {ps : List (Int × ByteArray)} {l : List (Int × UplS)} {p : Int × UplS} (h : p ∈ setParts i ps l) : ∃ q ∈ l, p.1 = q.1 ∧ p.2.pb = q.2.pb ∧ p.2.key = q.2.key ∧ p.2.born = q.2.born ∧ ((q.1 = i ∧ p.2.parts = ps) ∨ (q.1 ≠ i ∧ p.2.parts = q.2.parts)) := by
  unfold setParts at h
  obtain ⟨q, hq, rfl⟩ := List.mem_map.1 h
  refine ⟨q, hq, ?_⟩
  split
  · rename_i e; exact ⟨rfl, rfl, rfl, rfl, .inl ⟨e, rfl⟩⟩
  · rename_i e; exact ⟨rfl, rfl, rfl, rfl, .inr ⟨e, rfl⟩⟩
theorem apart_same {κ α : Type} {lit : κ → Lit} : ∀ {l : List (κ × α)}, l.Pairwise (fun p q => lit p.1 ≠ lit q.1) → ∀ {p q : κ × α}, p ∈ l → q ∈ l → p ≠ q → lit p.1 = lit q.1 → False
  | [], _, _, _, hp, _, _, _ => by cases hp
  | a :: r, h, p, q, hp, hq, hne, e => by
    obtain ⟨h1, h2⟩ := List.pairwise_cons.1 h
    rcases List.mem_cons.1 hp with rfl | hp'
    · rcases List.mem_cons.1 hq with rfl | hq'
      · exact hne rfl
      · exact h1 q hq' e
    · rcases List.mem_cons.1 hq with rfl | hq'
      · exact h1 p hp' e.symm
      · exact apart_same h2 hp' hq' hne e
/-- the parts of one upload turned -/
theorem StAt.prt' {w w' : World} {s Mo Mu : Nat} {σ σ' : Sto} {i : Int} {u : UplS} {ps : List (Int × ByteArray)} (h : StAt w s Mo Mu σ) (hm : (i, u) ∈ σ.ups) (hF : Frm (fun b => b = s ∨ b = u.pb) w w') (hb : w'.heap[s]? = some (.cells (stC Mo Mu σ') 61 (0, 0))) (ho : σ'.objs = σ.objs) (hs : σ'.ups = setParts i ps σ.ups) (hp : GM TP ilit prtC w' u.pb ps) : StAt w' s Mo Mu σ' := by
  have hn := h.neS
  have hpb := h.neP _ hm
  simp only at hpb
  refine ⟨hb, ?_, ?_, fun p hp' => ?_, h.neM, fun p hp' => ?_, fun p hp' q hq' e => ?_⟩
  · rw [ho]
    exact h.obj.same (hF.block Mo h.obj.lt (fun e => e.elim (fun g => hn.1 g.symm) (fun g => hpb.1 g.symm)))
  · rw [hs]
    exact gm_enc (h.upl.same (hF.block Mu h.upl.lt (fun e => e.elim (fun g => hn.2.1 g.symm) (fun g => hpb.2 g.symm)))) (enc_setParts _ _ _)
  · rw [hs] at hp'
    obtain ⟨q, hq, h1, h2, _, _, h3⟩ := mem_setParts hp'
    rcases h3 with ⟨g, h4⟩ | ⟨g, h4⟩
    · have : q.2.pb = u.pb := by
        have hu := h.upl.apart
        have : q = (i, u) := by
          rcases Classical.em (q = (i, u)) with e | e
          · exact e
          · exfalso
            exact apart_same hu hq hm e (by simp only; rw [g])
        rw [this]
      rw [h2, h4, this]
      exact hp
    · rw [h2, h4]
      refine (h.prt q hq).same (hF.block _ (h.prt q hq).lt (fun e => e.elim (fun x => hn.2.2 q hq x.symm) (fun x => ?_)))
      exact g (h.apart q hq _ hm x)
  · rw [hs] at hp'
    obtain ⟨q, hq, h1, h2, _⟩ := mem_setParts hp'
    rw [h2]
    exact h.neP q hq
  · rw [hs] at hp' hq'
    obtain ⟨p1, hp1, h1, h2, _⟩ := mem_setParts hp'
    obtain ⟨q1, hq1, h3, h4, _⟩ := mem_setParts hq'
    rw [h1, h3]
    exact h.apart p1 hp1 q1 hq1 (by rw [← h2, ← h4]; exact e)
theorem bytes_frm {F : Nat → Prop} {w w' : World} {a : Option Addr} {n c : Nat} {xs : List Nat} (h : BytesAt w a n c xs) (hF : Frm F w w') (hne : ∀ b off, a = some ⟨b, off, none⟩ → 0 < n → ¬ F b) : BytesAt w' a n c xs := by
  refine ⟨h.len, h.cap, h.byte, h.reach, h.capm, h.nl, fun hn => ?_⟩
  obtain ⟨b, off, ha, hlt, hc⟩ := h.cells hn
  exact ⟨b, off, ha, Nat.lt_of_lt_of_le hlt hF.size, fun i hi => (cell_of_heap (hF.block b hlt (hne b off ha hn))).trans (hc i hi)⟩
theorem bytes_not {w : World} {s Mo Mu : Nat} {σ : Sto} (h : StAt w s Mo Mu σ) {a : Option Addr} {n c : Nat} {xs : List Nat} (hx : BytesAt w a n c xs) : ∀ b off, a = some ⟨b, off, none⟩ → 0 < n → ¬ StF s Mo Mu σ b := by
  intro b off ha hn hF
  obtain ⟨b', off', ha', _, hc⟩ := hx.cells hn
  rw [ha] at ha'
  cases ha'
  have h0 := hc 0 hn
  rw [Nat.add_zero] at h0
  have hmap : ∀ {M : Nat}, (∃ es cl, w.heap[M]? = some (.map es cl)) → b = M → False := by
    rintro M ⟨es, cl, hb⟩ rfl
    unfold World.cell? at h0
    simp [hb] at h0
  rcases hF with e | e | e | ⟨p, hp, e⟩
  · subst e
    rw [cell_of_row w b off _ _ (0, 0) h.blk] at h0
    unfold stC at h0
    rcases (by omega : off = 0 ∨ off = 1 ∨ off = 2 ∨ off = 3 ∨ off = 4 ∨ off = 5 ∨ 6 ≤ off) with rfl | rfl | rfl | rfl | rfl | rfl | g
    · simp at h0
    · simp at h0
    · simp at h0
    · simp at h0
    · simp at h0
    · simp at h0
    · rw [Array.getElem?_eq_none (by simpa using g)] at h0; cases h0
  · exact hmap (gm_obj h.obj) e
  · exact hmap (gm_obj h.upl) e
  · exact hmap (gm_obj (h.prt p hp)) e
/-- why a part isn't taken -/
def partE (σ : Sto) (i nn : Int) (n : Nat) : Int :=
  match upOf σ i with
  | none => 7
  | some u => if nn < 1 ∨ 32 < nn then 1 else if 262144 < n then 5 else if 4194304 < σ.size + ((n : Int) - (oldP u nn : Int)) then 9 else 0
def PrtSays (w : World) (s Mo Mu : Nat) (σ : Sto) (i nn : Int) (n : Nat) (d : ByteArray) (e : Ending) (w' : World) : Prop :=
  (partE σ i nn n ≠ 0 → e = .returned (rep0 (partE σ i nn n)) ∧ StAt w' s Mo Mu σ ∧ Below w.heap.size w w') ∧
  (partE σ i nn n = 0 → ∃ u, upOf σ i = some u ∧ e = .returned (rep0 0) ∧ StAt w' s Mo Mu (partS σ i u nn d) ∧ Frm (StF s Mo Mu σ) w w')
theorem PrtSays.no {w w' : World} {s Mo Mu : Nat} {σ : Sto} {i nn x : Int} {n : Nat} {d : ByteArray} (h : partE σ i nn n = x) (hx : x ≠ 0) (Z : StAt w' s Mo Mu σ ∧ Below w.heap.size w w') : PrtSays w s Mo Mu σ i nn n d (.returned (rep0 x)) w' := by
  subst h
  exact ⟨fun _ => ⟨rfl, Z.1, Z.2⟩, fun e => absurd e hx⟩
theorem PrtSays.yes {w w' : World} {s Mo Mu : Nat} {σ : Sto} {i nn : Int} {n : Nat} {d : ByteArray} {u : UplS} (hu : upOf σ i = some u) (h : partE σ i nn n = 0) (Z : StAt w' s Mo Mu (partS σ i u nn d) ∧ Frm (StF s Mo Mu σ) w w') : PrtSays w s Mo Mu σ i nn n d (.returned (rep0 0)) w' :=
  ⟨fun e => absurd h e, fun _ => ⟨u, hu, rfl, Z.1, Z.2⟩⟩
theorem part_blk {s Mo Mu : Nat} {σ : Sto} {i nn : Int} {u : UplS} {d : ByteArray} {b : Nat} (h : StF s Mo Mu (partS σ i u nn d) b) : StF s Mo Mu σ b := by
  rcases h with h | h | h | ⟨p, hp, h⟩
  · exact .inl h
  · exact .inr (.inl h)
  · exact .inr (.inr (.inl h))
  · obtain ⟨q, hq, _, h2, _⟩ := mem_setParts hp
    exact .inr (.inr (.inr ⟨q, hq, by rw [h, h2]⟩))
theorem field_prt (u : UplS) (n : Int) : ∃ s, (getK ilit n u.parts).elim prtZ prtC = .agg #[.string s] ∧ s.size = oldP u n := by
  unfold oldP
  cases getK ilit n u.parts with
  | none => exact ⟨_, rfl, rfl⟩
  | some o => exact ⟨_, rfl, rfl⟩
theorem upl_eq {σ : Sto} {i ub : Int} {us : ByteArray} {up : Option Nat} {u : UplS} (h : (getK ilit i σ.ups).elim uplZ uplC = .agg #[.string us, .int .i64 ub, .map up]) (hu : upOf σ i = some u) : us = u.key ∧ ub = u.born ∧ up = some u.pb := by
  have hu2 : getK ilit i σ.ups = some u := hu
  rw [hu2] at h
  simp only [Option.elim, uplC, Value.agg.injEq, Array.mk.injEq, List.cons.injEq, Value.string.injEq, Value.int.injEq, Value.map.injEq, true_and, and_true] at h
  exact ⟨h.1.symm, h.2.1.symm, h.2.2.symm⟩
set_option maxRecDepth 100000 in
set_option maxHeartbeats 4000000 in
theorem part_any {w : World} {s Mo Mu : Nat} {σ : Sto} (h : StAt w s Mo Mu σ) {ki vr at_ nn id : Int} {ky : ByteArray} {a : Option Addr} {n c : Nat} {xs : List Nat} (hx : BytesAt w a n c xs) (hid : (Lit.int .i64 id).wf = true) (hok : OkU σ) (hz : 0 ≤ σ.size ∧ σ.size ≤ 4194304) :
    Calls Try.prog 29 #[.pointer (some ⟨s, 0, none⟩), .agg #[.int .i64 ki, .string ky, .slice a n c, .int .i64 vr, .int .i64 at_, .int .i64 nn, .int .i64 id]] w (PrtSays w s Mo Mu σ id nn n (bs xs)) := by
  have HE := Lib.hid (ent_mk h #[.int .i64 ki, .string ky, .slice a n c, .int .i64 vr, .int .i64 at_, .int .i64 nn, .int .i64 id])
  have HL := Lib.hid h.lts
  have HF := Lib.hid (show ∀ b, StF s Mo Mu σ b → b < w.heap.size from fun b hb => h.lt hb)
  have HS := Lib.hid h
  have HX := Lib.hid hx
  have hcap := hx.cap
  have hcm := hx.capm
  have HXL := Lib.hid hx.len
  clear h hx
  go_enter Try.func29, Try.ntmps29
  go_wp2_with fail
  obtain ⟨W0, hW0⟩ : ∃ W0, W0 = (w.alloc (.cells #[.int .i64 ki, .string ky, .slice a n c, .int .i64 vr, .int .i64 at_, .int .i64 nn, .int .i64 id] 29)).alloc (.cells zrep 35) := ⟨_, rfl⟩
  rw [← hW0] at HE
  unfold zrep at hW0
  rw [← hW0]
  clear hW0
  have hk0 : w.heap.size < W0.heap.size := by have := HE.out.sz; omega
  have hr0 : w.heap.size + 1 < W0.heap.size := by have := HE.out.sz; omega
  have hs0 := HE.out.st.lts
  have ez0 := Lib.hid HE.out.sz
  obtain ⟨us, ub, up, hus⟩ := field_upl σ id
  obtain ⟨oi, hoi⟩ : ∃ oi, oi = (getK ilit id σ.ups).isSome := ⟨_, rfl⟩
  have HUS := Lib.hid hus
  have HLA := Lib.hid (show ∀ w9, Below W0.heap.size W0 w9 → (Instr.lookup 59 (.map (some Mu)) (.int .i64 id) true).run Try.prog w9 = .ok (.tuple #[.agg #[.string us, .int .i64 ub, .map up], .bool oi]) w9 from fun w9 h9 => by
    have h8 := lookU2 (HE.out.st.upl.below h9) id hid
    rw [hus, ← hoi] at h8
    exact h8)
  have HOI := Lib.hid hoi
  clear hus hoi
  refine wp_region_inv (by kernel_rfl) (by kernel_rfl) (by kernel_rfl) (OB W0 (.cells #[.string { data := #[] }, .int .i64 0, .map none] 68) (.cells #[.string us, .int .i64 ub, .map up] 68) (fun j_9 => match j_9 with | 0 => some (.pointer (some ⟨s, 0, none⟩)) | 1 => some (.pointer (some ⟨s, 0, none⟩)) | 2 => some (.pointer (some ⟨s, 1, none⟩)) | 3 => some (.map (some Mu)) | 4 => some (.pointer (some ⟨w.heap.size, 6, none⟩)) | 5 => some (.int .i64 id) | 6 => some (.tuple #[.agg #[.string us, .int .i64 ub, .map up], .bool oi]) | 7 => some (.tuple #[.agg #[.string us, .int .i64 ub, .map up], .bool oi]) | 8 => some (.agg #[.string us, .int .i64 ub, .map up]) | 9 => some (.bool oi) | 10 => some (.pointer (some ⟨W0.heap.size, 0, none⟩)) | 11 => none | 12 => some (.bool oi) | _ => none) 10 11) (fun V => OB.start V) ?_ ?_
  · intro j9 o ho L9 V w9 K hI hL hdep hK
    have HI9 := Lib.hid hI
    have hJ := hI.below
    simp only [fill, slotOf, List.size_toArray, List.length_cons, List.length_nil, Nat.reduceAdd, List.getElem?_toArray, List.getElem?_cons_zero, List.getElem?_cons_succ, Option.bind_some, Act.put, List.setIfInBounds_toArray, List.set_cons_zero, List.set_cons_succ] at hK ⊢
    have hin : j9 < 13 := (Array.getElem?_eq_some_iff.1 ho).1
    have hcs : j9 = 0 ∨ j9 = 1 ∨ j9 = 2 ∨ j9 = 3 ∨ j9 = 4 ∨ j9 = 5 ∨ j9 = 6 ∨ j9 = 7 ∨ j9 = 8 ∨ j9 = 9 ∨ j9 = 10 ∨ j9 = 11 ∨ j9 = 12 := by omega
    clear hin
    rcases hcs with rfl | rfl | rfl | rfl | rfl | rfl | rfl | rfl | rfl | rfl | rfl | rfl | rfl
    · obtain rfl := Option.some.inj ho.symm
      clear hdep ho hI hL hJ
      try simp only [fill, slotOf, List.size_toArray, List.length_cons, List.length_nil, Nat.reduceAdd, List.getElem?_toArray, List.getElem?_cons_zero, List.getElem?_cons_succ, Option.bind_some, Act.put, List.setIfInBounds_toArray, List.set_cons_zero, List.set_cons_succ] at hK ⊢
      go_simp
      exact hK (.pointer (some ⟨s, 0, none⟩)) _ (HI9.out.put 0 _ (by decide) (fun v h => Option.some.inj h)) _ rfl
    · obtain rfl := Option.some.inj ho.symm
      have d0 : V 0 = .pointer (some ⟨s, 0, none⟩) := hI.val 0 _ (hdep ⟨0, .data⟩ (by simp) rfl) rfl
      clear hdep ho hI hL hJ
      try simp only [fill, slotOf, List.size_toArray, List.length_cons, List.length_nil, Nat.reduceAdd, List.getElem?_toArray, List.getElem?_cons_zero, List.getElem?_cons_succ, Option.bind_some, Act.put, List.setIfInBounds_toArray, List.set_cons_zero, List.set_cons_succ] at hK ⊢
      rw [d0] at hK ⊢
      go_simp
      exact hK (.pointer (some ⟨s, 0, none⟩)) _ (HI9.out.put 1 _ (by decide) (fun v h => Option.some.inj h)) _ rfl
    · obtain rfl := Option.some.inj ho.symm
      have d1 : V 1 = .pointer (some ⟨s, 0, none⟩) := hI.val 1 _ (hdep ⟨1, .data⟩ (by simp) rfl) rfl
      clear hdep ho hI hL hJ
      try simp only [fill, slotOf, List.size_toArray, List.length_cons, List.length_nil, Nat.reduceAdd, List.getElem?_toArray, List.getElem?_cons_zero, List.getElem?_cons_succ, Option.bind_some, Act.put, List.setIfInBounds_toArray, List.set_cons_zero, List.set_cons_succ] at hK ⊢
      rw [d1] at hK ⊢
      go_simp
      exact hK (.pointer (some ⟨s, 1, none⟩)) _ (HI9.out.put 2 _ (by decide) (fun v h => Option.some.inj h)) _ rfl
    · obtain rfl := Option.some.inj ho.symm
      have d2 : V 2 = .pointer (some ⟨s, 1, none⟩) := hI.val 2 _ (hdep ⟨2, .data⟩ (by simp) rfl) rfl
      have g9 := cell_blk2 ((hJ.block s hs0).trans HE.out.st.blk) (i := 1) (u := .map (some Mu)) rfl
      clear hdep ho hI hL hJ
      try simp only [fill, slotOf, List.size_toArray, List.length_cons, List.length_nil, Nat.reduceAdd, List.getElem?_toArray, List.getElem?_cons_zero, List.getElem?_cons_succ, Option.bind_some, Act.put, List.setIfInBounds_toArray, List.set_cons_zero, List.set_cons_succ] at hK ⊢
      rw [d2] at hK ⊢
      go_simp
      exact hK (.map (some Mu)) _ (HI9.out.put 3 _ (by decide) (fun v h => Option.some.inj h)) _ rfl
    · obtain rfl := Option.some.inj ho.symm
      clear hdep ho hI hL hJ
      try simp only [fill, slotOf, List.size_toArray, List.length_cons, List.length_nil, Nat.reduceAdd, List.getElem?_toArray, List.getElem?_cons_zero, List.getElem?_cons_succ, Option.bind_some, Act.put, List.setIfInBounds_toArray, List.set_cons_zero, List.set_cons_succ] at hK ⊢
      go_simp
      exact hK (.pointer (some ⟨w.heap.size, 6, none⟩)) _ (HI9.out.put 4 _ (by decide) (fun v h => Option.some.inj h)) _ rfl
    · obtain rfl := Option.some.inj ho.symm
      have d4 : V 4 = .pointer (some ⟨w.heap.size, 6, none⟩) := hI.val 4 _ (hdep ⟨4, .data⟩ (by simp) rfl) rfl
      have g9 := cell_blk2 ((hJ.block w.heap.size hk0).trans HE.out.cb) (i := 6) (u := .int .i64 id) rfl
      clear hdep ho hI hL hJ
      try simp only [fill, slotOf, List.size_toArray, List.length_cons, List.length_nil, Nat.reduceAdd, List.getElem?_toArray, List.getElem?_cons_zero, List.getElem?_cons_succ, Option.bind_some, Act.put, List.setIfInBounds_toArray, List.set_cons_zero, List.set_cons_succ] at hK ⊢
      rw [d4] at hK ⊢
      go_simp
      exact hK (.int .i64 id) _ (HI9.out.put 5 _ (by decide) (fun v h => Option.some.inj h)) _ rfl
    · obtain rfl := Option.some.inj ho.symm
      have d3 : V 3 = .map (some Mu) := hI.val 3 _ (hdep ⟨3, .data⟩ (by simp) rfl) rfl
      have d5 : V 5 = .int .i64 id := hI.val 5 _ (hdep ⟨5, .data⟩ (by simp) rfl) rfl
      have g9 := HLA.out w9 hJ
      clear hdep ho hI hL hJ
      try simp only [fill, slotOf, List.size_toArray, List.length_cons, List.length_nil, Nat.reduceAdd, List.getElem?_toArray, List.getElem?_cons_zero, List.getElem?_cons_succ, Option.bind_some, Act.put, List.setIfInBounds_toArray, List.set_cons_zero, List.set_cons_succ] at hK ⊢
      rw [d3, d5] at hK ⊢
      go_simp
      exact hK (.tuple #[.agg #[.string us, .int .i64 ub, .map up], .bool oi]) _ (HI9.out.put 6 _ (by decide) (fun v h => Option.some.inj h)) _ rfl
    · obtain rfl := Option.some.inj ho.symm
      have d6 : V 6 = .tuple #[.agg #[.string us, .int .i64 ub, .map up], .bool oi] := hI.val 6 _ (hdep ⟨6, .data⟩ (by simp) rfl) rfl
      clear hdep ho hI hL hJ
      try simp only [fill, slotOf, List.size_toArray, List.length_cons, List.length_nil, Nat.reduceAdd, List.getElem?_toArray, List.getElem?_cons_zero, List.getElem?_cons_succ, Option.bind_some, Act.put, List.setIfInBounds_toArray, List.set_cons_zero, List.set_cons_succ] at hK ⊢
      rw [d6] at hK ⊢
      go_simp
      exact hK (.tuple #[.agg #[.string us, .int .i64 ub, .map up], .bool oi]) _ (HI9.out.put 7 _ (by decide) (fun v h => Option.some.inj h)) _ rfl
    · obtain rfl := Option.some.inj ho.symm
      have d7 : V 7 = .tuple #[.agg #[.string us, .int .i64 ub, .map up], .bool oi] := hI.val 7 _ (hdep ⟨7, .data⟩ (by simp) rfl) rfl
      clear hdep ho hI hL hJ
      try simp only [fill, slotOf, List.size_toArray, List.length_cons, List.length_nil, Nat.reduceAdd, List.getElem?_toArray, List.getElem?_cons_zero, List.getElem?_cons_succ, Option.bind_some, Act.put, List.setIfInBounds_toArray, List.set_cons_zero, List.set_cons_succ] at hK ⊢
      rw [d7] at hK ⊢
      go_simp
      exact hK (.agg #[.string us, .int .i64 ub, .map up]) _ (HI9.out.put 8 _ (by decide) (fun v h => Option.some.inj h)) _ rfl
    · obtain rfl := Option.some.inj ho.symm
      have d7 : V 7 = .tuple #[.agg #[.string us, .int .i64 ub, .map up], .bool oi] := hI.val 7 _ (hdep ⟨7, .data⟩ (by simp) rfl) rfl
      clear hdep ho hI hL hJ
      try simp only [fill, slotOf, List.size_toArray, List.length_cons, List.length_nil, Nat.reduceAdd, List.getElem?_toArray, List.getElem?_cons_zero, List.getElem?_cons_succ, Option.bind_some, Act.put, List.setIfInBounds_toArray, List.set_cons_zero, List.set_cons_succ] at hK ⊢
      rw [d7] at hK ⊢
      go_simp
      exact hK (.bool oi) _ (HI9.out.put 9 _ (by decide) (fun v h => Option.some.inj h)) _ rfl
    · obtain rfl := Option.some.inj ho.symm
      have HL9 := Lib.hid hL
      have e9 := hI.sa hL
      clear hdep ho hI hL hJ
      subst e9
      try simp only [fill, slotOf, List.size_toArray, List.length_cons, List.length_nil, Nat.reduceAdd, List.getElem?_toArray, List.getElem?_cons_zero, List.getElem?_cons_succ, Option.bind_some, Act.put, List.setIfInBounds_toArray, List.set_cons_zero, List.set_cons_succ] at hK ⊢
      go_simp
      exact hK (.pointer (some ⟨W0.heap.size, 0, none⟩)) _ (HI9.out.puta (by decide) HL9.out _ (fun v h => Option.some.inj h)) _ rfl
    · obtain rfl := Option.some.inj ho.symm
      have d10 : V 10 = .pointer (some ⟨W0.heap.size, 0, none⟩) := hI.val 10 _ (hdep ⟨10, .data⟩ (by simp) rfl) rfl
      have d8 : V 8 = .agg #[.string us, .int .i64 ub, .map up] := hI.val 8 _ (hdep ⟨8, .data⟩ (by simp) rfl) rfl
      have la : L9 10 = true := hdep ⟨10, .data⟩ (by simp) rfl
      have HLA := Lib.hid la
      have e9 := hI.sb la hL
      clear hdep ho hI hL hJ la
      subst e9
      try simp only [fill, slotOf, List.size_toArray, List.length_cons, List.length_nil, Nat.reduceAdd, List.getElem?_toArray, List.getElem?_cons_zero, List.getElem?_cons_succ, Option.bind_some, Act.put, List.setIfInBounds_toArray, List.set_cons_zero, List.set_cons_succ] at hK ⊢
      rw [d10, d8] at hK ⊢
      go_simp
      exact hK undef _ (HI9.out.puts HLA.out _ (fun v h => by cases h)) _ rfl
    · obtain rfl := Option.some.inj ho.symm
      have d9 : V 9 = .bool oi := hI.val 9 _ (hdep ⟨9, .data⟩ (by simp) rfl) rfl
      clear hdep ho hI hL hJ
      try simp only [fill, slotOf, List.size_toArray, List.length_cons, List.length_nil, Nat.reduceAdd, List.getElem?_toArray, List.getElem?_cons_zero, List.getElem?_cons_succ, Option.bind_some, Act.put, List.setIfInBounds_toArray, List.set_cons_zero, List.set_cons_succ] at hK ⊢
      rw [d9] at hK ⊢
      go_simp
      exact hK (.bool oi) _ (HI9.out.put 12 _ (by decide) (fun v h => Option.some.inj h)) _ rfl
  · intro L9 V w9 hI hall
    have k10 : V 10 = .pointer (some ⟨W0.heap.size, 0, none⟩) := hI.val 10 _ (hall 10 (by decide)) rfl
    have k12 : V 12 = .bool oi := hI.val 12 _ (hall 12 (by decide)) rfl
    have e9 := hI.sc (hall 11 (by decide))
    clear hI hall
    subst e9
    simp only [fill, slotOf, List.size_toArray, List.length_cons, List.length_nil, Nat.reduceAdd, List.getElem?_toArray, List.getElem?_cons_zero, List.getElem?_cons_succ, Option.bind_some, Act.put, List.setIfInBounds_toArray, List.set_cons_zero, List.set_cons_succ]
    rw [k10, k12]
    clear k10 k12
    obtain ⟨W1, hW1⟩ : ∃ W1, W1 = (W0.alloc (.cells #[.string us, .int .i64 ub, .map up] 68)).drew := ⟨_, rfl⟩
    have M1 := Lib.hid (md_mk HE.out #[.string us, .int .i64 ub, .map up] 68)
    rw [← hW1] at M1
    rw [← hW1]
    rw [ez0.out]
    clear hW1 HE hk0 hr0 hs0 ez0 HLA
    cases oi with
    | false =>
      have HE0 := Lib.hid (show partE σ id nn n = 7 from by
        have h1 := HOI.out
        unfold partE upOf
        cases hg : getK ilit id σ.ups with
        | none => rfl
        | some x => rw [hg] at h1; cases h1)
      go_wp2_with fail
      refine (failed_any _ _).mono ?_
      rintro e W9 ⟨rfl, hb9⟩
      have M9 := Lib.hid (M1.out.kept hb9)
      clear hb9
      obtain ⟨⟨q0, q1, q2, q3, q4, q5, q6⟩, r0, r1, r2, r3, r4, r5, r6⟩ := rb_cells M9.out.rb
      unfold rep0
      go_wp2_with fail
      clear q0 q1 q2 q3 q4 q5 q6 r0 r1 r2 r3 r4 r5 r6
      obtain ⟨W5, hW5⟩ : ∃ W5, W5 = setR W9 (w.heap.size + 1) (.int .i64 7) (.slice none 0 0) (.int .i64 0) (.int .i64 0) (.int .i64 0) (.slice none 0 0) (.bool false) := ⟨_, rfl⟩
      have hr5 := setR_at0 M9.out.rb (.int .i64 7) (.slice none 0 0) (.int .i64 0) (.int .i64 0) (.int .i64 0) (.slice none 0 0) (.bool false)
      have Z := M9.out.done HL.out (fun b hb => HF.out b hb) (.int .i64 7) (.slice none 0 0) (.int .i64 0) (.int .i64 0) (.int .i64 0) (.slice none 0 0) (.bool false)
      rw [← hW5] at hr5 Z
      unfold setR at hW5
      rw [← hW5]
      refine bodyPost_ret (ret_rep rfl _ _ (w.heap.size + 1) rfl hr5) rfl ?_
      exact PrtSays.no HE0.out (by decide) Z

    | true =>
      obtain ⟨u, hu⟩ : ∃ u, upOf σ id = some u := by
        have h1 := HOI.out
        unfold upOf
        cases hg : getK ilit id σ.ups with
        | none => rw [hg] at h1; cases h1
        | some x => exact ⟨x, rfl⟩
      have hm := get_mem ilit_inj hu
      obtain ⟨rfl, rfl, rfl⟩ := upl_eq HUS.out hu
      have HU := Lib.hid hu
      have HM := Lib.hid hm
      have HPN := Lib.hid (hok.num _ hm)
      clear hu hm HUS
      have k5 := cell_blk2 M1.out.cb (i := 5) (u := .int .i64 nn) rfl
      by_cases hN : nn < 1 ∨ 32 < nn
      case pos =>
        have HE0 := Lib.hid (show partE σ id nn n = 1 from by unfold partE; rw [HU.out]; exact if_pos hN)
        have hN2 : nn < 1 ∨ (¬ nn < 1 ∧ 32 < nn) := by omega
        clear hN
        rcases hN2 with g | ⟨g0, g⟩
        all_goals
          go_wp2_with fail
          refine (failed_any _ _).mono ?_
          rintro e W9 ⟨rfl, hb9⟩
          have M9 := Lib.hid (M1.out.kept hb9)
          clear hb9
          obtain ⟨⟨q0, q1, q2, q3, q4, q5, q6⟩, r0, r1, r2, r3, r4, r5, r6⟩ := rb_cells M9.out.rb
          unfold rep0
          go_wp2_with fail
          clear q0 q1 q2 q3 q4 q5 q6 r0 r1 r2 r3 r4 r5 r6
          obtain ⟨W5, hW5⟩ : ∃ W5, W5 = setR W9 (w.heap.size + 1) (.int .i64 1) (.slice none 0 0) (.int .i64 0) (.int .i64 0) (.int .i64 0) (.slice none 0 0) (.bool false) := ⟨_, rfl⟩
          have hr5 := setR_at0 M9.out.rb (.int .i64 1) (.slice none 0 0) (.int .i64 0) (.int .i64 0) (.int .i64 0) (.slice none 0 0) (.bool false)
          have Z := M9.out.done HL.out (fun b hb => HF.out b hb) (.int .i64 1) (.slice none 0 0) (.int .i64 0) (.int .i64 0) (.int .i64 0) (.slice none 0 0) (.bool false)
          rw [← hW5] at hr5 Z
          unfold setR at hW5
          rw [← hW5]
          refine bodyPost_ret (ret_rep rfl _ _ (w.heap.size + 1) rfl hr5) rfl ?_
          exact PrtSays.no HE0.out (by decide) Z

      case neg =>
        have y1 : ¬ nn < 1 := by omega
        have y2 : ¬ 32 < nn := by omega
        have y1b : decide (nn < 1) = false := decide_eq_false y1
        have y2b : decide (32 < nn) = false := decide_eq_false y2
        have HN := Lib.hid hN
        have hnw : (Lit.int .i64 nn).wf = true := wf_small (by omega)
        clear hN
        have k2 := cell_blk2 M1.out.cb (i := 2) (u := .slice a n c) rfl
        by_cases hlen : 262144 < n
        case pos =>
          have zn : (262144 : Int) < (n : Int) := by omega
          have znb : decide ((262144 : Int) < (n : Int)) = true := decide_eq_true zn
          have HE0 := Lib.hid (show partE σ id nn n = 5 from by unfold partE; rw [HU.out]; simp only; rw [if_neg HN.out, if_pos hlen])
          clear hlen
          go_wp2_with fail
          refine (failed_any _ _).mono ?_
          rintro e W9 ⟨rfl, hb9⟩
          have M9 := Lib.hid (M1.out.kept hb9)
          clear hb9
          obtain ⟨⟨q0, q1, q2, q3, q4, q5, q6⟩, r0, r1, r2, r3, r4, r5, r6⟩ := rb_cells M9.out.rb
          unfold rep0
          go_wp2_with fail
          clear q0 q1 q2 q3 q4 q5 q6 r0 r1 r2 r3 r4 r5 r6
          obtain ⟨W5, hW5⟩ : ∃ W5, W5 = setR W9 (w.heap.size + 1) (.int .i64 5) (.slice none 0 0) (.int .i64 0) (.int .i64 0) (.int .i64 0) (.slice none 0 0) (.bool false) := ⟨_, rfl⟩
          have hr5 := setR_at0 M9.out.rb (.int .i64 5) (.slice none 0 0) (.int .i64 0) (.int .i64 0) (.int .i64 0) (.slice none 0 0) (.bool false)
          have Z := M9.out.done HL.out (fun b hb => HF.out b hb) (.int .i64 5) (.slice none 0 0) (.int .i64 0) (.int .i64 0) (.int .i64 0) (.slice none 0 0) (.bool false)
          rw [← hW5] at hr5 Z
          unfold setR at hW5
          rw [← hW5]
          refine bodyPost_ret (ret_rep rfl _ _ (w.heap.size + 1) rfl hr5) rfl ?_
          exact PrtSays.no HE0.out (by decide) Z

        case neg =>
          have zn : ¬ (262144 : Int) < (n : Int) := by omega
          have znb : decide ((262144 : Int) < (n : Int)) = false := decide_eq_false zn
          have HLN := Lib.hid hlen
          have o2 := cell_blk2 M1.out.ob (i := 2) (u := .map (some u.pb)) rfl
          have hgp := M1.out.st.prt _ HM.out
          obtain ⟨ps, hps, hpl⟩ := field_prt u nn
          have hlk := lookP hgp nn hnw
          rw [hps] at hlk
          have hfl := fldP ps
          have hpsl : ps.size ≤ 4194304 := by
            rw [hpl]
            unfold oldP
            cases hg : getK ilit nn u.parts with
            | none => simp
            | some d =>
              have h1 := tot_mem (fun d : ByteArray => d.size) (get_mem ilit_inj hg)
              have h2 := hok.siz _ HM.out
              unfold psz at h2
              simp only at h1 h2 ⊢
              omega
          have wsub : IntKind.i64.wrap ((n : Int) - (ps.size : Int)) = (n : Int) - (ps.size : Int) := IntWalk.i64_in _ (by omega)
          have c4 := Lib.hid (cell_blk2 M1.out.st.blk (i := 4) (u := .int .i64 σ.size) rfl)
          have HB4 := Lib.hid (show (0 ≤ σ.size ∧ σ.size ≤ 4194304) ∧ (-4194304 ≤ (n : Int) - (ps.size : Int) ∧ (n : Int) - (ps.size : Int) ≤ 4194304) from ⟨hz, by omega⟩)
          have HPS := Lib.hid hps
          have HPL := Lib.hid hpl
          have HGP := Lib.hid hgp
          clear hlen hps hpl hgp
          by_cases hroom : σ.size + ((n : Int) - (ps.size : Int)) ≤ 4194304
          case neg =>
            have zr : decide (σ.size + ((n : Int) - (ps.size : Int)) ≤ 4194304) = false := decide_eq_false hroom
            have HE0 := Lib.hid (show partE σ id nn n = 9 from by unfold partE; rw [HU.out]; simp only; rw [if_neg HN.out, if_neg HLN.out, if_pos (by have := HPL.out; omega)])
            clear hroom
            go_wp2_with (go_at_call 41; refine (holds_any c4.out HB4.out.1 HB4.out.2).mono ?_; rintro e w9 ⟨rfl, rfl⟩; rw [zr])
            go_wp2_with fail
            refine (failed_any _ _).mono ?_
            rintro e W9 ⟨rfl, hb9⟩
            have M9 := Lib.hid (M1.out.kept hb9)
            clear hb9
            obtain ⟨⟨q0, q1, q2, q3, q4, q5, q6⟩, r0, r1, r2, r3, r4, r5, r6⟩ := rb_cells M9.out.rb
            unfold rep0
            go_wp2_with fail
            clear q0 q1 q2 q3 q4 q5 q6 r0 r1 r2 r3 r4 r5 r6
            obtain ⟨W5, hW5⟩ : ∃ W5, W5 = setR W9 (w.heap.size + 1) (.int .i64 9) (.slice none 0 0) (.int .i64 0) (.int .i64 0) (.int .i64 0) (.slice none 0 0) (.bool false) := ⟨_, rfl⟩
            have hr5 := setR_at0 M9.out.rb (.int .i64 9) (.slice none 0 0) (.int .i64 0) (.int .i64 0) (.int .i64 0) (.slice none 0 0) (.bool false)
            have Z := M9.out.done HL.out (fun b hb => HF.out b hb) (.int .i64 9) (.slice none 0 0) (.int .i64 0) (.int .i64 0) (.int .i64 0) (.slice none 0 0) (.bool false)
            rw [← hW5] at hr5 Z
            unfold setR at hW5
            rw [← hW5]
            refine bodyPost_ret (ret_rep rfl _ _ (w.heap.size + 1) rfl hr5) rfl ?_
            exact PrtSays.no HE0.out (by decide) Z

          case pos =>
            have zr : decide (σ.size + ((n : Int) - (ps.size : Int)) ≤ 4194304) = true := decide_eq_true hroom
            have HE0 := Lib.hid (show partE σ id nn n = 0 from by unfold partE; rw [HU.out]; simp only; rw [if_neg HN.out, if_neg HLN.out, if_neg (by have := HPL.out; omega)])
            go_wp2_with (go_at_call 41; refine (holds_any c4.out HB4.out.1 HB4.out.2).mono ?_; rintro e w9 ⟨rfl, rfl⟩; rw [zr])
            have c4b := c4.out
            have f4 := fro_blk2 M1.out.st.blk 4
            have hlk2 := lookP HGP.out.drew nn hnw
            rw [HPS.out] at hlk2
            have wadd : IntKind.i64.wrap (σ.size + ((n : Int) - (ps.size : Int))) = σ.size + ((n : Int) - (ps.size : Int)) := IntWalk.i64_in _ (by omega)
            clear hlk hroom
            go_region
            clear c4b f4 hlk2 hfl wadd wsub zr
            obtain ⟨W2, hW2⟩ : ∃ W2, W2 = (W1.setCell ⟨s, 4, none⟩ (.int .i64 (σ.size + ((n : Int) - (ps.size : Int))))).drew := ⟨_, rfl⟩
            rw [← hW2]
            have hF2 : Frm (fun b => b = s) W1 W2 := by rw [hW2]; exact ((Frm.refl (fun b => b = s) W1).set (p := s) (.inl rfl) 4 _).drew
            have hb2 : W2.heap[s]? = some (.cells (stC Mo Mu (partS σ id u nn (bs xs))) 61 (0, 0)) := by
              rw [hW2]
              have h1 := heap_setCell_same W1 s 4 _ _ (.int .i64 (σ.size + ((n : Int) - (ps.size : Int)))) M1.out.st.blk
              unfold stC partS
              rw [bs_sizeS, HXL.out, ← HPL.out]
              exact h1
            have hsne := HL.out
            have hob2 : W2.heap[w.heap.size + 2]? = some (.cells #[.string u.key, .int .i64 u.born, .map (some u.pb)] 68 (0, 0)) := hF2.at M1.out.ob (by omega)
            have hcb2 : W2.heap[w.heap.size]? = some (.cells #[.int .i64 ki, .string ky, .slice a n c, .int .i64 vr, .int .i64 at_, .int .i64 nn, .int .i64 id] 29 (0, 0)) := hF2.at M1.out.cb (by omega)
            have hrb2 : W2.heap[w.heap.size + 1]? = some (.cells zrep 35 (0, 0)) := hF2.at M1.out.rb (by omega)
            have hgp2 : GM TP ilit prtC W2 u.pb u.parts := HGP.out.same (hF2.block u.pb HGP.out.lt (fun e => M1.out.st.neS.2.2 _ HM.out e.symm))
            have hx2 : BytesAt W2 a n c xs := bytes_frm (HX.out.kept M1.out.bel) hF2 (fun b off ha hp e => bytes_not M1.out.st (HX.out.kept M1.out.bel) b off ha hp (.inl e))
            have hconv := hx2.conv
            have o2b := cell_blk2 hob2 (i := 2) (u := .map (some u.pb)) rfl
            have k5b := cell_blk2 hcb2 (i := 5) (u := .int .i64 nn) rfl
            have k2b := cell_blk2 hcb2 (i := 2) (u := .slice a n c) rfl
            obtain ⟨w3, hrun, g3, ht3⟩ := storeP hgp2 nn hnw (bs xs) (by have := HPN.out; omega)
            have hrun2 : (Instr.mapUpdate 66 (.map (some u.pb)) (.int .i64 nn) (.agg #[.string (bs xs)])).run Try.prog W2 = .ok () w3 := hrun
            have hpbF := HF.out u.pb (.inr (.inr (.inr ⟨_, HM.out, rfl⟩)))
            have hr3 : w3.heap[w.heap.size + 1]? = some (.cells zrep 35 (0, 0)) :=
              (ht3.grown.block (w.heap.size + 1) (Array.getElem?_eq_some_iff.1 hrb2).1 (fun e => by have h6 := Option.some.inj e; omega)).trans hrb2
            have hb3 : w3.heap[s]? = some (.cells (stC Mo Mu (partS σ id u nn (bs xs))) 61 (0, 0)) :=
              (ht3.grown.block s (Array.getElem?_eq_some_iff.1 hb2).1 (fun e => M1.out.st.neS.2.2 _ HM.out (Option.some.inj e))).trans hb2
            have hF3 : Frm (fun b => b = s ∨ b = u.pb) W1 w3 := (hF2.imp (fun i e => Or.inl e)).turned (.inl (.inr rfl)) ht3
            have hst3 : StAt w3 s Mo Mu (partS σ id u nn (bs xs)) := M1.out.st.prt' HM.out hF3 hb3 rfl rfl g3
            have HST := Lib.hid hst3
            have HFR := Lib.hid (show Frm (StF s Mo Mu σ) W1 w3 from hF3.imp (fun i e => e.elim (fun g => .inl g) (fun g => .inr (.inr (.inr ⟨_, HM.out, g⟩)))))
            have HRB := Lib.hid hr3
            have HR2 := Lib.hid hrb2
            clear hrun hW2 hF2 hb2 hob2 hcb2 hgp2 hx2 hr3 hb3 hF3 hst3 g3 ht3 hrb2 hpbF k5 k2 o2 hsne
            obtain ⟨⟨q0, q1, q2, q3, q4, q5, q6⟩, r0, r1, r2, r3, r4, r5, r6⟩ := rb_cells HRB.out
            go_wp2_with fail
            clear q0 q1 q2 q3 q4 q5 q6 r0 r1 r2 r3 r4 r5 r6
            obtain ⟨W5, hW5⟩ : ∃ W5, W5 = setR w3 (w.heap.size + 1) (.int .i64 0) (.slice none 0 0) (.int .i64 0) (.int .i64 0) (.int .i64 0) (.slice none 0 0) (.bool false) := ⟨_, rfl⟩
            have hr5 := setR_at0 HRB.out (.int .i64 0) (.slice none 0 0) (.int .i64 0) (.int .i64 0) (.int .i64 0) (.slice none 0 0) (.bool false)
            have hF5 := (Frm.refl (fun b => b = w.heap.size + 1) w3).setR (R := w.heap.size + 1) (.inl rfl) (.int .i64 0) (.slice none 0 0) (.int .i64 0) (.int .i64 0) (.int .i64 0) (.slice none 0 0) (.bool false)
            rw [← hW5] at hr5 hF5
            unfold setR at hW5
            rw [← hW5]
            have Z := end_frm HST.out HFR.out M1.out.bel hF5 (fun b hb => HF.out b (part_blk hb))
            refine bodyPost_ret (ret_rep rfl _ _ (w.heap.size + 1) rfl hr5) rfl ?_
            exact PrtSays.yes HU.out HE0.out Z
end Go.Proofs.Ytjafagfhkpaciaa
