/- The store's abort, walked. Written by genstoabt.py. -/
import Derived.Test.YtjafagfhkpaciaaStoDrop
import Derived.Test.YtjafagfhkpaciaaStoRep
import Derived.Test.YtjafagfhkpaciaaOneBox
namespace Go.Proofs.Ytjafagfhkpaciaa
open Go.RowKit
set_option linter.unusedVariables false

theorem ilit_inj {i j : Int} (h : ilit i = ilit j) : i = j := by cases h; rfl
theorem slit_inj {x y : ByteArray} (h : slit x = slit y) : x = y := by
  unfold slit at h
  have h1 : x.data.toList = y.data.toList := by simpa using h
  cases x; cases y
  congr 1
  exact Array.toList_inj.1 h1
theorem get_mem {κ α : Type} {lit : κ → Lit} (hinj : ∀ {i j}, lit i = lit j → i = j) {l : List (κ × α)} {k : κ} {a : α} (h : getK lit k l = some a) : (k, a) ∈ l := by
  unfold getK at h
  obtain ⟨q, hq, rfl⟩ := Option.map_eq_some_iff.1 h
  have hs := List.find?_some hq
  have he := hinj (WideAt.sameKey_eq hs)
  rw [← he]
  exact List.mem_of_find?_eq_some hq
theorem field_upl (σ : Sto) (i : Int) : ∃ us ub up, (getK ilit i σ.ups).elim uplZ uplC = .agg #[.string us, .int .i64 ub, .map up] := by
  cases getK ilit i σ.ups with
  | none => exact ⟨_, _, _, rfl⟩
  | some u => exact ⟨_, _, _, rfl⟩
/-- uploads as they must be -/
structure OkU (σ : Sto) : Prop where
  key : ∀ p ∈ σ.ups, ∀ x ∈ p.2.parts, 1 ≤ x.1 ∧ x.1 ≤ 32
  siz : ∀ p ∈ σ.ups, psz p.2.parts ≤ 4194304
  num : ∀ p ∈ σ.ups, p.2.parts.length ≤ 32
theorem wf_small {i : Int} (h : -9223372036854775808 ≤ i ∧ i ≤ 9223372036854775807) : (Lit.int .i64 i).wf = true := WalkArith.wf_i64 (by omega)
def AbtSays (w : World) (s Mo Mu : Nat) (σ : Sto) (i : Int) (e : Ending) (w' : World) : Prop :=
  match upOf σ i with
  | none => e = .returned (rep0 7) ∧ StAt w' s Mo Mu σ ∧ Below w.heap.size w w'
  | some u => e = .returned (rep0 0) ∧ StAt w' s Mo Mu (dropS σ i (psz u.parts)) ∧ Frm (StF s Mo Mu σ) w w'
theorem AbtSays.no {w w' : World} {s Mo Mu : Nat} {σ : Sto} {i : Int} (h : upOf σ i = none) (Z : StAt w' s Mo Mu σ ∧ Below w.heap.size w w') : AbtSays w s Mo Mu σ i (.returned (rep0 7)) w' := by
  unfold AbtSays; rw [h]; exact ⟨rfl, Z.1, Z.2⟩
theorem AbtSays.yes {w w' : World} {s Mo Mu : Nat} {σ : Sto} {i : Int} {u : UplS} (h : upOf σ i = some u) (Z : StAt w' s Mo Mu (dropS σ i (psz u.parts)) ∧ Frm (StF s Mo Mu σ) w w') : AbtSays w s Mo Mu σ i (.returned (rep0 0)) w' := by
  unfold AbtSays; rw [h]; exact ⟨rfl, Z.1, Z.2⟩
/-- a method's end behind a call that turned the store -/
theorem end_frm {w W2 W3 W5 : World} {s Mo Mu : Nat} {σ σ' : Sto} (hst : StAt W3 s Mo Mu σ') (hfr : Frm (StF s Mo Mu σ) W2 W3) (hbel : Below w.heap.size w W2) (h5 : Frm (fun b => b = w.heap.size + 1) W3 W5) (hF : ∀ b, StF s Mo Mu σ' b → b < w.heap.size) :
    StAt W5 s Mo Mu σ' ∧ Frm (StF s Mo Mu σ) w W5 :=
  ⟨hst.same fun b hb => h5.block b (hst.lt hb) (fun e => by have := hF b hb; omega), ((Frm.ofBelow hbel).trans hfr (fun i hi => .inl hi)).trans h5 (fun i hi => .inr (by omega))⟩
theorem StF.drop {s Mo Mu : Nat} {σ : Sto} {i : Int} {m b : Nat} (h : StF s Mo Mu (dropS σ i m) b) : StF s Mo Mu σ b := by
  rcases h with h | h | h | ⟨p, hp, h⟩
  · exact .inl h
  · exact .inr (.inl h)
  · exact .inr (.inr (.inl h))
  · exact .inr (.inr (.inr ⟨p, (List.mem_filter.1 hp).1, h⟩))
set_option maxRecDepth 100000 in
set_option maxHeartbeats 4000000 in
theorem abort_any {w : World} {s Mo Mu : Nat} {σ : Sto} (h : StAt w s Mo Mu σ) {ki vr at_ nn id : Int} {ky : ByteArray} {a : Option Addr} {n c : Nat} (hid : (Lit.int .i64 id).wf = true) (hok : OkU σ) (hz : 0 ≤ σ.size ∧ σ.size ≤ 4194304) :
    Calls Try.prog 31 #[.pointer (some ⟨s, 0, none⟩), .agg #[.int .i64 ki, .string ky, .slice a n c, .int .i64 vr, .int .i64 at_, .int .i64 nn, .int .i64 id]] w (AbtSays w s Mo Mu σ id) := by
  have HE := Lib.hid (ent_mk h #[.int .i64 ki, .string ky, .slice a n c, .int .i64 vr, .int .i64 at_, .int .i64 nn, .int .i64 id])
  have HL := Lib.hid h.lts
  have HF := Lib.hid (show ∀ b, StF s Mo Mu σ b → b < w.heap.size from fun b hb => h.lt hb)
  have HS := Lib.hid h
  clear h
  go_enter Try.func31, Try.ntmps31
  go_wp2_with fail
  obtain ⟨W0, hW0⟩ : ∃ W0, W0 = (w.alloc (.cells #[.int .i64 ki, .string ky, .slice a n c, .int .i64 vr, .int .i64 at_, .int .i64 nn, .int .i64 id] 29)).alloc (.cells zrep 35) := ⟨_, rfl⟩
  rw [← hW0] at HE
  unfold zrep at hW0
  rw [← hW0]
  clear hW0
  have hk0 : w.heap.size < W0.heap.size := by have := HE.out.sz; omega
  have hr0 : w.heap.size + 1 < W0.heap.size := by have := HE.out.sz; omega
  have hs0 := HE.out.st.lts
  have ez0 := Lib.hid HE.out.sz
  obtain ⟨us, ub, up, hus⟩ := field_upl σ id
  obtain ⟨oi, hoi⟩ : ∃ oi, oi = (getK ilit id σ.ups).isSome := ⟨_, rfl⟩
  have HUS := Lib.hid hus
  have HLA := Lib.hid (show ∀ w9, Below W0.heap.size W0 w9 → (Instr.lookup 59 (.map (some Mu)) (.int .i64 id) true).run Try.prog w9 = .ok (.tuple #[.agg #[.string us, .int .i64 ub, .map up], .bool oi]) w9 from fun w9 h9 => by
    have h8 := lookU2 (HE.out.st.upl.below h9) id hid
    rw [hus, ← hoi] at h8
    exact h8)
  have HOI := Lib.hid hoi
  clear hus hoi
  refine wp_region_inv (by kernel_rfl) (by kernel_rfl) (by kernel_rfl) (OB W0 (.cells #[.string { data := #[] }, .int .i64 0, .map none] 68) (.cells #[.string us, .int .i64 ub, .map up] 68) (fun j_9 => match j_9 with | 0 => some (.pointer (some ⟨s, 0, none⟩)) | 1 => some (.pointer (some ⟨s, 0, none⟩)) | 2 => some (.pointer (some ⟨s, 1, none⟩)) | 3 => some (.map (some Mu)) | 4 => some (.pointer (some ⟨w.heap.size, 6, none⟩)) | 5 => some (.int .i64 id) | 6 => some (.tuple #[.agg #[.string us, .int .i64 ub, .map up], .bool oi]) | 7 => some (.tuple #[.agg #[.string us, .int .i64 ub, .map up], .bool oi]) | 8 => some (.agg #[.string us, .int .i64 ub, .map up]) | 9 => some (.bool oi) | 10 => some (.pointer (some ⟨W0.heap.size, 0, none⟩)) | 11 => none | 12 => some (.bool oi) | _ => none) 10 11) (fun V => OB.start V) ?_ ?_
  · intro j9 o ho L9 V w9 K hI hL hdep hK
    have HI9 := Lib.hid hI
    have hJ := hI.below
    simp only [fill, slotOf, List.size_toArray, List.length_cons, List.length_nil, Nat.reduceAdd, List.getElem?_toArray, List.getElem?_cons_zero, List.getElem?_cons_succ, Option.bind_some, Act.put, List.setIfInBounds_toArray, List.set_cons_zero, List.set_cons_succ] at hK ⊢
    have hin : j9 < 13 := (Array.getElem?_eq_some_iff.1 ho).1
    have hcs : j9 = 0 ∨ j9 = 1 ∨ j9 = 2 ∨ j9 = 3 ∨ j9 = 4 ∨ j9 = 5 ∨ j9 = 6 ∨ j9 = 7 ∨ j9 = 8 ∨ j9 = 9 ∨ j9 = 10 ∨ j9 = 11 ∨ j9 = 12 := by omega
    clear hin
    rcases hcs with rfl | rfl | rfl | rfl | rfl | rfl | rfl | rfl | rfl | rfl | rfl | rfl | rfl
    · obtain rfl := Option.some.inj ho.symm
      clear hdep ho hI hL hJ
      try simp only [fill, slotOf, List.size_toArray, List.length_cons, List.length_nil, Nat.reduceAdd, List.getElem?_toArray, List.getElem?_cons_zero, List.getElem?_cons_succ, Option.bind_some, Act.put, List.setIfInBounds_toArray, List.set_cons_zero, List.set_cons_succ] at hK ⊢
      go_simp
      exact hK (.pointer (some ⟨s, 0, none⟩)) _ (HI9.out.put 0 _ (by decide) (fun v h => Option.some.inj h)) _ rfl
    · obtain rfl := Option.some.inj ho.symm
      have d0 : V 0 = .pointer (some ⟨s, 0, none⟩) := hI.val 0 _ (hdep ⟨0, .data⟩ (by simp) rfl) rfl
      clear hdep ho hI hL hJ
      try simp only [fill, slotOf, List.size_toArray, List.length_cons, List.length_nil, Nat.reduceAdd, List.getElem?_toArray, List.getElem?_cons_zero, List.getElem?_cons_succ, Option.bind_some, Act.put, List.setIfInBounds_toArray, List.set_cons_zero, List.set_cons_succ] at hK ⊢
      rw [d0] at hK ⊢
      go_simp
      exact hK (.pointer (some ⟨s, 0, none⟩)) _ (HI9.out.put 1 _ (by decide) (fun v h => Option.some.inj h)) _ rfl
    · obtain rfl := Option.some.inj ho.symm
      have d1 : V 1 = .pointer (some ⟨s, 0, none⟩) := hI.val 1 _ (hdep ⟨1, .data⟩ (by simp) rfl) rfl
      clear hdep ho hI hL hJ
      try simp only [fill, slotOf, List.size_toArray, List.length_cons, List.length_nil, Nat.reduceAdd, List.getElem?_toArray, List.getElem?_cons_zero, List.getElem?_cons_succ, Option.bind_some, Act.put, List.setIfInBounds_toArray, List.set_cons_zero, List.set_cons_succ] at hK ⊢
      rw [d1] at hK ⊢
      go_simp
      exact hK (.pointer (some ⟨s, 1, none⟩)) _ (HI9.out.put 2 _ (by decide) (fun v h => Option.some.inj h)) _ rfl
    · obtain rfl := Option.some.inj ho.symm
      have d2 : V 2 = .pointer (some ⟨s, 1, none⟩) := hI.val 2 _ (hdep ⟨2, .data⟩ (by simp) rfl) rfl
      have g9 := cell_blk2 ((hJ.block s hs0).trans HE.out.st.blk) (i := 1) (u := .map (some Mu)) rfl
      clear hdep ho hI hL hJ
      try simp only [fill, slotOf, List.size_toArray, List.length_cons, List.length_nil, Nat.reduceAdd, List.getElem?_toArray, List.getElem?_cons_zero, List.getElem?_cons_succ, Option.bind_some, Act.put, List.setIfInBounds_toArray, List.set_cons_zero, List.set_cons_succ] at hK ⊢
      rw [d2] at hK ⊢
      go_simp
      exact hK (.map (some Mu)) _ (HI9.out.put 3 _ (by decide) (fun v h => Option.some.inj h)) _ rfl
    · obtain rfl := Option.some.inj ho.symm
      clear hdep ho hI hL hJ
      try simp only [fill, slotOf, List.size_toArray, List.length_cons, List.length_nil, Nat.reduceAdd, List.getElem?_toArray, List.getElem?_cons_zero, List.getElem?_cons_succ, Option.bind_some, Act.put, List.setIfInBounds_toArray, List.set_cons_zero, List.set_cons_succ] at hK ⊢
      go_simp
      exact hK (.pointer (some ⟨w.heap.size, 6, none⟩)) _ (HI9.out.put 4 _ (by decide) (fun v h => Option.some.inj h)) _ rfl
    · obtain rfl := Option.some.inj ho.symm
      have d4 : V 4 = .pointer (some ⟨w.heap.size, 6, none⟩) := hI.val 4 _ (hdep ⟨4, .data⟩ (by simp) rfl) rfl
      have g9 := cell_blk2 ((hJ.block w.heap.size hk0).trans HE.out.cb) (i := 6) (u := .int .i64 id) rfl
      clear hdep ho hI hL hJ
      try simp only [fill, slotOf, List.size_toArray, List.length_cons, List.length_nil, Nat.reduceAdd, List.getElem?_toArray, List.getElem?_cons_zero, List.getElem?_cons_succ, Option.bind_some, Act.put, List.setIfInBounds_toArray, List.set_cons_zero, List.set_cons_succ] at hK ⊢
      rw [d4] at hK ⊢
      go_simp
      exact hK (.int .i64 id) _ (HI9.out.put 5 _ (by decide) (fun v h => Option.some.inj h)) _ rfl
    · obtain rfl := Option.some.inj ho.symm
      have d3 : V 3 = .map (some Mu) := hI.val 3 _ (hdep ⟨3, .data⟩ (by simp) rfl) rfl
      have d5 : V 5 = .int .i64 id := hI.val 5 _ (hdep ⟨5, .data⟩ (by simp) rfl) rfl
      have g9 := HLA.out w9 hJ
      clear hdep ho hI hL hJ
      try simp only [fill, slotOf, List.size_toArray, List.length_cons, List.length_nil, Nat.reduceAdd, List.getElem?_toArray, List.getElem?_cons_zero, List.getElem?_cons_succ, Option.bind_some, Act.put, List.setIfInBounds_toArray, List.set_cons_zero, List.set_cons_succ] at hK ⊢
      rw [d3, d5] at hK ⊢
      go_simp
      exact hK (.tuple #[.agg #[.string us, .int .i64 ub, .map up], .bool oi]) _ (HI9.out.put 6 _ (by decide) (fun v h => Option.some.inj h)) _ rfl
    · obtain rfl := Option.some.inj ho.symm
      have d6 : V 6 = .tuple #[.agg #[.string us, .int .i64 ub, .map up], .bool oi] := hI.val 6 _ (hdep ⟨6, .data⟩ (by simp) rfl) rfl
      clear hdep ho hI hL hJ
      try simp only [fill, slotOf, List.size_toArray, List.length_cons, List.length_nil, Nat.reduceAdd, List.getElem?_toArray, List.getElem?_cons_zero, List.getElem?_cons_succ, Option.bind_some, Act.put, List.setIfInBounds_toArray, List.set_cons_zero, List.set_cons_succ] at hK ⊢
      rw [d6] at hK ⊢
      go_simp
      exact hK (.tuple #[.agg #[.string us, .int .i64 ub, .map up], .bool oi]) _ (HI9.out.put 7 _ (by decide) (fun v h => Option.some.inj h)) _ rfl
    · obtain rfl := Option.some.inj ho.symm
      have d7 : V 7 = .tuple #[.agg #[.string us, .int .i64 ub, .map up], .bool oi] := hI.val 7 _ (hdep ⟨7, .data⟩ (by simp) rfl) rfl
      clear hdep ho hI hL hJ
      try simp only [fill, slotOf, List.size_toArray, List.length_cons, List.length_nil, Nat.reduceAdd, List.getElem?_toArray, List.getElem?_cons_zero, List.getElem?_cons_succ, Option.bind_some, Act.put, List.setIfInBounds_toArray, List.set_cons_zero, List.set_cons_succ] at hK ⊢
      rw [d7] at hK ⊢
      go_simp
      exact hK (.agg #[.string us, .int .i64 ub, .map up]) _ (HI9.out.put 8 _ (by decide) (fun v h => Option.some.inj h)) _ rfl
    · obtain rfl := Option.some.inj ho.symm
      have d7 : V 7 = .tuple #[.agg #[.string us, .int .i64 ub, .map up], .bool oi] := hI.val 7 _ (hdep ⟨7, .data⟩ (by simp) rfl) rfl
      clear hdep ho hI hL hJ
      try simp only [fill, slotOf, List.size_toArray, List.length_cons, List.length_nil, Nat.reduceAdd, List.getElem?_toArray, List.getElem?_cons_zero, List.getElem?_cons_succ, Option.bind_some, Act.put, List.setIfInBounds_toArray, List.set_cons_zero, List.set_cons_succ] at hK ⊢
      rw [d7] at hK ⊢
      go_simp
      exact hK (.bool oi) _ (HI9.out.put 9 _ (by decide) (fun v h => Option.some.inj h)) _ rfl
    · obtain rfl := Option.some.inj ho.symm
      have HL9 := Lib.hid hL
      have e9 := hI.sa hL
      clear hdep ho hI hL hJ
      subst e9
      try simp only [fill, slotOf, List.size_toArray, List.length_cons, List.length_nil, Nat.reduceAdd, List.getElem?_toArray, List.getElem?_cons_zero, List.getElem?_cons_succ, Option.bind_some, Act.put, List.setIfInBounds_toArray, List.set_cons_zero, List.set_cons_succ] at hK ⊢
      go_simp
      exact hK (.pointer (some ⟨W0.heap.size, 0, none⟩)) _ (HI9.out.puta (by decide) HL9.out _ (fun v h => Option.some.inj h)) _ rfl
    · obtain rfl := Option.some.inj ho.symm
      have d10 : V 10 = .pointer (some ⟨W0.heap.size, 0, none⟩) := hI.val 10 _ (hdep ⟨10, .data⟩ (by simp) rfl) rfl
      have d8 : V 8 = .agg #[.string us, .int .i64 ub, .map up] := hI.val 8 _ (hdep ⟨8, .data⟩ (by simp) rfl) rfl
      have la : L9 10 = true := hdep ⟨10, .data⟩ (by simp) rfl
      have HLA := Lib.hid la
      have e9 := hI.sb la hL
      clear hdep ho hI hL hJ la
      subst e9
      try simp only [fill, slotOf, List.size_toArray, List.length_cons, List.length_nil, Nat.reduceAdd, List.getElem?_toArray, List.getElem?_cons_zero, List.getElem?_cons_succ, Option.bind_some, Act.put, List.setIfInBounds_toArray, List.set_cons_zero, List.set_cons_succ] at hK ⊢
      rw [d10, d8] at hK ⊢
      go_simp
      exact hK undef _ (HI9.out.puts HLA.out _ (fun v h => by cases h)) _ rfl
    · obtain rfl := Option.some.inj ho.symm
      have d9 : V 9 = .bool oi := hI.val 9 _ (hdep ⟨9, .data⟩ (by simp) rfl) rfl
      clear hdep ho hI hL hJ
      try simp only [fill, slotOf, List.size_toArray, List.length_cons, List.length_nil, Nat.reduceAdd, List.getElem?_toArray, List.getElem?_cons_zero, List.getElem?_cons_succ, Option.bind_some, Act.put, List.setIfInBounds_toArray, List.set_cons_zero, List.set_cons_succ] at hK ⊢
      rw [d9] at hK ⊢
      go_simp
      exact hK (.bool oi) _ (HI9.out.put 12 _ (by decide) (fun v h => Option.some.inj h)) _ rfl
  · intro L9 V w9 hI hall
    have k10 : V 10 = .pointer (some ⟨W0.heap.size, 0, none⟩) := hI.val 10 _ (hall 10 (by decide)) rfl
    have k12 : V 12 = .bool oi := hI.val 12 _ (hall 12 (by decide)) rfl
    have e9 := hI.sc (hall 11 (by decide))
    clear hI hall
    subst e9
    simp only [fill, slotOf, List.size_toArray, List.length_cons, List.length_nil, Nat.reduceAdd, List.getElem?_toArray, List.getElem?_cons_zero, List.getElem?_cons_succ, Option.bind_some, Act.put, List.setIfInBounds_toArray, List.set_cons_zero, List.set_cons_succ]
    rw [k10, k12]
    clear k10 k12
    obtain ⟨W1, hW1⟩ : ∃ W1, W1 = (W0.alloc (.cells #[.string us, .int .i64 ub, .map up] 68)).drew := ⟨_, rfl⟩
    have M1 := Lib.hid (md_mk HE.out #[.string us, .int .i64 ub, .map up] 68)
    rw [← hW1] at M1
    rw [← hW1]
    rw [ez0.out]
    clear hW1 HE hk0 hr0 hs0 ez0 HLA
    cases oi with
    | false =>
      have HE0 := Lib.hid (show upOf σ id = none from by
        have h1 := HOI.out
        unfold upOf
        cases hg : getK ilit id σ.ups with
        | none => rfl
        | some x => rw [hg] at h1; cases h1)
      go_wp2_with fail
      refine (failed_any _ _).mono ?_
      rintro e W9 ⟨rfl, hb9⟩
      have M9 := Lib.hid (M1.out.kept hb9)
      clear hb9
      obtain ⟨⟨q0, q1, q2, q3, q4, q5, q6⟩, r0, r1, r2, r3, r4, r5, r6⟩ := rb_cells M9.out.rb
      unfold rep0
      go_wp2_with fail
      clear q0 q1 q2 q3 q4 q5 q6 r0 r1 r2 r3 r4 r5 r6
      obtain ⟨W5, hW5⟩ : ∃ W5, W5 = setR W9 (w.heap.size + 1) (.int .i64 7) (.slice none 0 0) (.int .i64 0) (.int .i64 0) (.int .i64 0) (.slice none 0 0) (.bool false) := ⟨_, rfl⟩
      have hr5 := setR_at0 M9.out.rb (.int .i64 7) (.slice none 0 0) (.int .i64 0) (.int .i64 0) (.int .i64 0) (.slice none 0 0) (.bool false)
      have Z := M9.out.done HL.out (fun b hb => HF.out b hb) (.int .i64 7) (.slice none 0 0) (.int .i64 0) (.int .i64 0) (.int .i64 0) (.slice none 0 0) (.bool false)
      rw [← hW5] at hr5 Z
      unfold setR at hW5
      rw [← hW5]
      refine bodyPost_ret (ret_rep rfl _ _ (w.heap.size + 1) rfl hr5) rfl ?_
      exact AbtSays.no HE0.out Z

    | true =>
      obtain ⟨u, hu⟩ : ∃ u, upOf σ id = some u := by
        have h1 := HOI.out
        unfold upOf
        cases hg : getK ilit id σ.ups with
        | none => rw [hg] at h1; cases h1
        | some x => exact ⟨x, rfl⟩
      have hm := get_mem ilit_inj hu
      have k6 := cell_blk2 M1.out.cb (i := 6) (u := .int .i64 id) rfl
      have HD := Lib.hid (drop_any M1.out.st hid hu hm (fun x hx => wf_small (by have := hok.key _ hm x hx; omega)) (by have := hok.siz _ hm; simp only at this; omega) hz)
      have HU := Lib.hid hu
      clear hu hm
      go_wp2_with fail
      refine HD.out.mono ?_
      rintro e W3 ⟨rfl, hst3, hfr3⟩
      have hrb3 : W3.heap[w.heap.size + 1]? = some (.cells zrep 35 (0, 0)) := hfr3.at M1.out.rb (fun hb => by have := HF.out _ hb; omega)
      have HST := Lib.hid hst3
      have HFR := Lib.hid hfr3
      have HRB := Lib.hid hrb3
      obtain ⟨⟨q0, q1, q2, q3, q4, q5, q6⟩, r0, r1, r2, r3, r4, r5, r6⟩ := rb_cells hrb3
      clear hst3 hfr3 hrb3
      go_wp2_with fail
      clear q0 q1 q2 q3 q4 q5 q6 r0 r1 r2 r3 r4 r5 r6
      obtain ⟨W5, hW5⟩ : ∃ W5, W5 = setR W3 (w.heap.size + 1) (.int .i64 0) (.slice none 0 0) (.int .i64 0) (.int .i64 0) (.int .i64 0) (.slice none 0 0) (.bool false) := ⟨_, rfl⟩
      have hr5 := setR_at0 HRB.out (.int .i64 0) (.slice none 0 0) (.int .i64 0) (.int .i64 0) (.int .i64 0) (.slice none 0 0) (.bool false)
      have hF5 := (Frm.refl (fun b => b = w.heap.size + 1) W3).setR (R := w.heap.size + 1) (.inl rfl) (.int .i64 0) (.slice none 0 0) (.int .i64 0) (.int .i64 0) (.int .i64 0) (.slice none 0 0) (.bool false)
      rw [← hW5] at hr5 hF5
      unfold setR at hW5
      rw [← hW5]
      have Z := end_frm HST.out HFR.out M1.out.bel hF5 (fun b hb => HF.out b hb.drop)
      refine bodyPost_ret (ret_rep rfl _ _ (w.heap.size + 1) rfl hr5) rfl ?_
      exact AbtSays.yes HU.out Z
end Go.Proofs.Ytjafagfhkpaciaa
