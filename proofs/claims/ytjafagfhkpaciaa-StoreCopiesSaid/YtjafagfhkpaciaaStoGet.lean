/- The store's get, walked. Written by genstoget.py. -/
import Derived.Test.YtjafagfhkpaciaaStoPut
import Derived.Test.YtjafagfhkpaciaaStoBytes
namespace Go.Proofs.Ytjafagfhkpaciaa
open Go.RowKit
set_option linter.unusedVariables false

/-- what get answers -/
def GetSays (w : World) (s Mo Mu : Nat) (σ : Sto) (ky : ByteArray) (e : Ending) (w' : World) : Prop :=
  match objOf σ ky with
  | none => e = .returned (rep0 7) ∧ StAt w' s Mo Mu σ ∧ Below w.heap.size w w'
  | some o => ∃ g c, e = .returned (rep 0 (.slice (some ⟨g, 0, none⟩) o.data.size c) o.ver o.born 0 (.slice none 0 0) false) ∧ w.heap.size ≤ g ∧ BytesAt w' (some ⟨g, 0, none⟩) o.data.size c (numsOf o.data) ∧ StAt w' s Mo Mu σ ∧ Below w.heap.size w w'
theorem GetSays.no {w w' : World} {s Mo Mu : Nat} {σ : Sto} {ky : ByteArray} (h : objOf σ ky = none) (Z : StAt w' s Mo Mu σ ∧ Below w.heap.size w w') : GetSays w s Mo Mu σ ky (.returned (rep0 7)) w' := by
  unfold GetSays
  rw [h]
  exact ⟨rfl, Z.1, Z.2⟩
theorem GetSays.yes {w w' : World} {s Mo Mu : Nat} {σ : Sto} {ky : ByteArray} {os : ByteArray} {ov ob : Int} {g c : Nat} (h : objOf σ ky = some ⟨os, ov, ob⟩) (hg : w.heap.size ≤ g) (hb : BytesAt w' (some ⟨g, 0, none⟩) os.size c (numsOf os)) (Z : StAt w' s Mo Mu σ ∧ Below w.heap.size w w') :
    GetSays w s Mo Mu σ ky (.returned (rep 0 (.slice (some ⟨g, 0, none⟩) os.size c) ov ob 0 (.slice none 0 0) false)) w' := by
  unfold GetSays
  rw [h]
  exact ⟨g, c, rfl, hg, hb, Z.1, Z.2⟩
theorem objOf_some {σ : Sto} {ky os : ByteArray} {ob : Int} (h : (getK slit ky σ.objs).elim objZ objC = .agg #[.string os, .int .i64 (oldVer σ ky), .int .i64 ob]) (hi : (getK slit ky σ.objs).isSome = true) : objOf σ ky = some ⟨os, oldVer σ ky, ob⟩ := by
  unfold objOf
  cases hg : getK slit ky σ.objs with
  | none => rw [hg] at hi; cases hi
  | some o =>
    rw [hg] at h
    simp only [Option.elim, objC, Value.agg.injEq, Array.mk.injEq, List.cons.injEq, Value.string.injEq, Value.int.injEq, true_and, and_true] at h
    obtain ⟨h1, h2, h3⟩ := h
    obtain ⟨x, y, z⟩ := o
    simp only at h1 h2 h3
    rw [h1, h2, h3]
theorem bytes_setR {w : World} {a : Option Addr} {n c R : Nat} {xs : List Nat} (h : BytesAt w a n c xs) (hR : ∀ b off, a = some ⟨b, off, none⟩ → b ≠ R) (x0 x1 x2 x3 x4 x5 x6 : Value) : BytesAt (setR w R x0 x1 x2 x3 x4 x5 x6) a n c xs := by
  have h1 : Frm (fun b => b = R) w (setR w R x0 x1 x2 x3 x4 x5 x6) := (Frm.refl (fun b => b = R) w).setR (R := R) (.inl rfl) _ _ _ _ _ _ _
  refine ⟨h.len, h.cap, h.byte, h.reach, h.capm, h.nl, fun hn => ?_⟩
  obtain ⟨b, off, ha, hlt, hc⟩ := h.cells hn
  have hne := hR b off ha
  refine ⟨b, off, ha, Nat.lt_of_lt_of_le hlt h1.size, fun i hi => ?_⟩
  rw [← hc i hi]
  exact cell_of_heap (h1.block b hlt hne)
set_option maxRecDepth 100000 in
set_option maxHeartbeats 4000000 in
theorem get_any {w : World} {s Mo Mu : Nat} {σ : Sto} (h : StAt w s Mo Mu σ) {ki vr at_ nn id : Int} {ky : ByteArray} {a : Option Addr} {n c : Nat} (hk : ky.size ≤ 1000000000000000) (ho : oldLen σ ky ≤ 262144) :
    Calls Try.prog 24 #[.pointer (some ⟨s, 0, none⟩), .agg #[.int .i64 ki, .string ky, .slice a n c, .int .i64 vr, .int .i64 at_, .int .i64 nn, .int .i64 id]] w (GetSays w s Mo Mu σ ky) := by
  have HE := Lib.hid (ent_mk h #[.int .i64 ki, .string ky, .slice a n c, .int .i64 vr, .int .i64 at_, .int .i64 nn, .int .i64 id])
  have HL := Lib.hid h.lts
  have HF := Lib.hid (show ∀ b, StF s Mo Mu σ b → b < w.heap.size from fun b hb => h.lt hb)
  have HS := Lib.hid h
  clear h
  go_enter Try.func24, Try.ntmps24
  go_wp2_with fail
  obtain ⟨W0, hW0⟩ : ∃ W0, W0 = (w.alloc (.cells #[.int .i64 ki, .string ky, .slice a n c, .int .i64 vr, .int .i64 at_, .int .i64 nn, .int .i64 id] 29)).alloc (.cells zrep 35) := ⟨_, rfl⟩
  rw [← hW0] at HE
  unfold zrep at hW0
  rw [← hW0]
  clear hW0
  have hk0 : w.heap.size < W0.heap.size := by have := HE.out.sz; omega
  have hr0 : w.heap.size + 1 < W0.heap.size := by have := HE.out.sz; omega
  have hs0 := HE.out.st.lts
  have ez0 := Lib.hid HE.out.sz
  obtain ⟨os, ob, hos, hol⟩ := field_obj2 σ ky
  obtain ⟨ov, hov⟩ : ∃ ov, ov = oldVer σ ky := ⟨_, rfl⟩
  obtain ⟨oi, hoi⟩ : ∃ oi, oi = (getK slit ky σ.objs).isSome := ⟨_, rfl⟩
  have HOS := Lib.hid hos
  have HLA := Lib.hid (show ∀ w9, Below W0.heap.size W0 w9 → (Instr.lookup 58 (.map (some Mo)) (.string ky) true).run Try.prog w9 = .ok (.tuple #[.agg #[.string os, .int .i64 ov, .int .i64 ob], .bool oi]) w9 from fun w9 h9 => by
    have h8 := lookO2 (HE.out.st.obj.below h9) ky hk
    rw [hos, ← hoi, ← hov] at h8
    exact h8)
  have HOL := Lib.hid hol
  have HOI := Lib.hid hoi
  have HOV := Lib.hid hov
  clear hos hol hoi hov
  refine wp_region_inv (by kernel_rfl) (by kernel_rfl) (by kernel_rfl) (OB W0 (.cells #[.string { data := #[] }, .int .i64 0, .int .i64 0] 65) (.cells #[.string os, .int .i64 ov, .int .i64 ob] 65) (fun j_9 => match j_9 with | 0 => some (.pointer (some ⟨s, 0, none⟩)) | 1 => some (.pointer (some ⟨s, 0, none⟩)) | 2 => some (.pointer (some ⟨s, 0, none⟩)) | 3 => some (.map (some Mo)) | 4 => some (.pointer (some ⟨w.heap.size, 1, none⟩)) | 5 => some (.string ky) | 6 => some (.tuple #[.agg #[.string os, .int .i64 ov, .int .i64 ob], .bool oi]) | 7 => some (.tuple #[.agg #[.string os, .int .i64 ov, .int .i64 ob], .bool oi]) | 8 => some (.agg #[.string os, .int .i64 ov, .int .i64 ob]) | 9 => some (.bool oi) | 10 => some (.pointer (some ⟨W0.heap.size, 0, none⟩)) | 11 => none | 12 => some (.bool oi) | _ => none) 10 11) (fun V => OB.start V) ?_ ?_
  · intro j9 o ho L9 V w9 K hI hL hdep hK
    have HI9 := Lib.hid hI
    have hJ := hI.below
    simp only [fill, slotOf, List.size_toArray, List.length_cons, List.length_nil, Nat.reduceAdd, List.getElem?_toArray, List.getElem?_cons_zero, List.getElem?_cons_succ, Option.bind_some, Act.put, List.setIfInBounds_toArray, List.set_cons_zero, List.set_cons_succ] at hK ⊢
    have hin : j9 < 13 := (Array.getElem?_eq_some_iff.1 ho).1
    have hcs : j9 = 0 ∨ j9 = 1 ∨ j9 = 2 ∨ j9 = 3 ∨ j9 = 4 ∨ j9 = 5 ∨ j9 = 6 ∨ j9 = 7 ∨ j9 = 8 ∨ j9 = 9 ∨ j9 = 10 ∨ j9 = 11 ∨ j9 = 12 := by omega
    clear hin
    rcases hcs with rfl | rfl | rfl | rfl | rfl | rfl | rfl | rfl | rfl | rfl | rfl | rfl | rfl
    · obtain rfl := Option.some.inj ho.symm
      clear hdep ho hI hL hJ
      try simp only [fill, slotOf, List.size_toArray, List.length_cons, List.length_nil, Nat.reduceAdd, List.getElem?_toArray, List.getElem?_cons_zero, List.getElem?_cons_succ, Option.bind_some, Act.put, List.setIfInBounds_toArray, List.set_cons_zero, List.set_cons_succ] at hK ⊢
      go_simp
      exact hK (.pointer (some ⟨s, 0, none⟩)) _ (HI9.out.put 0 _ (by decide) (fun v h => Option.some.inj h)) _ rfl
    · obtain rfl := Option.some.inj ho.symm
      have d0 : V 0 = .pointer (some ⟨s, 0, none⟩) := hI.val 0 _ (hdep ⟨0, .data⟩ (by simp) rfl) rfl
      clear hdep ho hI hL hJ
      try simp only [fill, slotOf, List.size_toArray, List.length_cons, List.length_nil, Nat.reduceAdd, List.getElem?_toArray, List.getElem?_cons_zero, List.getElem?_cons_succ, Option.bind_some, Act.put, List.setIfInBounds_toArray, List.set_cons_zero, List.set_cons_succ] at hK ⊢
      rw [d0] at hK ⊢
      go_simp
      exact hK (.pointer (some ⟨s, 0, none⟩)) _ (HI9.out.put 1 _ (by decide) (fun v h => Option.some.inj h)) _ rfl
    · obtain rfl := Option.some.inj ho.symm
      have d1 : V 1 = .pointer (some ⟨s, 0, none⟩) := hI.val 1 _ (hdep ⟨1, .data⟩ (by simp) rfl) rfl
      clear hdep ho hI hL hJ
      try simp only [fill, slotOf, List.size_toArray, List.length_cons, List.length_nil, Nat.reduceAdd, List.getElem?_toArray, List.getElem?_cons_zero, List.getElem?_cons_succ, Option.bind_some, Act.put, List.setIfInBounds_toArray, List.set_cons_zero, List.set_cons_succ] at hK ⊢
      rw [d1] at hK ⊢
      go_simp
      exact hK (.pointer (some ⟨s, 0, none⟩)) _ (HI9.out.put 2 _ (by decide) (fun v h => Option.some.inj h)) _ rfl
    · obtain rfl := Option.some.inj ho.symm
      have d2 : V 2 = .pointer (some ⟨s, 0, none⟩) := hI.val 2 _ (hdep ⟨2, .data⟩ (by simp) rfl) rfl
      have g9 := cell_blk2 ((hJ.block s hs0).trans HE.out.st.blk) (i := 0) (u := .map (some Mo)) rfl
      clear hdep ho hI hL hJ
      try simp only [fill, slotOf, List.size_toArray, List.length_cons, List.length_nil, Nat.reduceAdd, List.getElem?_toArray, List.getElem?_cons_zero, List.getElem?_cons_succ, Option.bind_some, Act.put, List.setIfInBounds_toArray, List.set_cons_zero, List.set_cons_succ] at hK ⊢
      rw [d2] at hK ⊢
      go_simp
      exact hK (.map (some Mo)) _ (HI9.out.put 3 _ (by decide) (fun v h => Option.some.inj h)) _ rfl
    · obtain rfl := Option.some.inj ho.symm
      clear hdep ho hI hL hJ
      try simp only [fill, slotOf, List.size_toArray, List.length_cons, List.length_nil, Nat.reduceAdd, List.getElem?_toArray, List.getElem?_cons_zero, List.getElem?_cons_succ, Option.bind_some, Act.put, List.setIfInBounds_toArray, List.set_cons_zero, List.set_cons_succ] at hK ⊢
      go_simp
      exact hK (.pointer (some ⟨w.heap.size, 1, none⟩)) _ (HI9.out.put 4 _ (by decide) (fun v h => Option.some.inj h)) _ rfl
    · obtain rfl := Option.some.inj ho.symm
      have d4 : V 4 = .pointer (some ⟨w.heap.size, 1, none⟩) := hI.val 4 _ (hdep ⟨4, .data⟩ (by simp) rfl) rfl
      have g9 := cell_blk2 ((hJ.block w.heap.size hk0).trans HE.out.cb) (i := 1) (u := .string ky) rfl
      clear hdep ho hI hL hJ
      try simp only [fill, slotOf, List.size_toArray, List.length_cons, List.length_nil, Nat.reduceAdd, List.getElem?_toArray, List.getElem?_cons_zero, List.getElem?_cons_succ, Option.bind_some, Act.put, List.setIfInBounds_toArray, List.set_cons_zero, List.set_cons_succ] at hK ⊢
      rw [d4] at hK ⊢
      go_simp
      exact hK (.string ky) _ (HI9.out.put 5 _ (by decide) (fun v h => Option.some.inj h)) _ rfl
    · obtain rfl := Option.some.inj ho.symm
      have d3 : V 3 = .map (some Mo) := hI.val 3 _ (hdep ⟨3, .data⟩ (by simp) rfl) rfl
      have d5 : V 5 = .string ky := hI.val 5 _ (hdep ⟨5, .data⟩ (by simp) rfl) rfl
      have g9 := HLA.out w9 hJ
      clear hdep ho hI hL hJ
      try simp only [fill, slotOf, List.size_toArray, List.length_cons, List.length_nil, Nat.reduceAdd, List.getElem?_toArray, List.getElem?_cons_zero, List.getElem?_cons_succ, Option.bind_some, Act.put, List.setIfInBounds_toArray, List.set_cons_zero, List.set_cons_succ] at hK ⊢
      rw [d3, d5] at hK ⊢
      go_simp
      exact hK (.tuple #[.agg #[.string os, .int .i64 ov, .int .i64 ob], .bool oi]) _ (HI9.out.put 6 _ (by decide) (fun v h => Option.some.inj h)) _ rfl
    · obtain rfl := Option.some.inj ho.symm
      have d6 : V 6 = .tuple #[.agg #[.string os, .int .i64 ov, .int .i64 ob], .bool oi] := hI.val 6 _ (hdep ⟨6, .data⟩ (by simp) rfl) rfl
      clear hdep ho hI hL hJ
      try simp only [fill, slotOf, List.size_toArray, List.length_cons, List.length_nil, Nat.reduceAdd, List.getElem?_toArray, List.getElem?_cons_zero, List.getElem?_cons_succ, Option.bind_some, Act.put, List.setIfInBounds_toArray, List.set_cons_zero, List.set_cons_succ] at hK ⊢
      rw [d6] at hK ⊢
      go_simp
      exact hK (.tuple #[.agg #[.string os, .int .i64 ov, .int .i64 ob], .bool oi]) _ (HI9.out.put 7 _ (by decide) (fun v h => Option.some.inj h)) _ rfl
    · obtain rfl := Option.some.inj ho.symm
      have d7 : V 7 = .tuple #[.agg #[.string os, .int .i64 ov, .int .i64 ob], .bool oi] := hI.val 7 _ (hdep ⟨7, .data⟩ (by simp) rfl) rfl
      clear hdep ho hI hL hJ
      try simp only [fill, slotOf, List.size_toArray, List.length_cons, List.length_nil, Nat.reduceAdd, List.getElem?_toArray, List.getElem?_cons_zero, List.getElem?_cons_succ, Option.bind_some, Act.put, List.setIfInBounds_toArray, List.set_cons_zero, List.set_cons_succ] at hK ⊢
      rw [d7] at hK ⊢
      go_simp
      exact hK (.agg #[.string os, .int .i64 ov, .int .i64 ob]) _ (HI9.out.put 8 _ (by decide) (fun v h => Option.some.inj h)) _ rfl
    · obtain rfl := Option.some.inj ho.symm
      have d7 : V 7 = .tuple #[.agg #[.string os, .int .i64 ov, .int .i64 ob], .bool oi] := hI.val 7 _ (hdep ⟨7, .data⟩ (by simp) rfl) rfl
      clear hdep ho hI hL hJ
      try simp only [fill, slotOf, List.size_toArray, List.length_cons, List.length_nil, Nat.reduceAdd, List.getElem?_toArray, List.getElem?_cons_zero, List.getElem?_cons_succ, Option.bind_some, Act.put, List.setIfInBounds_toArray, List.set_cons_zero, List.set_cons_succ] at hK ⊢
      rw [d7] at hK ⊢
      go_simp
      exact hK (.bool oi) _ (HI9.out.put 9 _ (by decide) (fun v h => Option.some.inj h)) _ rfl
    · obtain rfl := Option.some.inj ho.symm
      have HL9 := Lib.hid hL
      have e9 := hI.sa hL
      clear hdep ho hI hL hJ
      subst e9
      try simp only [fill, slotOf, List.size_toArray, List.length_cons, List.length_nil, Nat.reduceAdd, List.getElem?_toArray, List.getElem?_cons_zero, List.getElem?_cons_succ, Option.bind_some, Act.put, List.setIfInBounds_toArray, List.set_cons_zero, List.set_cons_succ] at hK ⊢
      go_simp
      exact hK (.pointer (some ⟨W0.heap.size, 0, none⟩)) _ (HI9.out.puta (by decide) HL9.out _ (fun v h => Option.some.inj h)) _ rfl
    · obtain rfl := Option.some.inj ho.symm
      have d10 : V 10 = .pointer (some ⟨W0.heap.size, 0, none⟩) := hI.val 10 _ (hdep ⟨10, .data⟩ (by simp) rfl) rfl
      have d8 : V 8 = .agg #[.string os, .int .i64 ov, .int .i64 ob] := hI.val 8 _ (hdep ⟨8, .data⟩ (by simp) rfl) rfl
      have la : L9 10 = true := hdep ⟨10, .data⟩ (by simp) rfl
      have HLA := Lib.hid la
      have e9 := hI.sb la hL
      clear hdep ho hI hL hJ la
      subst e9
      try simp only [fill, slotOf, List.size_toArray, List.length_cons, List.length_nil, Nat.reduceAdd, List.getElem?_toArray, List.getElem?_cons_zero, List.getElem?_cons_succ, Option.bind_some, Act.put, List.setIfInBounds_toArray, List.set_cons_zero, List.set_cons_succ] at hK ⊢
      rw [d10, d8] at hK ⊢
      go_simp
      exact hK undef _ (HI9.out.puts HLA.out _ (fun v h => by cases h)) _ rfl
    · obtain rfl := Option.some.inj ho.symm
      have d9 : V 9 = .bool oi := hI.val 9 _ (hdep ⟨9, .data⟩ (by simp) rfl) rfl
      clear hdep ho hI hL hJ
      try simp only [fill, slotOf, List.size_toArray, List.length_cons, List.length_nil, Nat.reduceAdd, List.getElem?_toArray, List.getElem?_cons_zero, List.getElem?_cons_succ, Option.bind_some, Act.put, List.setIfInBounds_toArray, List.set_cons_zero, List.set_cons_succ] at hK ⊢
      rw [d9] at hK ⊢
      go_simp
      exact hK (.bool oi) _ (HI9.out.put 12 _ (by decide) (fun v h => Option.some.inj h)) _ rfl
  · intro L9 V w9 hI hall
    have k10 : V 10 = .pointer (some ⟨W0.heap.size, 0, none⟩) := hI.val 10 _ (hall 10 (by decide)) rfl
    have k12 : V 12 = .bool oi := hI.val 12 _ (hall 12 (by decide)) rfl
    have e9 := hI.sc (hall 11 (by decide))
    clear hI hall
    subst e9
    simp only [fill, slotOf, List.size_toArray, List.length_cons, List.length_nil, Nat.reduceAdd, List.getElem?_toArray, List.getElem?_cons_zero, List.getElem?_cons_succ, Option.bind_some, Act.put, List.setIfInBounds_toArray, List.set_cons_zero, List.set_cons_succ]
    rw [k10, k12]
    clear k10 k12
    obtain ⟨W1, hW1⟩ : ∃ W1, W1 = (W0.alloc (.cells #[.string os, .int .i64 ov, .int .i64 ob] 65)).drew := ⟨_, rfl⟩
    have M1 := Lib.hid (md_mk HE.out #[.string os, .int .i64 ov, .int .i64 ob] 65)
    rw [← hW1] at M1
    rw [← hW1]
    rw [ez0.out]
    clear hW1 HE hk0 hr0 hs0 ez0 HLA
    cases oi with
    | false =>
      have HE0 := Lib.hid (show objOf σ ky = none from by
        have h1 := HOI.out
        unfold objOf
        cases hg : getK slit ky σ.objs with
        | none => rfl
        | some x => rw [hg] at h1; cases h1)
      go_wp2_with fail
      refine (failed_any _ _).mono ?_
      rintro e W9 ⟨rfl, hb9⟩
      have M9 := Lib.hid (M1.out.kept hb9)
      clear hb9
      obtain ⟨⟨q0, q1, q2, q3, q4, q5, q6⟩, r0, r1, r2, r3, r4, r5, r6⟩ := rb_cells M9.out.rb
      unfold rep0
      go_wp2_with fail
      clear q0 q1 q2 q3 q4 q5 q6 r0 r1 r2 r3 r4 r5 r6
      obtain ⟨W5, hW5⟩ : ∃ W5, W5 = setR W9 (w.heap.size + 1) (.int .i64 7) (.slice none 0 0) (.int .i64 0) (.int .i64 0) (.int .i64 0) (.slice none 0 0) (.bool false) := ⟨_, rfl⟩
      have hr5 := setR_at0 M9.out.rb (.int .i64 7) (.slice none 0 0) (.int .i64 0) (.int .i64 0) (.int .i64 0) (.slice none 0 0) (.bool false)
      have Z := M9.out.done HL.out (fun b hb => HF.out b hb) (.int .i64 7) (.slice none 0 0) (.int .i64 0) (.int .i64 0) (.int .i64 0) (.slice none 0 0) (.bool false)
      rw [← hW5] at hr5 Z
      unfold setR at hW5
      rw [← hW5]
      refine bodyPost_ret (ret_rep rfl _ _ (w.heap.size + 1) rfl hr5) rfl ?_
      exact GetSays.no HE0.out Z

    | true =>
      have HE0 := Lib.hid (show objOf σ ky = some ⟨os, ov, ob⟩ from by
        rw [HOV.out]
        exact objOf_some (by have := HOS.out; exact this) HOI.out.symm)
      have o0 := cell_blk2 M1.out.ob (i := 0) (u := .string os) rfl
      obtain ⟨W2, cp, hcv, hby, hbe, hlt2⟩ := bytes_made W1 os (by have := HOL.out; omega)
      have M2 := Lib.hid (M1.out.kept hbe)
      have o1 := cell_blk2 M2.out.ob (i := 1) (u := .int .i64 ov) rfl
      have o2 := cell_blk2 M2.out.ob (i := 2) (u := .int .i64 ob) rfl
      have HBY := Lib.hid hby
      have HG := Lib.hid (show w.heap.size + 2 < W1.heap.size from (Array.getElem?_eq_some_iff.1 M1.out.ob).1)
      clear hby hbe hlt2
      obtain ⟨⟨q0, q1, q2, q3, q4, q5, q6⟩, r0, r1, r2, r3, r4, r5, r6⟩ := rb_cells M2.out.rb

      go_wp2_with fail
      clear o0 o1 o2 hcv
      clear q0 q1 q2 q3 q4 q5 q6 r0 r1 r2 r3 r4 r5 r6
      obtain ⟨W5, hW5⟩ : ∃ W5, W5 = setR W2 (w.heap.size + 1) (.int .i64 0) (.slice (some ⟨W1.heap.size, 0, none⟩) os.size cp) (.int .i64 ov) (.int .i64 ob) (.int .i64 0) (.slice none 0 0) (.bool false) := ⟨_, rfl⟩
      have hr5 := setR_at0 M2.out.rb (.int .i64 0) (.slice (some ⟨W1.heap.size, 0, none⟩) os.size cp) (.int .i64 ov) (.int .i64 ob) (.int .i64 0) (.slice none 0 0) (.bool false)
      have Z := M2.out.done HL.out (fun b hb => HF.out b hb) (.int .i64 0) (.slice (some ⟨W1.heap.size, 0, none⟩) os.size cp) (.int .i64 ov) (.int .i64 ob) (.int .i64 0) (.slice none 0 0) (.bool false)
      rw [← hW5] at hr5 Z
      unfold setR at hW5
      rw [← hW5]
      refine bodyPost_ret (ret_rep rfl _ _ (w.heap.size + 1) rfl hr5) rfl ?_
      have HB5 := bytes_setR (R := w.heap.size + 1) HBY.out (fun b off e => by cases e; have := HG.out; omega) (.int .i64 0) (.slice (some ⟨W1.heap.size, 0, none⟩) os.size cp) (.int .i64 ov) (.int .i64 ob) (.int .i64 0) (.slice none 0 0) (.bool false)
      unfold setR at HB5
      rw [← hW5] at HB5
      exact GetSays.yes HE0.out (by have := HG.out; omega) HB5 Z
end Go.Proofs.Ytjafagfhkpaciaa
