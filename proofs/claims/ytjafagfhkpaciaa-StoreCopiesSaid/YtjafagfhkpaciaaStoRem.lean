/- The store's remove, walked. Written by genstorem.py. -/
import Derived.Test.YtjafagfhkpaciaaStoGet
import Derived.Test.YtjafagfhkpaciaaStoAbt
import Derived.Test.YtjafagfhkpaciaaOneBox
namespace Go.Proofs.Ytjafagfhkpaciaa
open Go.RowKit
set_option linter.unusedVariables false

def remS (σ : Sto) (k : ByteArray) : Sto := { σ with size := σ.size - (oldLen σ k : Int), objs := dropK slit k σ.objs }
def RemSays (w : World) (s Mo Mu : Nat) (σ : Sto) (ky : ByteArray) (e : Ending) (w' : World) : Prop :=
  match objOf σ ky with
  | none => e = .returned (rep0 7) ∧ StAt w' s Mo Mu σ ∧ Below w.heap.size w w'
  | some o => e = .returned (rep0 0) ∧ StAt w' s Mo Mu (remS σ ky) ∧ Frm (StF s Mo Mu σ) w w'
theorem RemSays.no {w w' : World} {s Mo Mu : Nat} {σ : Sto} {ky : ByteArray} (h : objOf σ ky = none) (Z : StAt w' s Mo Mu σ ∧ Below w.heap.size w w') : RemSays w s Mo Mu σ ky (.returned (rep0 7)) w' := by
  unfold RemSays; rw [h]; exact ⟨rfl, Z.1, Z.2⟩
theorem RemSays.yes {w w' : World} {s Mo Mu : Nat} {σ : Sto} {ky : ByteArray} {o : ObjS} (h : objOf σ ky = some o) (Z : StAt w' s Mo Mu (remS σ ky) ∧ Frm (StF s Mo Mu σ) w w') : RemSays w s Mo Mu σ ky (.returned (rep0 0)) w' := by
  unfold RemSays; rw [h]; exact ⟨rfl, Z.1, Z.2⟩
set_option maxRecDepth 100000 in
set_option maxHeartbeats 4000000 in
theorem remove_any {w : World} {s Mo Mu : Nat} {σ : Sto} (h : StAt w s Mo Mu σ) {ki vr at_ nn id : Int} {ky : ByteArray} {a : Option Addr} {n c : Nat} (hk : ky.size ≤ 1000000000000000) (ho : oldLen σ ky ≤ 262144) (hz : 0 ≤ σ.size ∧ σ.size ≤ 4194304) :
    Calls Try.prog 27 #[.pointer (some ⟨s, 0, none⟩), .agg #[.int .i64 ki, .string ky, .slice a n c, .int .i64 vr, .int .i64 at_, .int .i64 nn, .int .i64 id]] w (RemSays w s Mo Mu σ ky) := by
  have HE := Lib.hid (ent_mk h #[.int .i64 ki, .string ky, .slice a n c, .int .i64 vr, .int .i64 at_, .int .i64 nn, .int .i64 id])
  have HL := Lib.hid h.lts
  have HF := Lib.hid (show ∀ b, StF s Mo Mu σ b → b < w.heap.size from fun b hb => h.lt hb)
  have HS := Lib.hid h
  clear h
  go_enter Try.func27, Try.ntmps27
  go_wp2_with fail
  obtain ⟨W0, hW0⟩ : ∃ W0, W0 = (w.alloc (.cells #[.int .i64 ki, .string ky, .slice a n c, .int .i64 vr, .int .i64 at_, .int .i64 nn, .int .i64 id] 29)).alloc (.cells zrep 35) := ⟨_, rfl⟩
  rw [← hW0] at HE
  unfold zrep at hW0
  rw [← hW0]
  clear hW0
  have hk0 : w.heap.size < W0.heap.size := by have := HE.out.sz; omega
  have hr0 : w.heap.size + 1 < W0.heap.size := by have := HE.out.sz; omega
  have hs0 := HE.out.st.lts
  have ez0 := Lib.hid HE.out.sz
  obtain ⟨os, ob, hos, hol⟩ := field_obj2 σ ky
  obtain ⟨ov, hov⟩ : ∃ ov, ov = oldVer σ ky := ⟨_, rfl⟩
  obtain ⟨oi, hoi⟩ : ∃ oi, oi = (getK slit ky σ.objs).isSome := ⟨_, rfl⟩
  have HOS := Lib.hid hos
  have HLA := Lib.hid (show ∀ w9, Below W0.heap.size W0 w9 → (Instr.lookup 58 (.map (some Mo)) (.string ky) true).run Try.prog w9 = .ok (.tuple #[.agg #[.string os, .int .i64 ov, .int .i64 ob], .bool oi]) w9 from fun w9 h9 => by
    have h8 := lookO2 (HE.out.st.obj.below h9) ky hk
    rw [hos, ← hoi, ← hov] at h8
    exact h8)
  have HOL := Lib.hid hol
  have HOI := Lib.hid hoi
  have HOV := Lib.hid hov
  clear hos hol hoi hov
  refine wp_region_inv (by kernel_rfl) (by kernel_rfl) (by kernel_rfl) (OB W0 (.cells #[.string { data := #[] }, .int .i64 0, .int .i64 0] 65) (.cells #[.string os, .int .i64 ov, .int .i64 ob] 65) (fun j_9 => match j_9 with | 0 => some (.pointer (some ⟨s, 0, none⟩)) | 1 => some (.pointer (some ⟨s, 0, none⟩)) | 2 => some (.pointer (some ⟨s, 0, none⟩)) | 3 => some (.map (some Mo)) | 4 => some (.pointer (some ⟨w.heap.size, 1, none⟩)) | 5 => some (.string ky) | 6 => some (.tuple #[.agg #[.string os, .int .i64 ov, .int .i64 ob], .bool oi]) | 7 => some (.tuple #[.agg #[.string os, .int .i64 ov, .int .i64 ob], .bool oi]) | 8 => some (.agg #[.string os, .int .i64 ov, .int .i64 ob]) | 9 => some (.bool oi) | 10 => some (.pointer (some ⟨W0.heap.size, 0, none⟩)) | 11 => none | 12 => some (.bool oi) | _ => none) 10 11) (fun V => OB.start V) ?_ ?_
  · intro j9 o ho L9 V w9 K hI hL hdep hK
    have HI9 := Lib.hid hI
    have hJ := hI.below
    simp only [fill, slotOf, List.size_toArray, List.length_cons, List.length_nil, Nat.reduceAdd, List.getElem?_toArray, List.getElem?_cons_zero, List.getElem?_cons_succ, Option.bind_some, Act.put, List.setIfInBounds_toArray, List.set_cons_zero, List.set_cons_succ] at hK ⊢
    have hin : j9 < 13 := (Array.getElem?_eq_some_iff.1 ho).1
    have hcs : j9 = 0 ∨ j9 = 1 ∨ j9 = 2 ∨ j9 = 3 ∨ j9 = 4 ∨ j9 = 5 ∨ j9 = 6 ∨ j9 = 7 ∨ j9 = 8 ∨ j9 = 9 ∨ j9 = 10 ∨ j9 = 11 ∨ j9 = 12 := by omega
    clear hin
    rcases hcs with rfl | rfl | rfl | rfl | rfl | rfl | rfl | rfl | rfl | rfl | rfl | rfl | rfl
    · obtain rfl := Option.some.inj ho.symm
      clear hdep ho hI hL hJ
      try simp only [fill, slotOf, List.size_toArray, List.length_cons, List.length_nil, Nat.reduceAdd, List.getElem?_toArray, List.getElem?_cons_zero, List.getElem?_cons_succ, Option.bind_some, Act.put, List.setIfInBounds_toArray, List.set_cons_zero, List.set_cons_succ] at hK ⊢
      go_simp
      exact hK (.pointer (some ⟨s, 0, none⟩)) _ (HI9.out.put 0 _ (by decide) (fun v h => Option.some.inj h)) _ rfl
    · obtain rfl := Option.some.inj ho.symm
      have d0 : V 0 = .pointer (some ⟨s, 0, none⟩) := hI.val 0 _ (hdep ⟨0, .data⟩ (by simp) rfl) rfl
      clear hdep ho hI hL hJ
      try simp only [fill, slotOf, List.size_toArray, List.length_cons, List.length_nil, Nat.reduceAdd, List.getElem?_toArray, List.getElem?_cons_zero, List.getElem?_cons_succ, Option.bind_some, Act.put, List.setIfInBounds_toArray, List.set_cons_zero, List.set_cons_succ] at hK ⊢
      rw [d0] at hK ⊢
      go_simp
      exact hK (.pointer (some ⟨s, 0, none⟩)) _ (HI9.out.put 1 _ (by decide) (fun v h => Option.some.inj h)) _ rfl
    · obtain rfl := Option.some.inj ho.symm
      have d1 : V 1 = .pointer (some ⟨s, 0, none⟩) := hI.val 1 _ (hdep ⟨1, .data⟩ (by simp) rfl) rfl
      clear hdep ho hI hL hJ
      try simp only [fill, slotOf, List.size_toArray, List.length_cons, List.length_nil, Nat.reduceAdd, List.getElem?_toArray, List.getElem?_cons_zero, List.getElem?_cons_succ, Option.bind_some, Act.put, List.setIfInBounds_toArray, List.set_cons_zero, List.set_cons_succ] at hK ⊢
      rw [d1] at hK ⊢
      go_simp
      exact hK (.pointer (some ⟨s, 0, none⟩)) _ (HI9.out.put 2 _ (by decide) (fun v h => Option.some.inj h)) _ rfl
    · obtain rfl := Option.some.inj ho.symm
      have d2 : V 2 = .pointer (some ⟨s, 0, none⟩) := hI.val 2 _ (hdep ⟨2, .data⟩ (by simp) rfl) rfl
      have g9 := cell_blk2 ((hJ.block s hs0).trans HE.out.st.blk) (i := 0) (u := .map (some Mo)) rfl
      clear hdep ho hI hL hJ
      try simp only [fill, slotOf, List.size_toArray, List.length_cons, List.length_nil, Nat.reduceAdd, List.getElem?_toArray, List.getElem?_cons_zero, List.getElem?_cons_succ, Option.bind_some, Act.put, List.setIfInBounds_toArray, List.set_cons_zero, List.set_cons_succ] at hK ⊢
      rw [d2] at hK ⊢
      go_simp
      exact hK (.map (some Mo)) _ (HI9.out.put 3 _ (by decide) (fun v h => Option.some.inj h)) _ rfl
    · obtain rfl := Option.some.inj ho.symm
      clear hdep ho hI hL hJ
      try simp only [fill, slotOf, List.size_toArray, List.length_cons, List.length_nil, Nat.reduceAdd, List.getElem?_toArray, List.getElem?_cons_zero, List.getElem?_cons_succ, Option.bind_some, Act.put, List.setIfInBounds_toArray, List.set_cons_zero, List.set_cons_succ] at hK ⊢
      go_simp
      exact hK (.pointer (some ⟨w.heap.size, 1, none⟩)) _ (HI9.out.put 4 _ (by decide) (fun v h => Option.some.inj h)) _ rfl
    · obtain rfl := Option.some.inj ho.symm
      have d4 : V 4 = .pointer (some ⟨w.heap.size, 1, none⟩) := hI.val 4 _ (hdep ⟨4, .data⟩ (by simp) rfl) rfl
      have g9 := cell_blk2 ((hJ.block w.heap.size hk0).trans HE.out.cb) (i := 1) (u := .string ky) rfl
      clear hdep ho hI hL hJ
      try simp only [fill, slotOf, List.size_toArray, List.length_cons, List.length_nil, Nat.reduceAdd, List.getElem?_toArray, List.getElem?_cons_zero, List.getElem?_cons_succ, Option.bind_some, Act.put, List.setIfInBounds_toArray, List.set_cons_zero, List.set_cons_succ] at hK ⊢
      rw [d4] at hK ⊢
      go_simp
      exact hK (.string ky) _ (HI9.out.put 5 _ (by decide) (fun v h => Option.some.inj h)) _ rfl
    · obtain rfl := Option.some.inj ho.symm
      have d3 : V 3 = .map (some Mo) := hI.val 3 _ (hdep ⟨3, .data⟩ (by simp) rfl) rfl
      have d5 : V 5 = .string ky := hI.val 5 _ (hdep ⟨5, .data⟩ (by simp) rfl) rfl
      have g9 := HLA.out w9 hJ
      clear hdep ho hI hL hJ
      try simp only [fill, slotOf, List.size_toArray, List.length_cons, List.length_nil, Nat.reduceAdd, List.getElem?_toArray, List.getElem?_cons_zero, List.getElem?_cons_succ, Option.bind_some, Act.put, List.setIfInBounds_toArray, List.set_cons_zero, List.set_cons_succ] at hK ⊢
      rw [d3, d5] at hK ⊢
      go_simp
      exact hK (.tuple #[.agg #[.string os, .int .i64 ov, .int .i64 ob], .bool oi]) _ (HI9.out.put 6 _ (by decide) (fun v h => Option.some.inj h)) _ rfl
    · obtain rfl := Option.some.inj ho.symm
      have d6 : V 6 = .tuple #[.agg #[.string os, .int .i64 ov, .int .i64 ob], .bool oi] := hI.val 6 _ (hdep ⟨6, .data⟩ (by simp) rfl) rfl
      clear hdep ho hI hL hJ
      try simp only [fill, slotOf, List.size_toArray, List.length_cons, List.length_nil, Nat.reduceAdd, List.getElem?_toArray, List.getElem?_cons_zero, List.getElem?_cons_succ, Option.bind_some, Act.put, List.setIfInBounds_toArray, List.set_cons_zero, List.set_cons_succ] at hK ⊢
      rw [d6] at hK ⊢
      go_simp
      exact hK (.tuple #[.agg #[.string os, .int .i64 ov, .int .i64 ob], .bool oi]) _ (HI9.out.put 7 _ (by decide) (fun v h => Option.some.inj h)) _ rfl
    · obtain rfl := Option.some.inj ho.symm
      have d7 : V 7 = .tuple #[.agg #[.string os, .int .i64 ov, .int .i64 ob], .bool oi] := hI.val 7 _ (hdep ⟨7, .data⟩ (by simp) rfl) rfl
      clear hdep ho hI hL hJ
      try simp only [fill, slotOf, List.size_toArray, List.length_cons, List.length_nil, Nat.reduceAdd, List.getElem?_toArray, List.getElem?_cons_zero, List.getElem?_cons_succ, Option.bind_some, Act.put, List.setIfInBounds_toArray, List.set_cons_zero, List.set_cons_succ] at hK ⊢
      rw [d7] at hK ⊢
      go_simp
      exact hK (.agg #[.string os, .int .i64 ov, .int .i64 ob]) _ (HI9.out.put 8 _ (by decide) (fun v h => Option.some.inj h)) _ rfl
    · obtain rfl := Option.some.inj ho.symm
      have d7 : V 7 = .tuple #[.agg #[.string os, .int .i64 ov, .int .i64 ob], .bool oi] := hI.val 7 _ (hdep ⟨7, .data⟩ (by simp) rfl) rfl
      clear hdep ho hI hL hJ
      try simp only [fill, slotOf, List.size_toArray, List.length_cons, List.length_nil, Nat.reduceAdd, List.getElem?_toArray, List.getElem?_cons_zero, List.getElem?_cons_succ, Option.bind_some, Act.put, List.setIfInBounds_toArray, List.set_cons_zero, List.set_cons_succ] at hK ⊢
      rw [d7] at hK ⊢
      go_simp
      exact hK (.bool oi) _ (HI9.out.put 9 _ (by decide) (fun v h => Option.some.inj h)) _ rfl
    · obtain rfl := Option.some.inj ho.symm
      have HL9 := Lib.hid hL
      have e9 := hI.sa hL
      clear hdep ho hI hL hJ
      subst e9
      try simp only [fill, slotOf, List.size_toArray, List.length_cons, List.length_nil, Nat.reduceAdd, List.getElem?_toArray, List.getElem?_cons_zero, List.getElem?_cons_succ, Option.bind_some, Act.put, List.setIfInBounds_toArray, List.set_cons_zero, List.set_cons_succ] at hK ⊢
      go_simp
      exact hK (.pointer (some ⟨W0.heap.size, 0, none⟩)) _ (HI9.out.puta (by decide) HL9.out _ (fun v h => Option.some.inj h)) _ rfl
    · obtain rfl := Option.some.inj ho.symm
      have d10 : V 10 = .pointer (some ⟨W0.heap.size, 0, none⟩) := hI.val 10 _ (hdep ⟨10, .data⟩ (by simp) rfl) rfl
      have d8 : V 8 = .agg #[.string os, .int .i64 ov, .int .i64 ob] := hI.val 8 _ (hdep ⟨8, .data⟩ (by simp) rfl) rfl
      have la : L9 10 = true := hdep ⟨10, .data⟩ (by simp) rfl
      have HLA := Lib.hid la
      have e9 := hI.sb la hL
      clear hdep ho hI hL hJ la
      subst e9
      try simp only [fill, slotOf, List.size_toArray, List.length_cons, List.length_nil, Nat.reduceAdd, List.getElem?_toArray, List.getElem?_cons_zero, List.getElem?_cons_succ, Option.bind_some, Act.put, List.setIfInBounds_toArray, List.set_cons_zero, List.set_cons_succ] at hK ⊢
      rw [d10, d8] at hK ⊢
      go_simp
      exact hK undef _ (HI9.out.puts HLA.out _ (fun v h => by cases h)) _ rfl
    · obtain rfl := Option.some.inj ho.symm
      have d9 : V 9 = .bool oi := hI.val 9 _ (hdep ⟨9, .data⟩ (by simp) rfl) rfl
      clear hdep ho hI hL hJ
      try simp only [fill, slotOf, List.size_toArray, List.length_cons, List.length_nil, Nat.reduceAdd, List.getElem?_toArray, List.getElem?_cons_zero, List.getElem?_cons_succ, Option.bind_some, Act.put, List.setIfInBounds_toArray, List.set_cons_zero, List.set_cons_succ] at hK ⊢
      rw [d9] at hK ⊢
      go_simp
      exact hK (.bool oi) _ (HI9.out.put 12 _ (by decide) (fun v h => Option.some.inj h)) _ rfl
  · intro L9 V w9 hI hall
    have k10 : V 10 = .pointer (some ⟨W0.heap.size, 0, none⟩) := hI.val 10 _ (hall 10 (by decide)) rfl
    have k12 : V 12 = .bool oi := hI.val 12 _ (hall 12 (by decide)) rfl
    have e9 := hI.sc (hall 11 (by decide))
    clear hI hall
    subst e9
    simp only [fill, slotOf, List.size_toArray, List.length_cons, List.length_nil, Nat.reduceAdd, List.getElem?_toArray, List.getElem?_cons_zero, List.getElem?_cons_succ, Option.bind_some, Act.put, List.setIfInBounds_toArray, List.set_cons_zero, List.set_cons_succ]
    rw [k10, k12]
    clear k10 k12
    obtain ⟨W1, hW1⟩ : ∃ W1, W1 = (W0.alloc (.cells #[.string os, .int .i64 ov, .int .i64 ob] 65)).drew := ⟨_, rfl⟩
    have M1 := Lib.hid (md_mk HE.out #[.string os, .int .i64 ov, .int .i64 ob] 65)
    rw [← hW1] at M1
    rw [← hW1]
    rw [ez0.out]
    clear hW1 HE hk0 hr0 hs0 ez0 HLA
    cases oi with
    | false =>
      have HE0 := Lib.hid (show objOf σ ky = none from by
        have h1 := HOI.out
        unfold objOf
        cases hg : getK slit ky σ.objs with
        | none => rfl
        | some x => rw [hg] at h1; cases h1)
      go_wp2_with fail
      refine (failed_any _ _).mono ?_
      rintro e W9 ⟨rfl, hb9⟩
      have M9 := Lib.hid (M1.out.kept hb9)
      clear hb9
      obtain ⟨⟨q0, q1, q2, q3, q4, q5, q6⟩, r0, r1, r2, r3, r4, r5, r6⟩ := rb_cells M9.out.rb
      unfold rep0
      go_wp2_with fail
      clear q0 q1 q2 q3 q4 q5 q6 r0 r1 r2 r3 r4 r5 r6
      obtain ⟨W5, hW5⟩ : ∃ W5, W5 = setR W9 (w.heap.size + 1) (.int .i64 7) (.slice none 0 0) (.int .i64 0) (.int .i64 0) (.int .i64 0) (.slice none 0 0) (.bool false) := ⟨_, rfl⟩
      have hr5 := setR_at0 M9.out.rb (.int .i64 7) (.slice none 0 0) (.int .i64 0) (.int .i64 0) (.int .i64 0) (.slice none 0 0) (.bool false)
      have Z := M9.out.done HL.out (fun b hb => HF.out b hb) (.int .i64 7) (.slice none 0 0) (.int .i64 0) (.int .i64 0) (.int .i64 0) (.slice none 0 0) (.bool false)
      rw [← hW5] at hr5 Z
      unfold setR at hW5
      rw [← hW5]
      refine bodyPost_ret (ret_rep rfl _ _ (w.heap.size + 1) rfl hr5) rfl ?_
      exact RemSays.no HE0.out Z

    | true =>
      have HE0 := Lib.hid (show objOf σ ky = some ⟨os, ov, ob⟩ from by
        rw [HOV.out]
        exact objOf_some (by have := HOS.out; exact this) HOI.out.symm)
      have hle : oldLen σ ky = os.size := by unfold oldLen; rw [HE0.out]
      have o0 := cell_blk2 M1.out.ob (i := 0) (u := .string os) rfl
      have c4 := cell_blk2 M1.out.st.blk (i := 4) (u := .int .i64 σ.size) rfl
      have f4 := fro_blk2 M1.out.st.blk 4
      have ws : IntKind.i64.wrap (σ.size - (os.size : Int)) = σ.size - (os.size : Int) := IntWalk.i64_in _ (by omega)
      have HLE := Lib.hid hle
      clear hle
      go_wp2_with fail
      go_region
      clear o0 c4 f4 ws
      go_wp2_with fail
      obtain ⟨W2, hW2⟩ : ∃ W2, W2 = (W1.setCell ⟨s, 4, none⟩ (.int .i64 (σ.size - (os.size : Int)))).drew := ⟨_, rfl⟩
      rw [← hW2]
      have hF2 : Frm (fun b => b = s) W1 W2 := by rw [hW2]; exact ((Frm.refl (fun b => b = s) W1).set (p := s) (.inl rfl) 4 _).drew
      have hb2 : W2.heap[s]? = some (.cells (stC Mo Mu (remS σ ky)) 61 (0, 0)) := by
        rw [hW2]
        have h1 := heap_setCell_same W1 s 4 _ _ (.int .i64 (σ.size - (os.size : Int))) M1.out.st.blk
        rw [← HLE.out] at h1
        rw [← HLE.out]
        exact h1
      have hg2 : GM TO slit objC W2 Mo σ.objs := M1.out.st.obj.same (hF2.block Mo M1.out.st.obj.lt (fun e => M1.out.st.neS.1 e.symm))
      obtain ⟨w3, hrun, g3, ht3⟩ := dropO hg2.drew ky hk 0
      have c0 := cell_blk2 hb2 (i := 0) (u := .map (some Mo)) rfl
      have hsl : s < w.heap.size := HF.out s (.inl rfl)
      have hk2 : W2.heap[w.heap.size]? = some (.cells #[.int .i64 ki, .string ky, .slice a n c, .int .i64 vr, .int .i64 at_, .int .i64 nn, .int .i64 id] 29 (0, 0)) := hF2.at M1.out.cb (by omega)
      have k1 := cell_blk2 hk2 (i := 1) (u := .string ky) rfl
      have HW2 := Lib.hid hW2
      have HF2 := Lib.hid hF2
      have HB2 := Lib.hid hb2
      have HG3 := Lib.hid g3
      have HT3 := Lib.hid ht3
      clear hW2 hF2 hb2 hg2 g3 ht3 hk2
      go_region
      clear hrun c0 k1
      have hF3 : Frm (fun b => b = s ∨ b = Mo) W1 w3 := (HF2.out.imp (fun i e => Or.inl e)).drew.turned (.inl (.inr rfl)) HT3.out
      have hMl : Mo < w.heap.size := HF.out Mo (.inr (.inl rfl))
      have hb3 : w3.heap[s]? = some (.cells (stC Mo Mu (remS σ ky)) 61 (0, 0)) :=
        (HT3.out.grown.block s (Array.getElem?_eq_some_iff.1 HB2.out).1 (fun e => M1.out.st.neS.1 (Option.some.inj e))).trans HB2.out
      have hst3 : StAt w3 s Mo Mu (remS σ ky) := M1.out.st.obj' hF3 hb3 HG3.out rfl
      have hrb3 : w3.heap[w.heap.size + 1]? = some (.cells zrep 35 (0, 0)) := hF3.at M1.out.rb (fun e => by rcases e with e | e <;> omega)
      have hfr3 : Frm (StF s Mo Mu σ) W1 w3 := hF3.imp (fun i e => e.elim (fun g => .inl g) (fun g => .inr (.inl g)))
      have HST := Lib.hid hst3
      have HFR := Lib.hid hfr3
      have HRB := Lib.hid hrb3
      obtain ⟨⟨q0, q1, q2, q3, q4, q5, q6⟩, r0, r1, r2, r3, r4, r5, r6⟩ := rb_cells hrb3
      clear hF3 hb3 hst3 hrb3 hfr3
      go_wp2_with fail
      clear q0 q1 q2 q3 q4 q5 q6 r0 r1 r2 r3 r4 r5 r6
      obtain ⟨W5, hW5⟩ : ∃ W5, W5 = setR w3 (w.heap.size + 1) (.int .i64 0) (.slice none 0 0) (.int .i64 0) (.int .i64 0) (.int .i64 0) (.slice none 0 0) (.bool false) := ⟨_, rfl⟩
      have hr5 := setR_at0 HRB.out (.int .i64 0) (.slice none 0 0) (.int .i64 0) (.int .i64 0) (.int .i64 0) (.slice none 0 0) (.bool false)
      have hF5 := (Frm.refl (fun b => b = w.heap.size + 1) w3).setR (R := w.heap.size + 1) (.inl rfl) (.int .i64 0) (.slice none 0 0) (.int .i64 0) (.int .i64 0) (.int .i64 0) (.slice none 0 0) (.bool false)
      rw [← hW5] at hr5 hF5
      unfold setR at hW5
      rw [← hW5]
      have Z := end_frm HST.out HFR.out M1.out.bel hF5 (fun b hb => HF.out b hb)
      refine bodyPost_ret (ret_rep rfl _ _ (w.heap.size + 1) rfl hr5) rfl ?_
      exact RemSays.yes HE0.out Z
end Go.Proofs.Ytjafagfhkpaciaa
