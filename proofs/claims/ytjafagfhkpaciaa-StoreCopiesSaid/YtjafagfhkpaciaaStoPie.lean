/- The store's piece, walked. Written by genstopie.py. -/
import Derived.Test.YtjafagfhkpaciaaStoGet
import Derived.Test.YtjafagfhkpaciaaStoAbt
import Derived.Test.YtjafagfhkpaciaaOneBox
namespace Go.Proofs.Ytjafagfhkpaciaa
open Go.RowKit
set_option linter.unusedVariables false

def pieE (σ : Sto) (ky : ByteArray) (at_ nn : Int) : Int :=
  match objOf σ ky with
  | none => 7
  | some o => if at_ < 0 ∨ nn < 0 ∨ (o.data.size : Int) < at_ ∨ (o.data.size : Int) - at_ < nn then 2 else 0
def subP (o : ObjS) (at_ nn : Int) : ByteArray := o.data.extract at_.toNat (at_ + nn).toNat
def PieSays (w : World) (s Mo Mu : Nat) (σ : Sto) (ky : ByteArray) (at_ nn : Int) (e : Ending) (w' : World) : Prop :=
  StAt w' s Mo Mu σ ∧ Below w.heap.size w w' ∧ (pieE σ ky at_ nn ≠ 0 → e = .returned (rep0 (pieE σ ky at_ nn))) ∧
  (pieE σ ky at_ nn = 0 → ∃ o g m c, objOf σ ky = some o ∧ e = .returned (rep 0 (.slice (some ⟨g, 0, none⟩) m c) o.ver o.born 0 (.slice none 0 0) false) ∧ w.heap.size ≤ g ∧ (m : Int) = nn ∧ BytesAt w' (some ⟨g, 0, none⟩) m c (numsOf (subP o at_ nn)))
theorem PieSays.no {w w' : World} {s Mo Mu : Nat} {σ : Sto} {ky : ByteArray} {at_ nn x : Int} (h : pieE σ ky at_ nn = x) (hx : x ≠ 0) (Z : StAt w' s Mo Mu σ ∧ Below w.heap.size w w') : PieSays w s Mo Mu σ ky at_ nn (.returned (rep0 x)) w' := by
  subst h
  exact ⟨Z.1, Z.2, fun _ => rfl, fun e => absurd e hx⟩
theorem PieSays.yes {w w' : World} {s Mo Mu : Nat} {σ : Sto} {ky : ByteArray} {at_ nn : Int} {o : ObjS} {g m c : Nat} (ho : objOf σ ky = some o) (h : pieE σ ky at_ nn = 0) (hg : w.heap.size ≤ g) (hm : (m : Int) = nn) (hb : BytesAt w' (some ⟨g, 0, none⟩) m c (numsOf (subP o at_ nn))) (Z : StAt w' s Mo Mu σ ∧ Below w.heap.size w w') : PieSays w s Mo Mu σ ky at_ nn (.returned (rep 0 (.slice (some ⟨g, 0, none⟩) m c) o.ver o.born 0 (.slice none 0 0) false)) w' :=
  ⟨Z.1, Z.2, fun e => absurd h e, fun _ => ⟨o, g, m, c, ho, rfl, hg, hm, hb⟩⟩
set_option maxRecDepth 100000 in
set_option maxHeartbeats 4000000 in
theorem piece_any {w : World} {s Mo Mu : Nat} {σ : Sto} (h : StAt w s Mo Mu σ) {ki vr at_ nn id : Int} {ky : ByteArray} {a : Option Addr} {n c : Nat} (hk : ky.size ≤ 1000000000000000) (ho : oldLen σ ky ≤ 262144) :
    Calls Try.prog 25 #[.pointer (some ⟨s, 0, none⟩), .agg #[.int .i64 ki, .string ky, .slice a n c, .int .i64 vr, .int .i64 at_, .int .i64 nn, .int .i64 id]] w (PieSays w s Mo Mu σ ky at_ nn) := by
  have HE := Lib.hid (ent_mk h #[.int .i64 ki, .string ky, .slice a n c, .int .i64 vr, .int .i64 at_, .int .i64 nn, .int .i64 id])
  have HL := Lib.hid h.lts
  have HF := Lib.hid (show ∀ b, StF s Mo Mu σ b → b < w.heap.size from fun b hb => h.lt hb)
  have HS := Lib.hid h
  clear h
  go_enter Try.func25, Try.ntmps25
  go_wp2_with fail
  obtain ⟨W0, hW0⟩ : ∃ W0, W0 = (w.alloc (.cells #[.int .i64 ki, .string ky, .slice a n c, .int .i64 vr, .int .i64 at_, .int .i64 nn, .int .i64 id] 29)).alloc (.cells zrep 35) := ⟨_, rfl⟩
  rw [← hW0] at HE
  unfold zrep at hW0
  rw [← hW0]
  clear hW0
  have hk0 : w.heap.size < W0.heap.size := by have := HE.out.sz; omega
  have hr0 : w.heap.size + 1 < W0.heap.size := by have := HE.out.sz; omega
  have hs0 := HE.out.st.lts
  have ez0 := Lib.hid HE.out.sz
  obtain ⟨os, ob, hos, hol⟩ := field_obj2 σ ky
  obtain ⟨ov, hov⟩ : ∃ ov, ov = oldVer σ ky := ⟨_, rfl⟩
  obtain ⟨oi, hoi⟩ : ∃ oi, oi = (getK slit ky σ.objs).isSome := ⟨_, rfl⟩
  have HOS := Lib.hid hos
  have HLA := Lib.hid (show ∀ w9, Below W0.heap.size W0 w9 → (Instr.lookup 58 (.map (some Mo)) (.string ky) true).run Try.prog w9 = .ok (.tuple #[.agg #[.string os, .int .i64 ov, .int .i64 ob], .bool oi]) w9 from fun w9 h9 => by
    have h8 := lookO2 (HE.out.st.obj.below h9) ky hk
    rw [hos, ← hoi, ← hov] at h8
    exact h8)
  have HOL := Lib.hid hol
  have HOI := Lib.hid hoi
  have HOV := Lib.hid hov
  clear hos hol hoi hov
  refine wp_region_inv (by kernel_rfl) (by kernel_rfl) (by kernel_rfl) (OB W0 (.cells #[.string { data := #[] }, .int .i64 0, .int .i64 0] 65) (.cells #[.string os, .int .i64 ov, .int .i64 ob] 65) (fun j_9 => match j_9 with | 0 => some (.pointer (some ⟨s, 0, none⟩)) | 1 => some (.pointer (some ⟨s, 0, none⟩)) | 2 => some (.pointer (some ⟨s, 0, none⟩)) | 3 => some (.map (some Mo)) | 4 => some (.pointer (some ⟨w.heap.size, 1, none⟩)) | 5 => some (.string ky) | 6 => some (.tuple #[.agg #[.string os, .int .i64 ov, .int .i64 ob], .bool oi]) | 7 => some (.tuple #[.agg #[.string os, .int .i64 ov, .int .i64 ob], .bool oi]) | 8 => some (.agg #[.string os, .int .i64 ov, .int .i64 ob]) | 9 => some (.bool oi) | 10 => some (.pointer (some ⟨W0.heap.size, 0, none⟩)) | 11 => none | 12 => some (.bool oi) | _ => none) 10 11) (fun V => OB.start V) ?_ ?_
  · intro j9 o ho L9 V w9 K hI hL hdep hK
    have HI9 := Lib.hid hI
    have hJ := hI.below
    simp only [fill, slotOf, List.size_toArray, List.length_cons, List.length_nil, Nat.reduceAdd, List.getElem?_toArray, List.getElem?_cons_zero, List.getElem?_cons_succ, Option.bind_some, Act.put, List.setIfInBounds_toArray, List.set_cons_zero, List.set_cons_succ] at hK ⊢
    have hin : j9 < 13 := (Array.getElem?_eq_some_iff.1 ho).1
    have hcs : j9 = 0 ∨ j9 = 1 ∨ j9 = 2 ∨ j9 = 3 ∨ j9 = 4 ∨ j9 = 5 ∨ j9 = 6 ∨ j9 = 7 ∨ j9 = 8 ∨ j9 = 9 ∨ j9 = 10 ∨ j9 = 11 ∨ j9 = 12 := by omega
    clear hin
    rcases hcs with rfl | rfl | rfl | rfl | rfl | rfl | rfl | rfl | rfl | rfl | rfl | rfl | rfl
    · obtain rfl := Option.some.inj ho.symm
      clear hdep ho hI hL hJ
      try simp only [fill, slotOf, List.size_toArray, List.length_cons, List.length_nil, Nat.reduceAdd, List.getElem?_toArray, List.getElem?_cons_zero, List.getElem?_cons_succ, Option.bind_some, Act.put, List.setIfInBounds_toArray, List.set_cons_zero, List.set_cons_succ] at hK ⊢
      go_simp
      exact hK (.pointer (some ⟨s, 0, none⟩)) _ (HI9.out.put 0 _ (by decide) (fun v h => Option.some.inj h)) _ rfl
    · obtain rfl := Option.some.inj ho.symm
      have d0 : V 0 = .pointer (some ⟨s, 0, none⟩) := hI.val 0 _ (hdep ⟨0, .data⟩ (by simp) rfl) rfl
      clear hdep ho hI hL hJ
      try simp only [fill, slotOf, List.size_toArray, List.length_cons, List.length_nil, Nat.reduceAdd, List.getElem?_toArray, List.getElem?_cons_zero, List.getElem?_cons_succ, Option.bind_some, Act.put, List.setIfInBounds_toArray, List.set_cons_zero, List.set_cons_succ] at hK ⊢
      rw [d0] at hK ⊢
      go_simp
      exact hK (.pointer (some ⟨s, 0, none⟩)) _ (HI9.out.put 1 _ (by decide) (fun v h => Option.some.inj h)) _ rfl
    · obtain rfl := Option.some.inj ho.symm
      have d1 : V 1 = .pointer (some ⟨s, 0, none⟩) := hI.val 1 _ (hdep ⟨1, .data⟩ (by simp) rfl) rfl
      clear hdep ho hI hL hJ
      try simp only [fill, slotOf, List.size_toArray, List.length_cons, List.length_nil, Nat.reduceAdd, List.getElem?_toArray, List.getElem?_cons_zero, List.getElem?_cons_succ, Option.bind_some, Act.put, List.setIfInBounds_toArray, List.set_cons_zero, List.set_cons_succ] at hK ⊢
      rw [d1] at hK ⊢
      go_simp
      exact hK (.pointer (some ⟨s, 0, none⟩)) _ (HI9.out.put 2 _ (by decide) (fun v h => Option.some.inj h)) _ rfl
    · obtain rfl := Option.some.inj ho.symm
      have d2 : V 2 = .pointer (some ⟨s, 0, none⟩) := hI.val 2 _ (hdep ⟨2, .data⟩ (by simp) rfl) rfl
      have g9 := cell_blk2 ((hJ.block s hs0).trans HE.out.st.blk) (i := 0) (u := .map (some Mo)) rfl
      clear hdep ho hI hL hJ
      try simp only [fill, slotOf, List.size_toArray, List.length_cons, List.length_nil, Nat.reduceAdd, List.getElem?_toArray, List.getElem?_cons_zero, List.getElem?_cons_succ, Option.bind_some, Act.put, List.setIfInBounds_toArray, List.set_cons_zero, List.set_cons_succ] at hK ⊢
      rw [d2] at hK ⊢
      go_simp
      exact hK (.map (some Mo)) _ (HI9.out.put 3 _ (by decide) (fun v h => Option.some.inj h)) _ rfl
    · obtain rfl := Option.some.inj ho.symm
      clear hdep ho hI hL hJ
      try simp only [fill, slotOf, List.size_toArray, List.length_cons, List.length_nil, Nat.reduceAdd, List.getElem?_toArray, List.getElem?_cons_zero, List.getElem?_cons_succ, Option.bind_some, Act.put, List.setIfInBounds_toArray, List.set_cons_zero, List.set_cons_succ] at hK ⊢
      go_simp
      exact hK (.pointer (some ⟨w.heap.size, 1, none⟩)) _ (HI9.out.put 4 _ (by decide) (fun v h => Option.some.inj h)) _ rfl
    · obtain rfl := Option.some.inj ho.symm
      have d4 : V 4 = .pointer (some ⟨w.heap.size, 1, none⟩) := hI.val 4 _ (hdep ⟨4, .data⟩ (by simp) rfl) rfl
      have g9 := cell_blk2 ((hJ.block w.heap.size hk0).trans HE.out.cb) (i := 1) (u := .string ky) rfl
      clear hdep ho hI hL hJ
      try simp only [fill, slotOf, List.size_toArray, List.length_cons, List.length_nil, Nat.reduceAdd, List.getElem?_toArray, List.getElem?_cons_zero, List.getElem?_cons_succ, Option.bind_some, Act.put, List.setIfInBounds_toArray, List.set_cons_zero, List.set_cons_succ] at hK ⊢
      rw [d4] at hK ⊢
      go_simp
      exact hK (.string ky) _ (HI9.out.put 5 _ (by decide) (fun v h => Option.some.inj h)) _ rfl
    · obtain rfl := Option.some.inj ho.symm
      have d3 : V 3 = .map (some Mo) := hI.val 3 _ (hdep ⟨3, .data⟩ (by simp) rfl) rfl
      have d5 : V 5 = .string ky := hI.val 5 _ (hdep ⟨5, .data⟩ (by simp) rfl) rfl
      have g9 := HLA.out w9 hJ
      clear hdep ho hI hL hJ
      try simp only [fill, slotOf, List.size_toArray, List.length_cons, List.length_nil, Nat.reduceAdd, List.getElem?_toArray, List.getElem?_cons_zero, List.getElem?_cons_succ, Option.bind_some, Act.put, List.setIfInBounds_toArray, List.set_cons_zero, List.set_cons_succ] at hK ⊢
      rw [d3, d5] at hK ⊢
      go_simp
      exact hK (.tuple #[.agg #[.string os, .int .i64 ov, .int .i64 ob], .bool oi]) _ (HI9.out.put 6 _ (by decide) (fun v h => Option.some.inj h)) _ rfl
    · obtain rfl := Option.some.inj ho.symm
      have d6 : V 6 = .tuple #[.agg #[.string os, .int .i64 ov, .int .i64 ob], .bool oi] := hI.val 6 _ (hdep ⟨6, .data⟩ (by simp) rfl) rfl
      clear hdep ho hI hL hJ
      try simp only [fill, slotOf, List.size_toArray, List.length_cons, List.length_nil, Nat.reduceAdd, List.getElem?_toArray, List.getElem?_cons_zero, List.getElem?_cons_succ, Option.bind_some, Act.put, List.setIfInBounds_toArray, List.set_cons_zero, List.set_cons_succ] at hK ⊢
      rw [d6] at hK ⊢
      go_simp
      exact hK (.tuple #[.agg #[.string os, .int .i64 ov, .int .i64 ob], .bool oi]) _ (HI9.out.put 7 _ (by decide) (fun v h => Option.some.inj h)) _ rfl
    · obtain rfl := Option.some.inj ho.symm
      have d7 : V 7 = .tuple #[.agg #[.string os, .int .i64 ov, .int .i64 ob], .bool oi] := hI.val 7 _ (hdep ⟨7, .data⟩ (by simp) rfl) rfl
      clear hdep ho hI hL hJ
      try simp only [fill, slotOf, List.size_toArray, List.length_cons, List.length_nil, Nat.reduceAdd, List.getElem?_toArray, List.getElem?_cons_zero, List.getElem?_cons_succ, Option.bind_some, Act.put, List.setIfInBounds_toArray, List.set_cons_zero, List.set_cons_succ] at hK ⊢
      rw [d7] at hK ⊢
      go_simp
      exact hK (.agg #[.string os, .int .i64 ov, .int .i64 ob]) _ (HI9.out.put 8 _ (by decide) (fun v h => Option.some.inj h)) _ rfl
    · obtain rfl := Option.some.inj ho.symm
      have d7 : V 7 = .tuple #[.agg #[.string os, .int .i64 ov, .int .i64 ob], .bool oi] := hI.val 7 _ (hdep ⟨7, .data⟩ (by simp) rfl) rfl
      clear hdep ho hI hL hJ
      try simp only [fill, slotOf, List.size_toArray, List.length_cons, List.length_nil, Nat.reduceAdd, List.getElem?_toArray, List.getElem?_cons_zero, List.getElem?_cons_succ, Option.bind_some, Act.put, List.setIfInBounds_toArray, List.set_cons_zero, List.set_cons_succ] at hK ⊢
      rw [d7] at hK ⊢
      go_simp
      exact hK (.bool oi) _ (HI9.out.put 9 _ (by decide) (fun v h => Option.some.inj h)) _ rfl
    · obtain rfl := Option.some.inj ho.symm
      have HL9 := Lib.hid hL
      have e9 := hI.sa hL
      clear hdep ho hI hL hJ
      subst e9
      try simp only [fill, slotOf, List.size_toArray, List.length_cons, List.length_nil, Nat.reduceAdd, List.getElem?_toArray, List.getElem?_cons_zero, List.getElem?_cons_succ, Option.bind_some, Act.put, List.setIfInBounds_toArray, List.set_cons_zero, List.set_cons_succ] at hK ⊢
      go_simp
      exact hK (.pointer (some ⟨W0.heap.size, 0, none⟩)) _ (HI9.out.puta (by decide) HL9.out _ (fun v h => Option.some.inj h)) _ rfl
    · obtain rfl := Option.some.inj ho.symm
      have d10 : V 10 = .pointer (some ⟨W0.heap.size, 0, none⟩) := hI.val 10 _ (hdep ⟨10, .data⟩ (by simp) rfl) rfl
      have d8 : V 8 = .agg #[.string os, .int .i64 ov, .int .i64 ob] := hI.val 8 _ (hdep ⟨8, .data⟩ (by simp) rfl) rfl
      have la : L9 10 = true := hdep ⟨10, .data⟩ (by simp) rfl
      have HLA := Lib.hid la
      have e9 := hI.sb la hL
      clear hdep ho hI hL hJ la
      subst e9
      try simp only [fill, slotOf, List.size_toArray, List.length_cons, List.length_nil, Nat.reduceAdd, List.getElem?_toArray, List.getElem?_cons_zero, List.getElem?_cons_succ, Option.bind_some, Act.put, List.setIfInBounds_toArray, List.set_cons_zero, List.set_cons_succ] at hK ⊢
      rw [d10, d8] at hK ⊢
      go_simp
      exact hK undef _ (HI9.out.puts HLA.out _ (fun v h => by cases h)) _ rfl
    · obtain rfl := Option.some.inj ho.symm
      have d9 : V 9 = .bool oi := hI.val 9 _ (hdep ⟨9, .data⟩ (by simp) rfl) rfl
      clear hdep ho hI hL hJ
      try simp only [fill, slotOf, List.size_toArray, List.length_cons, List.length_nil, Nat.reduceAdd, List.getElem?_toArray, List.getElem?_cons_zero, List.getElem?_cons_succ, Option.bind_some, Act.put, List.setIfInBounds_toArray, List.set_cons_zero, List.set_cons_succ] at hK ⊢
      rw [d9] at hK ⊢
      go_simp
      exact hK (.bool oi) _ (HI9.out.put 12 _ (by decide) (fun v h => Option.some.inj h)) _ rfl
  · intro L9 V w9 hI hall
    have k10 : V 10 = .pointer (some ⟨W0.heap.size, 0, none⟩) := hI.val 10 _ (hall 10 (by decide)) rfl
    have k12 : V 12 = .bool oi := hI.val 12 _ (hall 12 (by decide)) rfl
    have e9 := hI.sc (hall 11 (by decide))
    clear hI hall
    subst e9
    simp only [fill, slotOf, List.size_toArray, List.length_cons, List.length_nil, Nat.reduceAdd, List.getElem?_toArray, List.getElem?_cons_zero, List.getElem?_cons_succ, Option.bind_some, Act.put, List.setIfInBounds_toArray, List.set_cons_zero, List.set_cons_succ]
    rw [k10, k12]
    clear k10 k12
    obtain ⟨W1, hW1⟩ : ∃ W1, W1 = (W0.alloc (.cells #[.string os, .int .i64 ov, .int .i64 ob] 65)).drew := ⟨_, rfl⟩
    have M1 := Lib.hid (md_mk HE.out #[.string os, .int .i64 ov, .int .i64 ob] 65)
    rw [← hW1] at M1
    rw [← hW1]
    rw [ez0.out]
    clear hW1 HE hk0 hr0 hs0 ez0 HLA
    cases oi with
    | false =>
      have HE0 := Lib.hid (show pieE σ ky at_ nn = 7 from by
        have h1 := HOI.out
        unfold pieE objOf
        cases hg : getK slit ky σ.objs with
        | none => rfl
        | some x => rw [hg] at h1; cases h1)
      go_wp2_with fail
      refine (failed_any _ _).mono ?_
      rintro e W9 ⟨rfl, hb9⟩
      have M9 := Lib.hid (M1.out.kept hb9)
      clear hb9
      obtain ⟨⟨q0, q1, q2, q3, q4, q5, q6⟩, r0, r1, r2, r3, r4, r5, r6⟩ := rb_cells M9.out.rb
      unfold rep0
      go_wp2_with fail
      clear q0 q1 q2 q3 q4 q5 q6 r0 r1 r2 r3 r4 r5 r6
      obtain ⟨W5, hW5⟩ : ∃ W5, W5 = setR W9 (w.heap.size + 1) (.int .i64 7) (.slice none 0 0) (.int .i64 0) (.int .i64 0) (.int .i64 0) (.slice none 0 0) (.bool false) := ⟨_, rfl⟩
      have hr5 := setR_at0 M9.out.rb (.int .i64 7) (.slice none 0 0) (.int .i64 0) (.int .i64 0) (.int .i64 0) (.slice none 0 0) (.bool false)
      have Z := M9.out.done HL.out (fun b hb => HF.out b hb) (.int .i64 7) (.slice none 0 0) (.int .i64 0) (.int .i64 0) (.int .i64 0) (.slice none 0 0) (.bool false)
      rw [← hW5] at hr5 Z
      unfold setR at hW5
      rw [← hW5]
      refine bodyPost_ret (ret_rep rfl _ _ (w.heap.size + 1) rfl hr5) rfl ?_
      exact PieSays.no HE0.out (by decide) Z

    | true =>
      have hob : objOf σ ky = some ⟨os, ov, ob⟩ := by
        rw [HOV.out]
        exact objOf_some (by have := HOS.out; exact this) HOI.out.symm
      have o0 := cell_blk2 M1.out.ob (i := 0) (u := .string os) rfl
      have k4 := cell_blk2 M1.out.cb (i := 4) (u := .int .i64 at_) rfl
      have k5 := cell_blk2 M1.out.cb (i := 5) (u := .int .i64 nn) rfl
      have hsz : os.size ≤ 262144 := by have := HOL.out; omega
      by_cases hbad : at_ < 0 ∨ nn < 0 ∨ (os.size : Int) < at_ ∨ (os.size : Int) - at_ < nn
      · have HE0 := Lib.hid (show pieE σ ky at_ nn = 2 from by
          unfold pieE
          rw [hob]
          simp only
          rw [if_pos hbad])
        clear hob
        have hwr : 0 ≤ at_ → at_ ≤ (os.size : Int) → IntKind.i64.wrap ((os.size : Int) - at_) = (os.size : Int) - at_ := fun g1 g2 => IntWalk.i64_in _ (by omega)
        have hcs : at_ < 0 ∨ (0 ≤ at_ ∧ nn < 0) ∨ (0 ≤ at_ ∧ 0 ≤ nn ∧ (os.size : Int) < at_) ∨ (0 ≤ at_ ∧ 0 ≤ nn ∧ at_ ≤ (os.size : Int) ∧ (os.size : Int) - at_ < nn) := by omega
        rcases hcs with hz1 | ⟨hz1, hz2⟩ | ⟨hz1, hz2, hz3⟩ | ⟨hz1, hz2, hz3, hz4⟩
        case' inr.inr.inr => have hz5 := hwr hz1 hz3
        all_goals
          clear hbad hwr
          go_wp2_with fail
          refine (failed_any _ _).mono ?_
          rintro e W9 ⟨rfl, hb9⟩
          have M9 := Lib.hid (M1.out.kept hb9)
          clear hb9
          obtain ⟨⟨q0, q1, q2, q3, q4, q5, q6⟩, r0, r1, r2, r3, r4, r5, r6⟩ := rb_cells M9.out.rb
          unfold rep0
          go_wp2_with fail
          clear q0 q1 q2 q3 q4 q5 q6 r0 r1 r2 r3 r4 r5 r6
          obtain ⟨W5, hW5⟩ : ∃ W5, W5 = setR W9 (w.heap.size + 1) (.int .i64 2) (.slice none 0 0) (.int .i64 0) (.int .i64 0) (.int .i64 0) (.slice none 0 0) (.bool false) := ⟨_, rfl⟩
          have hr5 := setR_at0 M9.out.rb (.int .i64 2) (.slice none 0 0) (.int .i64 0) (.int .i64 0) (.int .i64 0) (.slice none 0 0) (.bool false)
          have Z := M9.out.done HL.out (fun b hb => HF.out b hb) (.int .i64 2) (.slice none 0 0) (.int .i64 0) (.int .i64 0) (.int .i64 0) (.slice none 0 0) (.bool false)
          rw [← hW5] at hr5 Z
          unfold setR at hW5
          rw [← hW5]
          refine bodyPost_ret (ret_rep rfl _ _ (w.heap.size + 1) rfl hr5) rfl ?_
          exact PieSays.no HE0.out (by decide) Z

      · have hz1 : 0 ≤ at_ := by omega
        have hz2 : 0 ≤ nn := by omega
        have hz3 : at_ ≤ (os.size : Int) := by omega
        have hz4 : nn ≤ (os.size : Int) - at_ := by omega
        have hz6 : at_ ≤ at_ + nn := by omega
        have hz7 : at_ + nn ≤ (os.size : Int) := by omega
        have hz8 : 0 ≤ at_ + nn := by omega
        have wsb : IntKind.i64.wrap ((os.size : Int) - at_) = (os.size : Int) - at_ := IntWalk.i64_in _ (by omega)
        have wad : IntKind.i64.wrap (at_ + nn) = at_ + nn := IntWalk.i64_in _ (by omega)
        have HE0 := Lib.hid (show pieE σ ky at_ nn = 0 from by
          unfold pieE
          rw [hob]
          simp only
          rw [if_neg hbad])
        have HOB := Lib.hid hob
        clear hob hbad
        obtain ⟨ex, hex⟩ : ∃ ex, ex = os.extract at_.toNat (at_ + nn).toNat := ⟨_, rfl⟩
        have hexs : (ex.size : Int) = nn := by rw [hex, ByteArray.size_extract]; omega
        have hsli : ∀ W9, (Instr.slice 9 (.string os) (some (.int .i64 at_)) (some (.int .i64 (at_ + nn))) none).run Try.prog W9 = .ok (.string ex) W9 := fun W9 => by
          rw [hex]
          exact run_slice_string (P := Try.prog) W9 9 os .i64 .i64 at_ (at_ + nn) Try.underlying9 hz1 hz6 hz7
        obtain ⟨W2, cp, hcv, hby, hbe, hlt2⟩ := bytes_made W1.drew ex (by omega)
        have hbe1 : Below W1.heap.size W1 W2 := ((Below.refl _ _).drew).trans hbe
        have M2 := Lib.hid (M1.out.kept hbe1)
        have o1 := cell_blk2 M2.out.ob (i := 1) (u := .int .i64 ov) rfl
        have o2 := cell_blk2 M2.out.ob (i := 2) (u := .int .i64 ob) rfl
        have o3 := cell_blk2 M2.out.ob (i := 0) (u := .string os) rfl
        have o5 := cell_blk2 M1.out.ob (i := 1) (u := .int .i64 ov) rfl
        have o6 := cell_blk2 M1.out.ob (i := 2) (u := .int .i64 ob) rfl
        have HBY := Lib.hid hby
        have HXS := Lib.hid hexs
        have HEX := Lib.hid hex
        have HG := Lib.hid (show w.heap.size + 2 < W1.heap.size from (Array.getElem?_eq_some_iff.1 M1.out.ob).1)
        clear hby hbe hbe1 hlt2 hexs hex
        obtain ⟨⟨q0, q1, q2, q3, q4, q5, q6⟩, r0, r1, r2, r3, r4, r5, r6⟩ := rb_cells M2.out.rb

        go_wp2_with fail
        go_region
        all_goals
          clear o0 k4 k5 o1 o2 o3 o5 o6 hcv hsli
          clear q0 q1 q2 q3 q4 q5 q6 r0 r1 r2 r3 r4 r5 r6
          go_wp2_with fail
          obtain ⟨W5, hW5⟩ : ∃ W5, W5 = setR W2 (w.heap.size + 1) (.int .i64 0) (.slice (some ⟨W1.heap.size, 0, none⟩) ex.size cp) (.int .i64 ov) (.int .i64 ob) (.int .i64 0) (.slice none 0 0) (.bool false) := ⟨_, rfl⟩
          have hr5 := setR_at0 M2.out.rb (.int .i64 0) (.slice (some ⟨W1.heap.size, 0, none⟩) ex.size cp) (.int .i64 ov) (.int .i64 ob) (.int .i64 0) (.slice none 0 0) (.bool false)
          have Z := M2.out.done HL.out (fun b hb => HF.out b hb) (.int .i64 0) (.slice (some ⟨W1.heap.size, 0, none⟩) ex.size cp) (.int .i64 ov) (.int .i64 ob) (.int .i64 0) (.slice none 0 0) (.bool false)
          rw [← hW5] at hr5 Z
          unfold setR at hW5
          rw [← hW5]
          refine bodyPost_ret (ret_rep rfl _ _ (w.heap.size + 1) rfl hr5) rfl ?_
          have HB5 := bytes_setR (R := w.heap.size + 1) HBY.out (fun b off e => by cases e; have := HG.out; show W1.heap.size ≠ _; omega) (.int .i64 0) (.slice (some ⟨W1.heap.size, 0, none⟩) ex.size cp) (.int .i64 ov) (.int .i64 ob) (.int .i64 0) (.slice none 0 0) (.bool false)
          unfold setR at HB5
          rw [← hW5] at HB5
          exact PieSays.yes HOB.out HE0.out (by have := HG.out; omega) HXS.out (by have h1 := HB5; rw [HEX.out] at h1 ⊢; exact h1) Z
end Go.Proofs.Ytjafagfhkpaciaa
