/- The store's put, walked. Written by genstoput.py. -/
import Derived.Test.YtjafagfhkpaciaaStoMake
import Derived.Test.YtjafagfhkpaciaaOneBox
namespace Go.Proofs.Ytjafagfhkpaciaa
open Go.RowKit
set_option linter.unusedVariables false

def oldVer (σ : Sto) (k : ByteArray) : Int := match objOf σ k with | some o => o.ver | none => 0
theorem field_obj2 (σ : Sto) (k : ByteArray) : ∃ s b, (getK slit k σ.objs).elim objZ objC = .agg #[.string s, .int .i64 (oldVer σ k), .int .i64 b] ∧ s.size = oldLen σ k := by
  unfold oldLen oldVer objOf
  cases getK slit k σ.objs with
  | none => exact ⟨_, _, rfl, rfl⟩
  | some o => exact ⟨_, _, rfl, rfl⟩
/-- why a put isn't made -/
def putE (σ : Sto) (ki : Int) (ky : ByteArray) (vr : Int) (n : Nat) : Int :=
  if isKeyB ky = false then 1 else if ki = 2 ∧ vr ≠ oldVer σ ky then 8 else if 262144 < n then 5
  else if ((objOf σ ky).isNone = true ∧ 512 ≤ σ.objs.length) ∨ 4194304 < σ.size + ((n : Int) - (oldLen σ ky : Int)) then 9 else 0
def PutSays (w : World) (s Mo Mu : Nat) (σ : Sto) (er : Int) (ky d : ByteArray) (e : Ending) (w' : World) : Prop :=
  (er ≠ 0 → e = .returned (rep0 er) ∧ StAt w' s Mo Mu σ ∧ Below w.heap.size w w') ∧
  (er = 0 → e = .returned (rep 0 (.slice none 0 0) (σ.ver + 1) σ.now 0 (.slice none 0 0) false) ∧ StAt w' s Mo Mu (makeS σ ky d) ∧ Frm (StF s Mo Mu σ) w w')
theorem PutSays.no {w w' : World} {s Mo Mu : Nat} {σ : Sto} {er x : Int} {ky d : ByteArray} (h : er = x) (hx : x ≠ 0) (Z : StAt w' s Mo Mu σ ∧ Below w.heap.size w w') : PutSays w s Mo Mu σ er ky d (.returned (rep0 x)) w' := by
  subst h
  exact ⟨fun _ => ⟨rfl, Z.1, Z.2⟩, fun e => absurd e hx⟩
theorem put_end {w W2 W3 W5 : World} {s Mo Mu : Nat} {σ : Sto} {er : Int} {ky d : ByteArray} (h : er = 0) (hst : StAt W3 s Mo Mu (makeS σ ky d)) (hfr : Frm (StF s Mo Mu σ) W2 W3) (hbel : Below w.heap.size w W2) (h5 : Frm (fun b => b = w.heap.size + 1) W3 W5) (hF : ∀ b, StF s Mo Mu σ b → b < w.heap.size) :
    PutSays w s Mo Mu σ er ky d (.returned (rep 0 (.slice none 0 0) (σ.ver + 1) σ.now 0 (.slice none 0 0) false)) W5 := by
  refine ⟨fun e => absurd h e, fun _ => ⟨rfl, ?_, ?_⟩⟩
  · refine hst.same fun b hb => h5.block b (hst.lt hb) (fun e => ?_)
    have : StF s Mo Mu σ b := hb
    have := hF b this
    omega
  · exact ((Frm.ofBelow hbel).trans hfr (fun i hi => .inl hi)).trans h5 (fun i hi => .inr (by omega))
set_option maxRecDepth 100000 in
set_option maxHeartbeats 4000000 in
theorem put_any {w : World} {s Mo Mu : Nat} {σ : Sto} (h : StAt w s Mo Mu σ) {ki vr at_ nn id : Int} {ky : ByteArray} {a : Option Addr} {n c : Nat} {xs : List Nat} (hx : BytesAt w a n c xs) (hk : ky.size ≤ 1000000000000000) (hb : 0 ≤ σ.ver ∧ σ.ver ≤ 1099511627776 ∧ 0 ≤ σ.size ∧ σ.size ≤ 4194304) (ho : oldLen σ ky ≤ 262144) (hn : σ.objs.length ≤ 512) :
    Calls Try.prog 23 #[.pointer (some ⟨s, 0, none⟩), .agg #[.int .i64 ki, .string ky, .slice a n c, .int .i64 vr, .int .i64 at_, .int .i64 nn, .int .i64 id]] w (PutSays w s Mo Mu σ (putE σ ki ky vr n) ky (bs xs)) := by
  have HE := Lib.hid (ent_mk h #[.int .i64 ki, .string ky, .slice a n c, .int .i64 vr, .int .i64 at_, .int .i64 nn, .int .i64 id])
  have HX := Lib.hid hx
  have HL := Lib.hid h.lts
  have HF := Lib.hid (show ∀ b, StF s Mo Mu σ b → b < w.heap.size from fun b hb => h.lt hb)
  have HS := Lib.hid h
  have hcap := hx.cap
  have hcm := hx.capm
  have hreach := hx.reach
  have hbs : (bs xs).size = n := by
    have h1 : (bs xs).data.size = xs.length := by
      rw [← Array.length_toList]
      unfold bs
      rw [strOfNums_data]; simp
    rw [← hx.len]; exact h1
  have HBS := Lib.hid hbs
  clear h hx hbs
  go_enter Try.func23, Try.ntmps23
  go_wp2_with fail
  obtain ⟨W0, hW0⟩ : ∃ W0, W0 = (w.alloc (.cells #[.int .i64 ki, .string ky, .slice a n c, .int .i64 vr, .int .i64 at_, .int .i64 nn, .int .i64 id] 29)).alloc (.cells zrep 35) := ⟨_, rfl⟩
  rw [← hW0] at HE
  unfold zrep at hW0
  rw [← hW0]
  clear hW0
  have hk0 : w.heap.size < W0.heap.size := by have := HE.out.sz; omega
  have hr0 : w.heap.size + 1 < W0.heap.size := by have := HE.out.sz; omega
  have hs0 := HE.out.st.lts
  have ez0 := Lib.hid HE.out.sz
  obtain ⟨os, ob, hos, hol⟩ := field_obj2 σ ky
  obtain ⟨ov, hov⟩ : ∃ ov, ov = oldVer σ ky := ⟨_, rfl⟩
  obtain ⟨oi, hoi⟩ : ∃ oi, oi = (getK slit ky σ.objs).isSome := ⟨_, rfl⟩
  have HLA := Lib.hid (show ∀ w9, Below W0.heap.size W0 w9 → (Instr.lookup 58 (.map (some Mo)) (.string ky) true).run Try.prog w9 = .ok (.tuple #[.agg #[.string os, .int .i64 ov, .int .i64 ob], .bool oi]) w9 from fun w9 h9 => by
    have h8 := lookO2 (HE.out.st.obj.below h9) ky hk
    rw [hos, ← hoi, ← hov] at h8
    exact h8)
  have HOL := Lib.hid hol
  have HOI := Lib.hid hoi
  have HOV := Lib.hid hov
  clear hos hol hoi hov
  refine wp_region_inv (by kernel_rfl) (by kernel_rfl) (by kernel_rfl) (OB W0 (.cells #[.string { data := #[] }, .int .i64 0, .int .i64 0] 65) (.cells #[.string os, .int .i64 ov, .int .i64 ob] 65) (fun j_9 => match j_9 with | 0 => some (.pointer (some ⟨s, 0, none⟩)) | 1 => some (.pointer (some ⟨s, 0, none⟩)) | 2 => some (.pointer (some ⟨s, 0, none⟩)) | 3 => some (.map (some Mo)) | 4 => some (.pointer (some ⟨w.heap.size, 1, none⟩)) | 5 => some (.string ky) | 6 => some (.tuple #[.agg #[.string os, .int .i64 ov, .int .i64 ob], .bool oi]) | 7 => some (.tuple #[.agg #[.string os, .int .i64 ov, .int .i64 ob], .bool oi]) | 8 => some (.agg #[.string os, .int .i64 ov, .int .i64 ob]) | 9 => some (.bool oi) | 10 => some (.pointer (some ⟨W0.heap.size, 0, none⟩)) | 11 => none | 12 => some (.bool oi) | _ => none) 10 11) (fun V => OB.start V) ?_ ?_
  · intro j9 o ho L9 V w9 K hI hL hdep hK
    have HI9 := Lib.hid hI
    have hJ := hI.below
    simp only [fill, slotOf, List.size_toArray, List.length_cons, List.length_nil, Nat.reduceAdd, List.getElem?_toArray, List.getElem?_cons_zero, List.getElem?_cons_succ, Option.bind_some, Act.put, List.setIfInBounds_toArray, List.set_cons_zero, List.set_cons_succ] at hK ⊢
    have hin : j9 < 13 := (Array.getElem?_eq_some_iff.1 ho).1
    have hcs : j9 = 0 ∨ j9 = 1 ∨ j9 = 2 ∨ j9 = 3 ∨ j9 = 4 ∨ j9 = 5 ∨ j9 = 6 ∨ j9 = 7 ∨ j9 = 8 ∨ j9 = 9 ∨ j9 = 10 ∨ j9 = 11 ∨ j9 = 12 := by omega
    clear hin
    rcases hcs with rfl | rfl | rfl | rfl | rfl | rfl | rfl | rfl | rfl | rfl | rfl | rfl | rfl
    · obtain rfl := Option.some.inj ho.symm
      clear hdep ho hI hL hJ
      try simp only [fill, slotOf, List.size_toArray, List.length_cons, List.length_nil, Nat.reduceAdd, List.getElem?_toArray, List.getElem?_cons_zero, List.getElem?_cons_succ, Option.bind_some, Act.put, List.setIfInBounds_toArray, List.set_cons_zero, List.set_cons_succ] at hK ⊢
      go_simp
      exact hK (.pointer (some ⟨s, 0, none⟩)) _ (HI9.out.put 0 _ (by decide) (fun v h => Option.some.inj h)) _ rfl
    · obtain rfl := Option.some.inj ho.symm
      have d0 : V 0 = .pointer (some ⟨s, 0, none⟩) := hI.val 0 _ (hdep ⟨0, .data⟩ (by simp) rfl) rfl
      clear hdep ho hI hL hJ
      try simp only [fill, slotOf, List.size_toArray, List.length_cons, List.length_nil, Nat.reduceAdd, List.getElem?_toArray, List.getElem?_cons_zero, List.getElem?_cons_succ, Option.bind_some, Act.put, List.setIfInBounds_toArray, List.set_cons_zero, List.set_cons_succ] at hK ⊢
      rw [d0] at hK ⊢
      go_simp
      exact hK (.pointer (some ⟨s, 0, none⟩)) _ (HI9.out.put 1 _ (by decide) (fun v h => Option.some.inj h)) _ rfl
    · obtain rfl := Option.some.inj ho.symm
      have d1 : V 1 = .pointer (some ⟨s, 0, none⟩) := hI.val 1 _ (hdep ⟨1, .data⟩ (by simp) rfl) rfl
      clear hdep ho hI hL hJ
      try simp only [fill, slotOf, List.size_toArray, List.length_cons, List.length_nil, Nat.reduceAdd, List.getElem?_toArray, List.getElem?_cons_zero, List.getElem?_cons_succ, Option.bind_some, Act.put, List.setIfInBounds_toArray, List.set_cons_zero, List.set_cons_succ] at hK ⊢
      rw [d1] at hK ⊢
      go_simp
      exact hK (.pointer (some ⟨s, 0, none⟩)) _ (HI9.out.put 2 _ (by decide) (fun v h => Option.some.inj h)) _ rfl
    · obtain rfl := Option.some.inj ho.symm
      have d2 : V 2 = .pointer (some ⟨s, 0, none⟩) := hI.val 2 _ (hdep ⟨2, .data⟩ (by simp) rfl) rfl
      have g9 := cell_blk2 ((hJ.block s hs0).trans HE.out.st.blk) (i := 0) (u := .map (some Mo)) rfl
      clear hdep ho hI hL hJ
      try simp only [fill, slotOf, List.size_toArray, List.length_cons, List.length_nil, Nat.reduceAdd, List.getElem?_toArray, List.getElem?_cons_zero, List.getElem?_cons_succ, Option.bind_some, Act.put, List.setIfInBounds_toArray, List.set_cons_zero, List.set_cons_succ] at hK ⊢
      rw [d2] at hK ⊢
      go_simp
      exact hK (.map (some Mo)) _ (HI9.out.put 3 _ (by decide) (fun v h => Option.some.inj h)) _ rfl
    · obtain rfl := Option.some.inj ho.symm
      clear hdep ho hI hL hJ
      try simp only [fill, slotOf, List.size_toArray, List.length_cons, List.length_nil, Nat.reduceAdd, List.getElem?_toArray, List.getElem?_cons_zero, List.getElem?_cons_succ, Option.bind_some, Act.put, List.setIfInBounds_toArray, List.set_cons_zero, List.set_cons_succ] at hK ⊢
      go_simp
      exact hK (.pointer (some ⟨w.heap.size, 1, none⟩)) _ (HI9.out.put 4 _ (by decide) (fun v h => Option.some.inj h)) _ rfl
    · obtain rfl := Option.some.inj ho.symm
      have d4 : V 4 = .pointer (some ⟨w.heap.size, 1, none⟩) := hI.val 4 _ (hdep ⟨4, .data⟩ (by simp) rfl) rfl
      have g9 := cell_blk2 ((hJ.block w.heap.size hk0).trans HE.out.cb) (i := 1) (u := .string ky) rfl
      clear hdep ho hI hL hJ
      try simp only [fill, slotOf, List.size_toArray, List.length_cons, List.length_nil, Nat.reduceAdd, List.getElem?_toArray, List.getElem?_cons_zero, List.getElem?_cons_succ, Option.bind_some, Act.put, List.setIfInBounds_toArray, List.set_cons_zero, List.set_cons_succ] at hK ⊢
      rw [d4] at hK ⊢
      go_simp
      exact hK (.string ky) _ (HI9.out.put 5 _ (by decide) (fun v h => Option.some.inj h)) _ rfl
    · obtain rfl := Option.some.inj ho.symm
      have d3 : V 3 = .map (some Mo) := hI.val 3 _ (hdep ⟨3, .data⟩ (by simp) rfl) rfl
      have d5 : V 5 = .string ky := hI.val 5 _ (hdep ⟨5, .data⟩ (by simp) rfl) rfl
      have g9 := HLA.out w9 hJ
      clear hdep ho hI hL hJ
      try simp only [fill, slotOf, List.size_toArray, List.length_cons, List.length_nil, Nat.reduceAdd, List.getElem?_toArray, List.getElem?_cons_zero, List.getElem?_cons_succ, Option.bind_some, Act.put, List.setIfInBounds_toArray, List.set_cons_zero, List.set_cons_succ] at hK ⊢
      rw [d3, d5] at hK ⊢
      go_simp
      exact hK (.tuple #[.agg #[.string os, .int .i64 ov, .int .i64 ob], .bool oi]) _ (HI9.out.put 6 _ (by decide) (fun v h => Option.some.inj h)) _ rfl
    · obtain rfl := Option.some.inj ho.symm
      have d6 : V 6 = .tuple #[.agg #[.string os, .int .i64 ov, .int .i64 ob], .bool oi] := hI.val 6 _ (hdep ⟨6, .data⟩ (by simp) rfl) rfl
      clear hdep ho hI hL hJ
      try simp only [fill, slotOf, List.size_toArray, List.length_cons, List.length_nil, Nat.reduceAdd, List.getElem?_toArray, List.getElem?_cons_zero, List.getElem?_cons_succ, Option.bind_some, Act.put, List.setIfInBounds_toArray, List.set_cons_zero, List.set_cons_succ] at hK ⊢
      rw [d6] at hK ⊢
      go_simp
      exact hK (.tuple #[.agg #[.string os, .int .i64 ov, .int .i64 ob], .bool oi]) _ (HI9.out.put 7 _ (by decide) (fun v h => Option.some.inj h)) _ rfl
    · obtain rfl := Option.some.inj ho.symm
      have d7 : V 7 = .tuple #[.agg #[.string os, .int .i64 ov, .int .i64 ob], .bool oi] := hI.val 7 _ (hdep ⟨7, .data⟩ (by simp) rfl) rfl
      clear hdep ho hI hL hJ
      try simp only [fill, slotOf, List.size_toArray, List.length_cons, List.length_nil, Nat.reduceAdd, List.getElem?_toArray, List.getElem?_cons_zero, List.getElem?_cons_succ, Option.bind_some, Act.put, List.setIfInBounds_toArray, List.set_cons_zero, List.set_cons_succ] at hK ⊢
      rw [d7] at hK ⊢
      go_simp
      exact hK (.agg #[.string os, .int .i64 ov, .int .i64 ob]) _ (HI9.out.put 8 _ (by decide) (fun v h => Option.some.inj h)) _ rfl
    · obtain rfl := Option.some.inj ho.symm
      have d7 : V 7 = .tuple #[.agg #[.string os, .int .i64 ov, .int .i64 ob], .bool oi] := hI.val 7 _ (hdep ⟨7, .data⟩ (by simp) rfl) rfl
      clear hdep ho hI hL hJ
      try simp only [fill, slotOf, List.size_toArray, List.length_cons, List.length_nil, Nat.reduceAdd, List.getElem?_toArray, List.getElem?_cons_zero, List.getElem?_cons_succ, Option.bind_some, Act.put, List.setIfInBounds_toArray, List.set_cons_zero, List.set_cons_succ] at hK ⊢
      rw [d7] at hK ⊢
      go_simp
      exact hK (.bool oi) _ (HI9.out.put 9 _ (by decide) (fun v h => Option.some.inj h)) _ rfl
    · obtain rfl := Option.some.inj ho.symm
      have HL9 := Lib.hid hL
      have e9 := hI.sa hL
      clear hdep ho hI hL hJ
      subst e9
      try simp only [fill, slotOf, List.size_toArray, List.length_cons, List.length_nil, Nat.reduceAdd, List.getElem?_toArray, List.getElem?_cons_zero, List.getElem?_cons_succ, Option.bind_some, Act.put, List.setIfInBounds_toArray, List.set_cons_zero, List.set_cons_succ] at hK ⊢
      go_simp
      exact hK (.pointer (some ⟨W0.heap.size, 0, none⟩)) _ (HI9.out.puta (by decide) HL9.out _ (fun v h => Option.some.inj h)) _ rfl
    · obtain rfl := Option.some.inj ho.symm
      have d10 : V 10 = .pointer (some ⟨W0.heap.size, 0, none⟩) := hI.val 10 _ (hdep ⟨10, .data⟩ (by simp) rfl) rfl
      have d8 : V 8 = .agg #[.string os, .int .i64 ov, .int .i64 ob] := hI.val 8 _ (hdep ⟨8, .data⟩ (by simp) rfl) rfl
      have la : L9 10 = true := hdep ⟨10, .data⟩ (by simp) rfl
      have HLA := Lib.hid la
      have e9 := hI.sb la hL
      clear hdep ho hI hL hJ la
      subst e9
      try simp only [fill, slotOf, List.size_toArray, List.length_cons, List.length_nil, Nat.reduceAdd, List.getElem?_toArray, List.getElem?_cons_zero, List.getElem?_cons_succ, Option.bind_some, Act.put, List.setIfInBounds_toArray, List.set_cons_zero, List.set_cons_succ] at hK ⊢
      rw [d10, d8] at hK ⊢
      go_simp
      exact hK undef _ (HI9.out.puts HLA.out _ (fun v h => by cases h)) _ rfl
    · obtain rfl := Option.some.inj ho.symm
      have d9 : V 9 = .bool oi := hI.val 9 _ (hdep ⟨9, .data⟩ (by simp) rfl) rfl
      clear hdep ho hI hL hJ
      try simp only [fill, slotOf, List.size_toArray, List.length_cons, List.length_nil, Nat.reduceAdd, List.getElem?_toArray, List.getElem?_cons_zero, List.getElem?_cons_succ, Option.bind_some, Act.put, List.setIfInBounds_toArray, List.set_cons_zero, List.set_cons_succ] at hK ⊢
      rw [d9] at hK ⊢
      go_simp
      exact hK (.bool oi) _ (HI9.out.put 12 _ (by decide) (fun v h => Option.some.inj h)) _ rfl
  · intro L9 V w9 hI hall
    have k10 : V 10 = .pointer (some ⟨W0.heap.size, 0, none⟩) := hI.val 10 _ (hall 10 (by decide)) rfl
    have k12 : V 12 = .bool oi := hI.val 12 _ (hall 12 (by decide)) rfl
    have e9 := hI.sc (hall 11 (by decide))
    clear hI hall
    subst e9
    simp only [fill, slotOf, List.size_toArray, List.length_cons, List.length_nil, Nat.reduceAdd, List.getElem?_toArray, List.getElem?_cons_zero, List.getElem?_cons_succ, Option.bind_some, Act.put, List.setIfInBounds_toArray, List.set_cons_zero, List.set_cons_succ]
    rw [k10, k12]
    clear k10 k12
    obtain ⟨W1, hW1⟩ : ∃ W1, W1 = (W0.alloc (.cells #[.string os, .int .i64 ov, .int .i64 ob] 65)).drew := ⟨_, rfl⟩
    have M1 := Lib.hid (md_mk HE.out #[.string os, .int .i64 ov, .int .i64 ob] 65)
    rw [← hW1] at M1
    rw [← hW1]
    rw [ez0.out]
    clear hW1 HE hk0 hr0 hs0 ez0 HLA
    have k1 := cell_blk2 M1.out.cb (i := 1) (u := .string ky) rfl
    go_wp2_with fail
    refine (isKey_any _ _).mono ?_
    rintro e W2 ⟨rfl, hb2⟩
    have M2 := Lib.hid (M1.out.kept hb2)
    clear hb2 k1 M1
    cases hkb : isKeyB ky with
    | false =>
      have HE0 := Lib.hid (show putE σ ki ky vr n = 1 from by unfold putE; rw [if_pos hkb])
      clear hkb
      go_wp2_with fail
      refine (failed_any _ _).mono ?_
      rintro e W9 ⟨rfl, hb9⟩
      have M9 := Lib.hid (M2.out.kept hb9)
      clear hb9
      obtain ⟨⟨q0, q1, q2, q3, q4, q5, q6⟩, r0, r1, r2, r3, r4, r5, r6⟩ := rb_cells M9.out.rb
      unfold rep0
      go_wp2_with fail
      clear q0 q1 q2 q3 q4 q5 q6 r0 r1 r2 r3 r4 r5 r6
      obtain ⟨W5, hW5⟩ : ∃ W5, W5 = setR W9 (w.heap.size + 1) (.int .i64 1) (.slice none 0 0) (.int .i64 0) (.int .i64 0) (.int .i64 0) (.slice none 0 0) (.bool false) := ⟨_, rfl⟩
      have hr5 := setR_at0 M9.out.rb (.int .i64 1) (.slice none 0 0) (.int .i64 0) (.int .i64 0) (.int .i64 0) (.slice none 0 0) (.bool false)
      have Z := M9.out.done HL.out (fun b hb => HF.out b hb) (.int .i64 1) (.slice none 0 0) (.int .i64 0) (.int .i64 0) (.int .i64 0) (.slice none 0 0) (.bool false)
      rw [← hW5] at hr5 Z
      unfold setR at hW5
      rw [← hW5]
      refine bodyPost_ret (ret_rep rfl _ _ (w.heap.size + 1) rfl hr5) rfl ?_
      exact PutSays.no HE0.out (by decide) Z

    | true =>
      have HKB := Lib.hid hkb
      clear hkb
      have k0 := cell_blk2 M2.out.cb (i := 0) (u := .int .i64 ki) rfl
      have k3 := cell_blk2 M2.out.cb (i := 3) (u := .int .i64 vr) rfl
      have o1 := cell_blk2 M2.out.ob (i := 1) (u := .int .i64 ov) rfl
      by_cases hA : ki = 2 ∧ vr ≠ ov
      case pos =>
        obtain ⟨hk2, hne⟩ := hA
        have HE0 := Lib.hid (show putE σ ki ky vr n = 8 from by unfold putE; rw [if_neg (by rw [HKB.out]; decide), if_pos ⟨hk2, by rw [← HOV.out]; exact hne⟩])
        have z1 : (ki == 2) = true := by simpa using hk2
        have z2 : (vr == ov) = false := by simpa using hne
        have z3 : (vr != ov) = true := by simpa using hne
        clear hk2 hne
        go_wp2_with fail
        refine (failed_any _ _).mono ?_
        rintro e W9 ⟨rfl, hb9⟩
        have M9 := Lib.hid (M2.out.kept hb9)
        clear hb9
        obtain ⟨⟨q0, q1, q2, q3, q4, q5, q6⟩, r0, r1, r2, r3, r4, r5, r6⟩ := rb_cells M9.out.rb
        unfold rep0
        go_wp2_with fail
        clear q0 q1 q2 q3 q4 q5 q6 r0 r1 r2 r3 r4 r5 r6
        obtain ⟨W5, hW5⟩ : ∃ W5, W5 = setR W9 (w.heap.size + 1) (.int .i64 8) (.slice none 0 0) (.int .i64 0) (.int .i64 0) (.int .i64 0) (.slice none 0 0) (.bool false) := ⟨_, rfl⟩
        have hr5 := setR_at0 M9.out.rb (.int .i64 8) (.slice none 0 0) (.int .i64 0) (.int .i64 0) (.int .i64 0) (.slice none 0 0) (.bool false)
        have Z := M9.out.done HL.out (fun b hb => HF.out b hb) (.int .i64 8) (.slice none 0 0) (.int .i64 0) (.int .i64 0) (.int .i64 0) (.slice none 0 0) (.bool false)
        rw [← hW5] at hr5 Z
        unfold setR at hW5
        rw [← hW5]
        refine bodyPost_ret (ret_rep rfl _ _ (w.heap.size + 1) rfl hr5) rfl ?_
        exact PutSays.no HE0.out (by decide) Z

      case neg =>
        have HA := Lib.hid hA
        have hAB : (ki == 2) = false ∨ ((ki == 2) = true ∧ (vr == ov) = true ∧ (vr != ov) = false) := by
          by_cases g : ki = 2
          · right
            have g2 : vr = ov := Classical.byContradiction fun e => hA ⟨g, e⟩
            exact ⟨by simpa using g, by simpa using g2, by simp [g2]⟩
          · left; simpa using g
        clear hA
        have k2 := cell_blk2 M2.out.cb (i := 2) (u := .slice a n c) rfl
        have k1 := cell_blk2 M2.out.cb (i := 1) (u := .string ky) rfl
        by_cases hlen : 262144 < n
        case pos =>
          have zn : (262144 : Int) < (n : Int) := by omega
          have znb : decide ((262144 : Int) < (n : Int)) = true := decide_eq_true zn
          have HE0 := Lib.hid (show putE σ ki ky vr n = 5 from by unfold putE; rw [if_neg (by rw [HKB.out]; decide), if_neg (by rw [← HOV.out]; exact HA.out), if_pos hlen])
          clear hlen
          rcases hAB with z | ⟨z, z2, z3⟩
          all_goals
            go_wp2_with fail
            refine (failed_any _ _).mono ?_
            rintro e W9 ⟨rfl, hb9⟩
            have M9 := Lib.hid (M2.out.kept hb9)
            clear hb9
            obtain ⟨⟨q0, q1, q2, q3, q4, q5, q6⟩, r0, r1, r2, r3, r4, r5, r6⟩ := rb_cells M9.out.rb
            unfold rep0
            go_wp2_with fail
            clear q0 q1 q2 q3 q4 q5 q6 r0 r1 r2 r3 r4 r5 r6
            obtain ⟨W5, hW5⟩ : ∃ W5, W5 = setR W9 (w.heap.size + 1) (.int .i64 5) (.slice none 0 0) (.int .i64 0) (.int .i64 0) (.int .i64 0) (.slice none 0 0) (.bool false) := ⟨_, rfl⟩
            have hr5 := setR_at0 M9.out.rb (.int .i64 5) (.slice none 0 0) (.int .i64 0) (.int .i64 0) (.int .i64 0) (.slice none 0 0) (.bool false)
            have Z := M9.out.done HL.out (fun b hb => HF.out b hb) (.int .i64 5) (.slice none 0 0) (.int .i64 0) (.int .i64 0) (.int .i64 0) (.slice none 0 0) (.bool false)
            rw [← hW5] at hr5 Z
            unfold setR at hW5
            rw [← hW5]
            refine bodyPost_ret (ret_rep rfl _ _ (w.heap.size + 1) rfl hr5) rfl ?_
            exact PutSays.no HE0.out (by decide) Z

        case neg =>
          have zn : ¬ (262144 : Int) < (n : Int) := by omega
          have znb : decide ((262144 : Int) < (n : Int)) = false := decide_eq_false zn
          have HLN := Lib.hid hlen
          have c0 := cell_blk2 M2.out.st.blk (i := 0) (u := .map (some Mo)) rfl
          have o0 := cell_blk2 M2.out.ob (i := 0) (u := .string os) rfl
          have hmlen := fun ty => lenO M2.out.st.obj ty
          have hconv := (HX.out.kept M2.out.bel).conv
          have wsub : IntKind.i64.wrap ((n : Int) - (os.size : Int)) = (n : Int) - (os.size : Int) := IntWalk.i64_in _ (by have := HOL.out; omega)
          have c4 := Lib.hid (cell_blk2 M2.out.st.blk (i := 4) (u := .int .i64 σ.size) rfl)
          have HB4 := Lib.hid (show (0 ≤ σ.size ∧ σ.size ≤ 4194304) ∧ (-4194304 ≤ (n : Int) - (os.size : Int) ∧ (n : Int) - (os.size : Int) ≤ 4194304) from ⟨⟨hb.2.2.1, hb.2.2.2⟩, by have := HOL.out; omega⟩)
          clear hlen
          by_cases hfull : oi = false ∧ 512 ≤ σ.objs.length
          case pos =>
            obtain ⟨hof, h512⟩ := hfull
            have hnone : (objOf σ ky).isNone = true := by
              have h1 := HOI.out
              rw [hof] at h1
              unfold objOf
              cases hg : getK slit ky σ.objs with
              | none => rfl
              | some x => rw [hg] at h1; cases h1
            have HE0 := Lib.hid (show putE σ ki ky vr n = 9 from by
              unfold putE
              rw [if_neg (by rw [HKB.out]; decide), if_neg (by rw [← HOV.out]; exact HA.out), if_neg HLN.out, if_pos (.inl ⟨hnone, h512⟩)])
            clear hnone
            have y1 : (512 : Int) ≤ (σ.objs.length : Int) := by omega
            have y2 : decide ((512 : Int) ≤ (σ.objs.length : Int)) = true := decide_eq_true y1
            obtain rfl := hof
            clear h512
            rcases hAB with z | ⟨z, z2, z3⟩
            all_goals
              go_wp2_with fail
              refine (failed_any _ _).mono ?_
              rintro e W9 ⟨rfl, hb9⟩
              have M9 := Lib.hid (M2.out.kept hb9)
              clear hb9
              obtain ⟨⟨q0, q1, q2, q3, q4, q5, q6⟩, r0, r1, r2, r3, r4, r5, r6⟩ := rb_cells M9.out.rb
              unfold rep0
              go_wp2_with fail
              clear q0 q1 q2 q3 q4 q5 q6 r0 r1 r2 r3 r4 r5 r6
              obtain ⟨W5, hW5⟩ : ∃ W5, W5 = setR W9 (w.heap.size + 1) (.int .i64 9) (.slice none 0 0) (.int .i64 0) (.int .i64 0) (.int .i64 0) (.slice none 0 0) (.bool false) := ⟨_, rfl⟩
              have hr5 := setR_at0 M9.out.rb (.int .i64 9) (.slice none 0 0) (.int .i64 0) (.int .i64 0) (.int .i64 0) (.slice none 0 0) (.bool false)
              have Z := M9.out.done HL.out (fun b hb => HF.out b hb) (.int .i64 9) (.slice none 0 0) (.int .i64 0) (.int .i64 0) (.int .i64 0) (.slice none 0 0) (.bool false)
              rw [← hW5] at hr5 Z
              unfold setR at hW5
              rw [← hW5]
              refine bodyPost_ret (ret_rep rfl _ _ (w.heap.size + 1) rfl hr5) rfl ?_
              exact PutSays.no HE0.out (by decide) Z

          case neg =>
            have HFULL := Lib.hid hfull
            have hOB : oi = true ∨ (oi = false ∧ decide ((512 : Int) ≤ (σ.objs.length : Int)) = false ∧ ¬ (512 : Int) ≤ (σ.objs.length : Int)) := by
              cases oi with
              | true => exact .inl rfl
              | false => exact .inr ⟨rfl, decide_eq_false (by have : ¬ 512 ≤ σ.objs.length := fun e => hfull ⟨rfl, e⟩; omega), by have : ¬ 512 ≤ σ.objs.length := fun e => hfull ⟨rfl, e⟩; omega⟩
            clear hfull
            by_cases hroom : σ.size + ((n : Int) - (os.size : Int)) ≤ 4194304
            case neg =>
              have zr : decide (σ.size + ((n : Int) - (os.size : Int)) ≤ 4194304) = false := decide_eq_false hroom
              have HE0 := Lib.hid (show putE σ ki ky vr n = 9 from by
                unfold putE
                rw [if_neg (by rw [HKB.out]; decide), if_neg (by rw [← HOV.out]; exact HA.out), if_neg HLN.out, if_pos (.inr (by have := HOL.out; omega))])
              clear hroom
              rcases hAB with z | ⟨z, z2, z3⟩
              all_goals
                rcases hOB with rfl | ⟨rfl, y1, y2⟩
                all_goals
                  go_wp2_with (go_at_call 41; refine (holds_any c4.out HB4.out.1 HB4.out.2).mono ?_; rintro e w9 ⟨rfl, rfl⟩; rw [zr])
                  go_wp2_with fail
                  refine (failed_any _ _).mono ?_
                  rintro e W9 ⟨rfl, hb9⟩
                  have M9 := Lib.hid (M2.out.kept hb9)
                  clear hb9
                  obtain ⟨⟨q0, q1, q2, q3, q4, q5, q6⟩, r0, r1, r2, r3, r4, r5, r6⟩ := rb_cells M9.out.rb
                  unfold rep0
                  go_wp2_with fail
                  clear q0 q1 q2 q3 q4 q5 q6 r0 r1 r2 r3 r4 r5 r6
                  obtain ⟨W5, hW5⟩ : ∃ W5, W5 = setR W9 (w.heap.size + 1) (.int .i64 9) (.slice none 0 0) (.int .i64 0) (.int .i64 0) (.int .i64 0) (.slice none 0 0) (.bool false) := ⟨_, rfl⟩
                  have hr5 := setR_at0 M9.out.rb (.int .i64 9) (.slice none 0 0) (.int .i64 0) (.int .i64 0) (.int .i64 0) (.slice none 0 0) (.bool false)
                  have Z := M9.out.done HL.out (fun b hb => HF.out b hb) (.int .i64 9) (.slice none 0 0) (.int .i64 0) (.int .i64 0) (.int .i64 0) (.slice none 0 0) (.bool false)
                  rw [← hW5] at hr5 Z
                  unfold setR at hW5
                  rw [← hW5]
                  refine bodyPost_ret (ret_rep rfl _ _ (w.heap.size + 1) rfl hr5) rfl ?_
                  exact PutSays.no HE0.out (by decide) Z

            case pos =>
              have zr : decide (σ.size + ((n : Int) - (os.size : Int)) ≤ 4194304) = true := decide_eq_true hroom
              have HE0 := Lib.hid (show putE σ ki ky vr n = 0 from by
                unfold putE
                rw [if_neg (by rw [HKB.out]; decide), if_neg (by rw [← HOV.out]; exact HA.out), if_neg HLN.out, if_neg (by
                  rintro (⟨g1, g2⟩ | g)
                  · refine HFULL.out ⟨?_, g2⟩
                    rw [HOI.out]
                    unfold objOf at g1
                    cases hg : getK slit ky σ.objs with
                    | none => rfl
                    | some x => rw [hg] at g1; cases g1
                  · have := HOL.out; omega)])
              clear hroom
              rcases hAB with z | ⟨z, z2, z3⟩
              all_goals
                rcases hOB with rfl | ⟨rfl, y1, y2⟩
                all_goals
                  go_wp2_with (go_at_call 41; refine (holds_any c4.out HB4.out.1 HB4.out.2).mono ?_; rintro e w9 ⟨rfl, rfl⟩; rw [zr])
                  refine (make_any M2.out.st ky (bs xs) hk (by rw [HBS.out]; have := HLN.out; omega) ⟨hb.1, hb.2.1, hb.2.2.1, hb.2.2.2⟩ (by omega) (by omega)).mono ?_
                  rintro e W3 ⟨rfl, hst3, hfr3⟩
                  have hrb3 : W3.heap[w.heap.size + 1]? = some (.cells zrep 35 (0, 0)) := hfr3.at M2.out.rb (fun hb => by have := HF.out _ hb; omega)
                  have HST := Lib.hid hst3
                  have HFR := Lib.hid hfr3
                  have HRB := Lib.hid hrb3
                  obtain ⟨⟨q0, q1, q2, q3, q4, q5, q6⟩, r0, r1, r2, r3, r4, r5, r6⟩ := rb_cells hrb3
                  clear hst3 hfr3 hrb3
                  unfold rep
                  go_wp2_with fail
                  clear q0 q1 q2 q3 q4 q5 q6 r0 r1 r2 r3 r4 r5 r6
                  obtain ⟨W5, hW5⟩ : ∃ W5, W5 = setR W3 (w.heap.size + 1) (.int .i64 0) (.slice none 0 0) (.int .i64 (σ.ver + 1)) (.int .i64 σ.now) (.int .i64 0) (.slice none 0 0) (.bool false) := ⟨_, rfl⟩
                  have hr5 := setR_at0 HRB.out (.int .i64 0) (.slice none 0 0) (.int .i64 (σ.ver + 1)) (.int .i64 σ.now) (.int .i64 0) (.slice none 0 0) (.bool false)
                  have hF5 := (Frm.refl (fun b => b = w.heap.size + 1) W3).setR (R := w.heap.size + 1) (.inl rfl) (.int .i64 0) (.slice none 0 0) (.int .i64 (σ.ver + 1)) (.int .i64 σ.now) (.int .i64 0) (.slice none 0 0) (.bool false)
                  rw [← hW5] at hr5 hF5
                  unfold setR at hW5
                  rw [← hW5]
                  refine bodyPost_ret (ret_rep rfl _ _ (w.heap.size + 1) rfl hr5) rfl ?_
                  exact put_end HE0.out HST.out HFR.out M2.out.bel hF5 HF.out
end Go.Proofs.Ytjafagfhkpaciaa
