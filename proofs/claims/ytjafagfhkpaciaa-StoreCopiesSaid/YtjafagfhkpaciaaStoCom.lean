/- The store's complete, walked. Written by genstocom.py. -/
import Derived.Test.YtjafagfhkpaciaaStoPrt
import Derived.Test.YtjafagfhkpaciaaStoPut
import Derived.Test.YtjafagfhkpaciaaStoBld
import Derived.Deep.RegionWith
namespace Go.Proofs.Ytjafagfhkpaciaa
open Go.RowKit
set_option linter.unusedVariables false

/-- the first k parts' bytes, one behind the other; none: one lacks -/
def catP (l : List (Int × ByteArray)) : Nat → Option (List UInt8)
  | 0 => some []
  | k + 1 => match catP l k with
    | none => none
    | some d => match getK ilit ((k + 1 : Nat) : Int) l with
      | none => none
      | some p => some (d ++ p.data.toList)
theorem catP_none {l : List (Int × ByteArray)} {k : Nat} (h : getK ilit ((k + 1 : Nat) : Int) l = none) : ∀ n, k < n → catP l n = none
  | n + 1, hn => by
    rcases Nat.lt_or_ge k n with g | g
    · rw [catP, catP_none h n g]
    · obtain rfl : k = n := by omega
      rw [catP]
      cases catP l k with
      | none => rfl
      | some d => simp only [h]
theorem catP_succ {l : List (Int × ByteArray)} {k : Nat} {d : List UInt8} {p : ByteArray} (h : catP l k = some d) (hp : getK ilit ((k + 1 : Nat) : Int) l = some p) : catP l (k + 1) = some (d ++ p.data.toList) := by
  rw [catP, h]
  simp only [hp]
theorem catP_len {l : List (Int × ByteArray)} {m : Nat} (hm : ∀ x ∈ l, x.2.size ≤ m) : ∀ {k : Nat} {d : List UInt8}, catP l k = some d → d.length ≤ k * m
  | 0, d, h => by
    have h2 : (some [] : Option (List UInt8)) = some d := h
    cases h2; simp
  | k + 1, d, h => by
    rw [catP] at h
    cases hc : catP l k with
    | none => rw [hc] at h; cases h
    | some d' =>
      rw [hc] at h
      simp only at h
      cases hg : getK ilit ((k + 1 : Nat) : Int) l with
      | none => rw [hg] at h; cases h
      | some p =>
        rw [hg] at h
        simp only [Option.some.injEq] at h
        subst h
        have h1 := catP_len hm hc
        have h2 := hm _ (get_mem ilit_inj hg)
        simp only at h2
        rw [List.length_append, Nat.succ_mul]
        have h3 : p.data.toList.length = p.size := by simp
        omega
def comE (σ : Sto) (i nn : Int) : Int :=
  match upOf σ i with
  | none => 7
  | some u => if nn < 1 ∨ nn ≠ (u.parts.length : Int) then 4 else match catP u.parts nn.toNat with
    | none => 4
    | some d => if 262144 < d.length then 5 else if (objOf σ u.key).isNone = true ∧ 512 ≤ σ.objs.length then 9 else 0
def comS (σ : Sto) (i : Int) (u : UplS) (d : List UInt8) : Sto := makeS (dropS σ i (psz u.parts)) u.key ⟨d.toArray⟩
def ComSays (w : World) (s Mo Mu : Nat) (σ : Sto) (i nn : Int) (e : Ending) (w' : World) : Prop :=
  (comE σ i nn ≠ 0 → e = .returned (rep0 (comE σ i nn)) ∧ StAt w' s Mo Mu σ ∧ Below w.heap.size w w') ∧
  (comE σ i nn = 0 → ∃ u d, upOf σ i = some u ∧ catP u.parts nn.toNat = some d ∧ e = .returned (rep 0 (.slice none 0 0) (σ.ver + 1) σ.now 0 (.slice none 0 0) false) ∧ StAt w' s Mo Mu (comS σ i u d) ∧ Frm (StF s Mo Mu σ) w w')
theorem ComSays.no {w w' : World} {s Mo Mu : Nat} {σ : Sto} {i nn x : Int} (h : comE σ i nn = x) (hx : x ≠ 0) (Z : StAt w' s Mo Mu σ ∧ Below w.heap.size w w') : ComSays w s Mo Mu σ i nn (.returned (rep0 x)) w' := by
  subst h
  exact ⟨fun _ => ⟨rfl, Z.1, Z.2⟩, fun e => absurd e hx⟩
theorem ComSays.yes {w w' : World} {s Mo Mu : Nat} {σ : Sto} {i nn : Int} {u : UplS} {d : List UInt8} (hu : upOf σ i = some u) (hd : catP u.parts nn.toNat = some d) (h : comE σ i nn = 0) (Z : StAt w' s Mo Mu (comS σ i u d) ∧ Frm (StF s Mo Mu σ) w w') : ComSays w s Mo Mu σ i nn (.returned (rep 0 (.slice none 0 0) (σ.ver + 1) σ.now 0 (.slice none 0 0) false)) w' :=
  ⟨fun e => absurd h e, fun _ => ⟨u, d, hu, hd, rfl, Z.1, Z.2⟩⟩
theorem StF.make {s Mo Mu : Nat} {σ : Sto} {k d : ByteArray} {b : Nat} (h : StF s Mo Mu (makeS σ k d) b) : StF s Mo Mu σ b := h
set_option maxRecDepth 100000 in
set_option maxHeartbeats 4000000 in
theorem complete_any {w : World} {s Mo Mu : Nat} {σ : Sto} (h : StAt w s Mo Mu σ) {ki vr at_ nn id : Int} {ky : ByteArray} {a : Option Addr} {n c : Nat} (hid : (Lit.int .i64 id).wf = true) (hok : OkU σ) (hz : 0 ≤ σ.size ∧ σ.size ≤ 4194304) (hzu : ∀ p ∈ σ.ups, (psz p.2.parts : Int) ≤ σ.size) (hks : ∀ p ∈ σ.ups, p.2.key.size ≤ 1000000000000000) (hv : 0 ≤ σ.ver ∧ σ.ver ≤ 1099511627776) (hn : σ.objs.length ≤ 512) (hol : ∀ k, oldLen σ k ≤ 262144) :
    Calls Try.prog 30 #[.pointer (some ⟨s, 0, none⟩), .agg #[.int .i64 ki, .string ky, .slice a n c, .int .i64 vr, .int .i64 at_, .int .i64 nn, .int .i64 id]] w (ComSays w s Mo Mu σ id nn) := by
  have HE := Lib.hid (ent_mk h #[.int .i64 ki, .string ky, .slice a n c, .int .i64 vr, .int .i64 at_, .int .i64 nn, .int .i64 id])
  have HL := Lib.hid h.lts
  have HF := Lib.hid (show ∀ b, StF s Mo Mu σ b → b < w.heap.size from fun b hb => h.lt hb)
  have HS := Lib.hid h
  have HKS := Lib.hid hks
  have HOLD := Lib.hid hol
  have HZU := Lib.hid hzu
  clear h hks hol hzu
  go_enter Try.func30, Try.ntmps30
  go_wp2_with fail
  obtain ⟨W0, hW0⟩ : ∃ W0, W0 = (w.alloc (.cells #[.int .i64 ki, .string ky, .slice a n c, .int .i64 vr, .int .i64 at_, .int .i64 nn, .int .i64 id] 29)).alloc (.cells zrep 35) := ⟨_, rfl⟩
  rw [← hW0] at HE
  unfold zrep at hW0
  rw [← hW0]
  clear hW0
  have hk0 : w.heap.size < W0.heap.size := by have := HE.out.sz; omega
  have hr0 : w.heap.size + 1 < W0.heap.size := by have := HE.out.sz; omega
  have hs0 := HE.out.st.lts
  have ez0 := Lib.hid HE.out.sz
  obtain ⟨us, ub, up, hus⟩ := field_upl σ id
  obtain ⟨oi, hoi⟩ : ∃ oi, oi = (getK ilit id σ.ups).isSome := ⟨_, rfl⟩
  have HUS := Lib.hid hus
  have HLA := Lib.hid (show ∀ w9, Below W0.heap.size W0 w9 → (Instr.lookup 59 (.map (some Mu)) (.int .i64 id) true).run Try.prog w9 = .ok (.tuple #[.agg #[.string us, .int .i64 ub, .map up], .bool oi]) w9 from fun w9 h9 => by
    have h8 := lookU2 (HE.out.st.upl.below h9) id hid
    rw [hus, ← hoi] at h8
    exact h8)
  have HOI := Lib.hid hoi
  clear hus hoi
  refine wp_region_inv (by kernel_rfl) (by kernel_rfl) (by kernel_rfl) (OB W0 (.cells #[.string { data := #[] }, .int .i64 0, .map none] 68) (.cells #[.string us, .int .i64 ub, .map up] 68) (fun j_9 => match j_9 with | 0 => some (.pointer (some ⟨s, 0, none⟩)) | 1 => some (.pointer (some ⟨s, 0, none⟩)) | 2 => some (.pointer (some ⟨s, 1, none⟩)) | 3 => some (.map (some Mu)) | 4 => some (.pointer (some ⟨w.heap.size, 6, none⟩)) | 5 => some (.int .i64 id) | 6 => some (.tuple #[.agg #[.string us, .int .i64 ub, .map up], .bool oi]) | 7 => some (.tuple #[.agg #[.string us, .int .i64 ub, .map up], .bool oi]) | 8 => some (.agg #[.string us, .int .i64 ub, .map up]) | 9 => some (.bool oi) | 10 => some (.pointer (some ⟨W0.heap.size, 0, none⟩)) | 11 => none | 12 => some (.bool oi) | _ => none) 10 11) (fun V => OB.start V) ?_ ?_
  · intro j9 o ho L9 V w9 K hI hL hdep hK
    have HI9 := Lib.hid hI
    have hJ := hI.below
    simp only [fill, slotOf, List.size_toArray, List.length_cons, List.length_nil, Nat.reduceAdd, List.getElem?_toArray, List.getElem?_cons_zero, List.getElem?_cons_succ, Option.bind_some, Act.put, List.setIfInBounds_toArray, List.set_cons_zero, List.set_cons_succ] at hK ⊢
    have hin : j9 < 13 := (Array.getElem?_eq_some_iff.1 ho).1
    have hcs : j9 = 0 ∨ j9 = 1 ∨ j9 = 2 ∨ j9 = 3 ∨ j9 = 4 ∨ j9 = 5 ∨ j9 = 6 ∨ j9 = 7 ∨ j9 = 8 ∨ j9 = 9 ∨ j9 = 10 ∨ j9 = 11 ∨ j9 = 12 := by omega
    clear hin
    rcases hcs with rfl | rfl | rfl | rfl | rfl | rfl | rfl | rfl | rfl | rfl | rfl | rfl | rfl
    · obtain rfl := Option.some.inj ho.symm
      clear hdep ho hI hL hJ
      try simp only [fill, slotOf, List.size_toArray, List.length_cons, List.length_nil, Nat.reduceAdd, List.getElem?_toArray, List.getElem?_cons_zero, List.getElem?_cons_succ, Option.bind_some, Act.put, List.setIfInBounds_toArray, List.set_cons_zero, List.set_cons_succ] at hK ⊢
      go_simp
      exact hK (.pointer (some ⟨s, 0, none⟩)) _ (HI9.out.put 0 _ (by decide) (fun v h => Option.some.inj h)) _ rfl
    · obtain rfl := Option.some.inj ho.symm
      have d0 : V 0 = .pointer (some ⟨s, 0, none⟩) := hI.val 0 _ (hdep ⟨0, .data⟩ (by simp) rfl) rfl
      clear hdep ho hI hL hJ
      try simp only [fill, slotOf, List.size_toArray, List.length_cons, List.length_nil, Nat.reduceAdd, List.getElem?_toArray, List.getElem?_cons_zero, List.getElem?_cons_succ, Option.bind_some, Act.put, List.setIfInBounds_toArray, List.set_cons_zero, List.set_cons_succ] at hK ⊢
      rw [d0] at hK ⊢
      go_simp
      exact hK (.pointer (some ⟨s, 0, none⟩)) _ (HI9.out.put 1 _ (by decide) (fun v h => Option.some.inj h)) _ rfl
    · obtain rfl := Option.some.inj ho.symm
      have d1 : V 1 = .pointer (some ⟨s, 0, none⟩) := hI.val 1 _ (hdep ⟨1, .data⟩ (by simp) rfl) rfl
      clear hdep ho hI hL hJ
      try simp only [fill, slotOf, List.size_toArray, List.length_cons, List.length_nil, Nat.reduceAdd, List.getElem?_toArray, List.getElem?_cons_zero, List.getElem?_cons_succ, Option.bind_some, Act.put, List.setIfInBounds_toArray, List.set_cons_zero, List.set_cons_succ] at hK ⊢
      rw [d1] at hK ⊢
      go_simp
      exact hK (.pointer (some ⟨s, 1, none⟩)) _ (HI9.out.put 2 _ (by decide) (fun v h => Option.some.inj h)) _ rfl
    · obtain rfl := Option.some.inj ho.symm
      have d2 : V 2 = .pointer (some ⟨s, 1, none⟩) := hI.val 2 _ (hdep ⟨2, .data⟩ (by simp) rfl) rfl
      have g9 := cell_blk2 ((hJ.block s hs0).trans HE.out.st.blk) (i := 1) (u := .map (some Mu)) rfl
      clear hdep ho hI hL hJ
      try simp only [fill, slotOf, List.size_toArray, List.length_cons, List.length_nil, Nat.reduceAdd, List.getElem?_toArray, List.getElem?_cons_zero, List.getElem?_cons_succ, Option.bind_some, Act.put, List.setIfInBounds_toArray, List.set_cons_zero, List.set_cons_succ] at hK ⊢
      rw [d2] at hK ⊢
      go_simp
      exact hK (.map (some Mu)) _ (HI9.out.put 3 _ (by decide) (fun v h => Option.some.inj h)) _ rfl
    · obtain rfl := Option.some.inj ho.symm
      clear hdep ho hI hL hJ
      try simp only [fill, slotOf, List.size_toArray, List.length_cons, List.length_nil, Nat.reduceAdd, List.getElem?_toArray, List.getElem?_cons_zero, List.getElem?_cons_succ, Option.bind_some, Act.put, List.setIfInBounds_toArray, List.set_cons_zero, List.set_cons_succ] at hK ⊢
      go_simp
      exact hK (.pointer (some ⟨w.heap.size, 6, none⟩)) _ (HI9.out.put 4 _ (by decide) (fun v h => Option.some.inj h)) _ rfl
    · obtain rfl := Option.some.inj ho.symm
      have d4 : V 4 = .pointer (some ⟨w.heap.size, 6, none⟩) := hI.val 4 _ (hdep ⟨4, .data⟩ (by simp) rfl) rfl
      have g9 := cell_blk2 ((hJ.block w.heap.size hk0).trans HE.out.cb) (i := 6) (u := .int .i64 id) rfl
      clear hdep ho hI hL hJ
      try simp only [fill, slotOf, List.size_toArray, List.length_cons, List.length_nil, Nat.reduceAdd, List.getElem?_toArray, List.getElem?_cons_zero, List.getElem?_cons_succ, Option.bind_some, Act.put, List.setIfInBounds_toArray, List.set_cons_zero, List.set_cons_succ] at hK ⊢
      rw [d4] at hK ⊢
      go_simp
      exact hK (.int .i64 id) _ (HI9.out.put 5 _ (by decide) (fun v h => Option.some.inj h)) _ rfl
    · obtain rfl := Option.some.inj ho.symm
      have d3 : V 3 = .map (some Mu) := hI.val 3 _ (hdep ⟨3, .data⟩ (by simp) rfl) rfl
      have d5 : V 5 = .int .i64 id := hI.val 5 _ (hdep ⟨5, .data⟩ (by simp) rfl) rfl
      have g9 := HLA.out w9 hJ
      clear hdep ho hI hL hJ
      try simp only [fill, slotOf, List.size_toArray, List.length_cons, List.length_nil, Nat.reduceAdd, List.getElem?_toArray, List.getElem?_cons_zero, List.getElem?_cons_succ, Option.bind_some, Act.put, List.setIfInBounds_toArray, List.set_cons_zero, List.set_cons_succ] at hK ⊢
      rw [d3, d5] at hK ⊢
      go_simp
      exact hK (.tuple #[.agg #[.string us, .int .i64 ub, .map up], .bool oi]) _ (HI9.out.put 6 _ (by decide) (fun v h => Option.some.inj h)) _ rfl
    · obtain rfl := Option.some.inj ho.symm
      have d6 : V 6 = .tuple #[.agg #[.string us, .int .i64 ub, .map up], .bool oi] := hI.val 6 _ (hdep ⟨6, .data⟩ (by simp) rfl) rfl
      clear hdep ho hI hL hJ
      try simp only [fill, slotOf, List.size_toArray, List.length_cons, List.length_nil, Nat.reduceAdd, List.getElem?_toArray, List.getElem?_cons_zero, List.getElem?_cons_succ, Option.bind_some, Act.put, List.setIfInBounds_toArray, List.set_cons_zero, List.set_cons_succ] at hK ⊢
      rw [d6] at hK ⊢
      go_simp
      exact hK (.tuple #[.agg #[.string us, .int .i64 ub, .map up], .bool oi]) _ (HI9.out.put 7 _ (by decide) (fun v h => Option.some.inj h)) _ rfl
    · obtain rfl := Option.some.inj ho.symm
      have d7 : V 7 = .tuple #[.agg #[.string us, .int .i64 ub, .map up], .bool oi] := hI.val 7 _ (hdep ⟨7, .data⟩ (by simp) rfl) rfl
      clear hdep ho hI hL hJ
      try simp only [fill, slotOf, List.size_toArray, List.length_cons, List.length_nil, Nat.reduceAdd, List.getElem?_toArray, List.getElem?_cons_zero, List.getElem?_cons_succ, Option.bind_some, Act.put, List.setIfInBounds_toArray, List.set_cons_zero, List.set_cons_succ] at hK ⊢
      rw [d7] at hK ⊢
      go_simp
      exact hK (.agg #[.string us, .int .i64 ub, .map up]) _ (HI9.out.put 8 _ (by decide) (fun v h => Option.some.inj h)) _ rfl
    · obtain rfl := Option.some.inj ho.symm
      have d7 : V 7 = .tuple #[.agg #[.string us, .int .i64 ub, .map up], .bool oi] := hI.val 7 _ (hdep ⟨7, .data⟩ (by simp) rfl) rfl
      clear hdep ho hI hL hJ
      try simp only [fill, slotOf, List.size_toArray, List.length_cons, List.length_nil, Nat.reduceAdd, List.getElem?_toArray, List.getElem?_cons_zero, List.getElem?_cons_succ, Option.bind_some, Act.put, List.setIfInBounds_toArray, List.set_cons_zero, List.set_cons_succ] at hK ⊢
      rw [d7] at hK ⊢
      go_simp
      exact hK (.bool oi) _ (HI9.out.put 9 _ (by decide) (fun v h => Option.some.inj h)) _ rfl
    · obtain rfl := Option.some.inj ho.symm
      have HL9 := Lib.hid hL
      have e9 := hI.sa hL
      clear hdep ho hI hL hJ
      subst e9
      try simp only [fill, slotOf, List.size_toArray, List.length_cons, List.length_nil, Nat.reduceAdd, List.getElem?_toArray, List.getElem?_cons_zero, List.getElem?_cons_succ, Option.bind_some, Act.put, List.setIfInBounds_toArray, List.set_cons_zero, List.set_cons_succ] at hK ⊢
      go_simp
      exact hK (.pointer (some ⟨W0.heap.size, 0, none⟩)) _ (HI9.out.puta (by decide) HL9.out _ (fun v h => Option.some.inj h)) _ rfl
    · obtain rfl := Option.some.inj ho.symm
      have d10 : V 10 = .pointer (some ⟨W0.heap.size, 0, none⟩) := hI.val 10 _ (hdep ⟨10, .data⟩ (by simp) rfl) rfl
      have d8 : V 8 = .agg #[.string us, .int .i64 ub, .map up] := hI.val 8 _ (hdep ⟨8, .data⟩ (by simp) rfl) rfl
      have la : L9 10 = true := hdep ⟨10, .data⟩ (by simp) rfl
      have HLA := Lib.hid la
      have e9 := hI.sb la hL
      clear hdep ho hI hL hJ la
      subst e9
      try simp only [fill, slotOf, List.size_toArray, List.length_cons, List.length_nil, Nat.reduceAdd, List.getElem?_toArray, List.getElem?_cons_zero, List.getElem?_cons_succ, Option.bind_some, Act.put, List.setIfInBounds_toArray, List.set_cons_zero, List.set_cons_succ] at hK ⊢
      rw [d10, d8] at hK ⊢
      go_simp
      exact hK undef _ (HI9.out.puts HLA.out _ (fun v h => by cases h)) _ rfl
    · obtain rfl := Option.some.inj ho.symm
      have d9 : V 9 = .bool oi := hI.val 9 _ (hdep ⟨9, .data⟩ (by simp) rfl) rfl
      clear hdep ho hI hL hJ
      try simp only [fill, slotOf, List.size_toArray, List.length_cons, List.length_nil, Nat.reduceAdd, List.getElem?_toArray, List.getElem?_cons_zero, List.getElem?_cons_succ, Option.bind_some, Act.put, List.setIfInBounds_toArray, List.set_cons_zero, List.set_cons_succ] at hK ⊢
      rw [d9] at hK ⊢
      go_simp
      exact hK (.bool oi) _ (HI9.out.put 12 _ (by decide) (fun v h => Option.some.inj h)) _ rfl
  · intro L9 V w9 hI hall
    have k10 : V 10 = .pointer (some ⟨W0.heap.size, 0, none⟩) := hI.val 10 _ (hall 10 (by decide)) rfl
    have k12 : V 12 = .bool oi := hI.val 12 _ (hall 12 (by decide)) rfl
    have e9 := hI.sc (hall 11 (by decide))
    clear hI hall
    subst e9
    simp only [fill, slotOf, List.size_toArray, List.length_cons, List.length_nil, Nat.reduceAdd, List.getElem?_toArray, List.getElem?_cons_zero, List.getElem?_cons_succ, Option.bind_some, Act.put, List.setIfInBounds_toArray, List.set_cons_zero, List.set_cons_succ]
    rw [k10, k12]
    clear k10 k12
    obtain ⟨W1, hW1⟩ : ∃ W1, W1 = (W0.alloc (.cells #[.string us, .int .i64 ub, .map up] 68)).drew := ⟨_, rfl⟩
    have M1 := Lib.hid (md_mk HE.out #[.string us, .int .i64 ub, .map up] 68)
    rw [← hW1] at M1
    rw [← hW1]
    rw [ez0.out]
    clear hW1 HE hk0 hr0 hs0 ez0 HLA
    cases oi with
    | false =>
      have HE0 := Lib.hid (show comE σ id nn = 7 from by
        have h1 := HOI.out
        unfold comE upOf
        cases hg : getK ilit id σ.ups with
        | none => rfl
        | some x => rw [hg] at h1; cases h1)
      go_wp2_with fail
      refine (failed_any _ _).mono ?_
      rintro e W9 ⟨rfl, hb9⟩
      have M9 := Lib.hid (M1.out.kept hb9)
      clear hb9
      obtain ⟨⟨q0, q1, q2, q3, q4, q5, q6⟩, r0, r1, r2, r3, r4, r5, r6⟩ := rb_cells M9.out.rb
      unfold rep0
      go_wp2_with fail
      clear q0 q1 q2 q3 q4 q5 q6 r0 r1 r2 r3 r4 r5 r6
      obtain ⟨W5, hW5⟩ : ∃ W5, W5 = setR W9 (w.heap.size + 1) (.int .i64 7) (.slice none 0 0) (.int .i64 0) (.int .i64 0) (.int .i64 0) (.slice none 0 0) (.bool false) := ⟨_, rfl⟩
      have hr5 := setR_at0 M9.out.rb (.int .i64 7) (.slice none 0 0) (.int .i64 0) (.int .i64 0) (.int .i64 0) (.slice none 0 0) (.bool false)
      have Z := M9.out.done HL.out (fun b hb => HF.out b hb) (.int .i64 7) (.slice none 0 0) (.int .i64 0) (.int .i64 0) (.int .i64 0) (.slice none 0 0) (.bool false)
      rw [← hW5] at hr5 Z
      unfold setR at hW5
      rw [← hW5]
      refine bodyPost_ret (ret_rep rfl _ _ (w.heap.size + 1) rfl hr5) rfl ?_
      exact ComSays.no HE0.out (by decide) Z

    | true =>
      obtain ⟨u, hu⟩ : ∃ u, upOf σ id = some u := by
        have h1 := HOI.out
        unfold upOf
        cases hg : getK ilit id σ.ups with
        | none => rw [hg] at h1; cases h1
        | some x => exact ⟨x, rfl⟩
      have hm := get_mem ilit_inj hu
      obtain ⟨rfl, rfl, rfl⟩ := upl_eq HUS.out hu
      have HU := Lib.hid hu
      have HM := Lib.hid hm
      have HPN := Lib.hid (hok.num _ hm)
      have HPM := Lib.hid (show ∀ x ∈ u.parts, x.2.size ≤ 4194304 from fun x hx => Nat.le_trans (tot_mem (fun d : ByteArray => d.size) hx) (hok.siz _ hm))
      clear hu hm HUS
      have k5 := cell_blk2 M1.out.cb (i := 5) (u := .int .i64 nn) rfl
      have o2 := cell_blk2 M1.out.ob (i := 2) (u := .map (some u.pb)) rfl
      have hgp := M1.out.st.prt _ HM.out
      have hmlen := fun ty => lenP hgp ty
      clear hgp
      by_cases hN : nn < 1 ∨ nn ≠ (u.parts.length : Int)
      case pos =>
        have HE0 := Lib.hid (show comE σ id nn = 4 from by unfold comE; rw [HU.out]; simp only; rw [if_pos hN])
        have hN2 : (decide (nn < 1) = true ∧ nn < 1) ∨ (decide (nn < 1) = false ∧ ¬ nn < 1 ∧ (nn == (u.parts.length : Int)) = false ∧ (nn != (u.parts.length : Int)) = true) := by
          rcases hN with g | g
          · exact .inl ⟨decide_eq_true g, g⟩
          · rcases Int.lt_or_le nn 1 with g2 | g2
            · exact .inl ⟨decide_eq_true g2, g2⟩
            · exact .inr ⟨decide_eq_false (by omega), by omega, by simpa using g, by simpa using g⟩
        clear hN
        rcases hN2 with ⟨g1, g2⟩ | ⟨g1, g2, g3, g4⟩
        all_goals
          go_wp2_with fail
          refine (failed_any _ _).mono ?_
          rintro e W9 ⟨rfl, hb9⟩
          have M9 := Lib.hid (M1.out.kept hb9)
          clear hb9
          obtain ⟨⟨q0, q1, q2, q3, q4, q5, q6⟩, r0, r1, r2, r3, r4, r5, r6⟩ := rb_cells M9.out.rb
          unfold rep0
          go_wp2_with fail
          clear q0 q1 q2 q3 q4 q5 q6 r0 r1 r2 r3 r4 r5 r6
          obtain ⟨W5, hW5⟩ : ∃ W5, W5 = setR W9 (w.heap.size + 1) (.int .i64 4) (.slice none 0 0) (.int .i64 0) (.int .i64 0) (.int .i64 0) (.slice none 0 0) (.bool false) := ⟨_, rfl⟩
          have hr5 := setR_at0 M9.out.rb (.int .i64 4) (.slice none 0 0) (.int .i64 0) (.int .i64 0) (.int .i64 0) (.slice none 0 0) (.bool false)
          have Z := M9.out.done HL.out (fun b hb => HF.out b hb) (.int .i64 4) (.slice none 0 0) (.int .i64 0) (.int .i64 0) (.int .i64 0) (.slice none 0 0) (.bool false)
          rw [← hW5] at hr5 Z
          unfold setR at hW5
          rw [← hW5]
          refine bodyPost_ret (ret_rep rfl _ _ (w.heap.size + 1) rfl hr5) rfl ?_
          exact ComSays.no HE0.out (by decide) Z

      case neg =>
        have HN := Lib.hid hN
        have hnn : nn = (u.parts.length : Int) ∧ 1 ≤ nn := by omega
        obtain ⟨N, hNe⟩ : ∃ N : Nat, N = u.parts.length := ⟨_, rfl⟩
        obtain ⟨hnn1, hnn2⟩ := hnn
        rw [← hNe] at hnn1
        subst hnn1
        have HNE := Lib.hid hNe
        have HK0 := Lib.hid (show (N : Int).toNat = N from by omega)
        have g1 : decide ((N : Int) < 1) = false := decide_eq_false (by omega)
        have g2 : ¬ (N : Int) < 1 := by omega
        have g3 : ((N : Int) == (u.parts.length : Int)) = true := by rw [← hNe]; simp
        have g4 : ((N : Int) != (u.parts.length : Int)) = false := by rw [← hNe]; simp
        have hN32 : N ≤ 32 := by rw [hNe]; exact HPN.out
        clear hN hNe hnn2
        obtain ⟨bd, hbd⟩ : ∃ bd, bd = W1.heap.size := ⟨_, rfl⟩
        have HBQ := Lib.hid hbd
        have HBS := Lib.hid (show bd ≤ W1.heap.size by omega)
        have HBD := Lib.hid (show w.heap.size + 2 < bd by rw [hbd]; exact (Array.getElem?_eq_some_iff.1 M1.out.ob).1)
        have hIs : IsB bd bd (Lib.byteCells []) (W1.alloc (.cells #[.pointer none, .slice none 0 0] 91)) := by rw [hbd]; exact IsB.fresh
        have HIS := Lib.hid hIs
        have HBW0 := Lib.hid (show Below W1.heap.size W1 (W1.alloc (.cells #[.pointer none, .slice none 0 0] 91)) from (Below.refl _ _).alloc (Nat.le_refl _) _)
        clear hIs
        have lc : w.heap.size < W1.heap.size := (Array.getElem?_eq_some_iff.1 M1.out.cb).1
        go_wp2_with fail
        rw [← hbd]
        clear lc hbd k5 o2 hmlen g1 g2 g3 g4
        go_loopw [8, 9, 10, 40] (fun s8 s9 s10 s40 wr => ∃ (k : Nat) (dd : List UInt8), k ≤ N ∧ s40 = .int .i64 (k : Int) ∧ Hid (catP u.parts k = some dd) ∧ Hid (IsB bd bd (Lib.byteCells dd) wr) ∧ Hid (Below W1.heap.size W1 wr)) (fun _ _ _ s40 _ => N - (intOf s40).toNat)
        case atStart => exact ⟨0, [], by omega, rfl, Lib.hid rfl, HIS, HBW0⟩
        case round =>
          obtain ⟨k, dd, hkN, rfl, HC, HI, HBW⟩ := hrel
          have M9 := Lib.hid (M1.out.kept HBW.out)
          by_cases hkn : k < N
          case neg =>
            obtain rfl : N = k := by omega
            have HD := Lib.hid (catP_len (m := 4194304) HPM.out HC.out)
            have hdl : dd.length ≤ 200000000 := by have := HD.out; have := HPN.out; omega
            have zk : ¬ (N : Int) < (N : Int) := by omega
            have hcl : (Lib.byteCells dd).length = dd.length := Lib.byteCells_length dd
            have HCL := Lib.hid hcl
            clear hcl
            go_wp2_with fail
            refine (sh_Builder_Len bd bd (Lib.byteCells dd) wr HI.out).mono ?_
            rintro e w9 ⟨rfl, hw9⟩
            obtain rfl : wr = w9 := hw9.symm
            rw [HCL.out]
            by_cases h5 : 262144 < dd.length
            case pos =>
              have zn : (262144 : Int) < (dd.length : Int) := by omega
              have znb : decide ((262144 : Int) < (dd.length : Int)) = true := decide_eq_true zn
              have HE0 := Lib.hid (show comE σ id (N : Int) = 5 from by unfold comE; rw [HU.out]; simp only; rw [if_neg HN.out, HK0.out, HC.out]; simp only; rw [if_pos h5])
              clear h5
              go_wp2_with fail
              refine (failed_any _ _).mono ?_
              rintro e W9 ⟨rfl, hb9⟩
              have M9 := Lib.hid (M9.out.kept hb9)
              clear hb9
              obtain ⟨⟨q0, q1, q2, q3, q4, q5, q6⟩, r0, r1, r2, r3, r4, r5, r6⟩ := rb_cells M9.out.rb
              unfold rep0
              go_wp2_with fail
              clear q0 q1 q2 q3 q4 q5 q6 r0 r1 r2 r3 r4 r5 r6
              obtain ⟨W5, hW5⟩ : ∃ W5, W5 = setR W9 (w.heap.size + 1) (.int .i64 5) (.slice none 0 0) (.int .i64 0) (.int .i64 0) (.int .i64 0) (.slice none 0 0) (.bool false) := ⟨_, rfl⟩
              have hr5 := setR_at0 M9.out.rb (.int .i64 5) (.slice none 0 0) (.int .i64 0) (.int .i64 0) (.int .i64 0) (.slice none 0 0) (.bool false)
              have Z := M9.out.done HL.out (fun b hb => HF.out b hb) (.int .i64 5) (.slice none 0 0) (.int .i64 0) (.int .i64 0) (.int .i64 0) (.slice none 0 0) (.bool false)
              rw [← hW5] at hr5 Z
              unfold setR at hW5
              rw [← hW5]
              refine bodyPost_ret (ret_rep rfl _ _ (w.heap.size + 1) rfl hr5) rfl ?_
              exact ComSays.no HE0.out (by decide) Z

            case neg =>
              have zn : ¬ (262144 : Int) < (dd.length : Int) := by omega
              have znb : decide ((262144 : Int) < (dd.length : Int)) = false := decide_eq_false zn
              have HD5 := Lib.hid h5
              obtain ⟨os, ob, hos, hol⟩ := field_obj2 σ u.key
              obtain ⟨ov, hov⟩ : ∃ ov, ov = oldVer σ u.key := ⟨_, rfl⟩
              obtain ⟨oj, hoj⟩ : ∃ oj, oj = (getK slit u.key σ.objs).isSome := ⟨_, rfl⟩
              have HLB := Lib.hid (show ∀ w9, Below wr.heap.size wr w9 → (Instr.lookup 58 (.map (some Mo)) (.string u.key) true).run Try.prog w9 = .ok (.tuple #[.agg #[.string os, .int .i64 ov, .int .i64 ob], .bool oj]) w9 from fun w9 h9 => by
                have h8 := lookO2 (M9.out.st.obj.below h9) u.key (HKS.out _ HM.out)
                rw [hos, ← hoj, ← hov] at h8
                exact h8)
              have HOJ := Lib.hid hoj
              clear hos hol hoj hov h5
              go_wp2_with fail
              have hs9 : s < wr.heap.size := M9.out.st.lts
              have ho9 : w.heap.size + 2 < wr.heap.size := (Array.getElem?_eq_some_iff.1 M9.out.ob).1
              refine wp_region_inv (by kernel_rfl) (by kernel_rfl) (by kernel_rfl) (OB wr (.cells #[.string { data := #[] }, .int .i64 0, .int .i64 0] 65) (.cells #[.string os, .int .i64 ov, .int .i64 ob] 65) (fun j_9 => match j_9 with | 0 => some (.pointer (some ⟨s, 0, none⟩)) | 1 => some (.pointer (some ⟨s, 0, none⟩)) | 2 => some (.pointer (some ⟨s, 0, none⟩)) | 3 => some (.map (some Mo)) | 4 => some (.pointer (some ⟨w.heap.size + 2, 0, none⟩)) | 5 => some (.string u.key) | 6 => some (.tuple #[.agg #[.string os, .int .i64 ov, .int .i64 ob], .bool oj]) | 7 => some (.tuple #[.agg #[.string os, .int .i64 ov, .int .i64 ob], .bool oj]) | 8 => some (.agg #[.string os, .int .i64 ov, .int .i64 ob]) | 9 => some (.bool oj) | 10 => some (.pointer (some ⟨wr.heap.size, 0, none⟩)) | 11 => none | 12 => some (.bool oj) | _ => none) 10 11) (fun V => OB.start V) ?_ ?_
              · intro j9 o ho L9 V w9 K hI hL hdep hK
                have HI9 := Lib.hid hI
                have hJ := hI.below
                simp only [fill, slotOf, List.size_toArray, List.length_cons, List.length_nil, Nat.reduceAdd, List.getElem?_toArray, List.getElem?_cons_zero, List.getElem?_cons_succ, Option.bind_some, Act.put, List.setIfInBounds_toArray, List.set_cons_zero, List.set_cons_succ] at hK ⊢
                have hin : j9 < 13 := (Array.getElem?_eq_some_iff.1 ho).1
                have hcs : j9 = 0 ∨ j9 = 1 ∨ j9 = 2 ∨ j9 = 3 ∨ j9 = 4 ∨ j9 = 5 ∨ j9 = 6 ∨ j9 = 7 ∨ j9 = 8 ∨ j9 = 9 ∨ j9 = 10 ∨ j9 = 11 ∨ j9 = 12 := by omega
                clear hin
                rcases hcs with rfl | rfl | rfl | rfl | rfl | rfl | rfl | rfl | rfl | rfl | rfl | rfl | rfl
                · obtain rfl := Option.some.inj ho.symm
                  clear hdep ho hI hL hJ
                  try simp only [fill, slotOf, List.size_toArray, List.length_cons, List.length_nil, Nat.reduceAdd, List.getElem?_toArray, List.getElem?_cons_zero, List.getElem?_cons_succ, Option.bind_some, Act.put, List.setIfInBounds_toArray, List.set_cons_zero, List.set_cons_succ] at hK ⊢
                  go_simp
                  exact hK (.pointer (some ⟨s, 0, none⟩)) _ (HI9.out.put 0 _ (by decide) (fun v h => Option.some.inj h)) _ rfl
                · obtain rfl := Option.some.inj ho.symm
                  have d0 : V 0 = .pointer (some ⟨s, 0, none⟩) := hI.val 0 _ (hdep ⟨0, .data⟩ (by simp) rfl) rfl
                  clear hdep ho hI hL hJ
                  try simp only [fill, slotOf, List.size_toArray, List.length_cons, List.length_nil, Nat.reduceAdd, List.getElem?_toArray, List.getElem?_cons_zero, List.getElem?_cons_succ, Option.bind_some, Act.put, List.setIfInBounds_toArray, List.set_cons_zero, List.set_cons_succ] at hK ⊢
                  rw [d0] at hK ⊢
                  go_simp
                  exact hK (.pointer (some ⟨s, 0, none⟩)) _ (HI9.out.put 1 _ (by decide) (fun v h => Option.some.inj h)) _ rfl
                · obtain rfl := Option.some.inj ho.symm
                  have d1 : V 1 = .pointer (some ⟨s, 0, none⟩) := hI.val 1 _ (hdep ⟨1, .data⟩ (by simp) rfl) rfl
                  clear hdep ho hI hL hJ
                  try simp only [fill, slotOf, List.size_toArray, List.length_cons, List.length_nil, Nat.reduceAdd, List.getElem?_toArray, List.getElem?_cons_zero, List.getElem?_cons_succ, Option.bind_some, Act.put, List.setIfInBounds_toArray, List.set_cons_zero, List.set_cons_succ] at hK ⊢
                  rw [d1] at hK ⊢
                  go_simp
                  exact hK (.pointer (some ⟨s, 0, none⟩)) _ (HI9.out.put 2 _ (by decide) (fun v h => Option.some.inj h)) _ rfl
                · obtain rfl := Option.some.inj ho.symm
                  have d2 : V 2 = .pointer (some ⟨s, 0, none⟩) := hI.val 2 _ (hdep ⟨2, .data⟩ (by simp) rfl) rfl
                  have g9 := cell_blk2 ((hJ.block s hs9).trans M9.out.st.blk) (i := 0) (u := .map (some Mo)) rfl
                  clear hdep ho hI hL hJ
                  try simp only [fill, slotOf, List.size_toArray, List.length_cons, List.length_nil, Nat.reduceAdd, List.getElem?_toArray, List.getElem?_cons_zero, List.getElem?_cons_succ, Option.bind_some, Act.put, List.setIfInBounds_toArray, List.set_cons_zero, List.set_cons_succ] at hK ⊢
                  rw [d2] at hK ⊢
                  go_simp
                  exact hK (.map (some Mo)) _ (HI9.out.put 3 _ (by decide) (fun v h => Option.some.inj h)) _ rfl
                · obtain rfl := Option.some.inj ho.symm
                  clear hdep ho hI hL hJ
                  try simp only [fill, slotOf, List.size_toArray, List.length_cons, List.length_nil, Nat.reduceAdd, List.getElem?_toArray, List.getElem?_cons_zero, List.getElem?_cons_succ, Option.bind_some, Act.put, List.setIfInBounds_toArray, List.set_cons_zero, List.set_cons_succ] at hK ⊢
                  go_simp
                  exact hK (.pointer (some ⟨w.heap.size + 2, 0, none⟩)) _ (HI9.out.put 4 _ (by decide) (fun v h => Option.some.inj h)) _ rfl
                · obtain rfl := Option.some.inj ho.symm
                  have d4 : V 4 = .pointer (some ⟨w.heap.size + 2, 0, none⟩) := hI.val 4 _ (hdep ⟨4, .data⟩ (by simp) rfl) rfl
                  have g9 := cell_blk2 ((hJ.block (w.heap.size + 2) ho9).trans M9.out.ob) (i := 0) (u := .string u.key) rfl
                  clear hdep ho hI hL hJ
                  try simp only [fill, slotOf, List.size_toArray, List.length_cons, List.length_nil, Nat.reduceAdd, List.getElem?_toArray, List.getElem?_cons_zero, List.getElem?_cons_succ, Option.bind_some, Act.put, List.setIfInBounds_toArray, List.set_cons_zero, List.set_cons_succ] at hK ⊢
                  rw [d4] at hK ⊢
                  go_simp
                  exact hK (.string u.key) _ (HI9.out.put 5 _ (by decide) (fun v h => Option.some.inj h)) _ rfl
                · obtain rfl := Option.some.inj ho.symm
                  have d3 : V 3 = .map (some Mo) := hI.val 3 _ (hdep ⟨3, .data⟩ (by simp) rfl) rfl
                  have d5 : V 5 = .string u.key := hI.val 5 _ (hdep ⟨5, .data⟩ (by simp) rfl) rfl
                  have g9 := HLB.out w9 hJ
                  clear hdep ho hI hL hJ
                  try simp only [fill, slotOf, List.size_toArray, List.length_cons, List.length_nil, Nat.reduceAdd, List.getElem?_toArray, List.getElem?_cons_zero, List.getElem?_cons_succ, Option.bind_some, Act.put, List.setIfInBounds_toArray, List.set_cons_zero, List.set_cons_succ] at hK ⊢
                  rw [d3, d5] at hK ⊢
                  go_simp
                  exact hK (.tuple #[.agg #[.string os, .int .i64 ov, .int .i64 ob], .bool oj]) _ (HI9.out.put 6 _ (by decide) (fun v h => Option.some.inj h)) _ rfl
                · obtain rfl := Option.some.inj ho.symm
                  have d6 : V 6 = .tuple #[.agg #[.string os, .int .i64 ov, .int .i64 ob], .bool oj] := hI.val 6 _ (hdep ⟨6, .data⟩ (by simp) rfl) rfl
                  clear hdep ho hI hL hJ
                  try simp only [fill, slotOf, List.size_toArray, List.length_cons, List.length_nil, Nat.reduceAdd, List.getElem?_toArray, List.getElem?_cons_zero, List.getElem?_cons_succ, Option.bind_some, Act.put, List.setIfInBounds_toArray, List.set_cons_zero, List.set_cons_succ] at hK ⊢
                  rw [d6] at hK ⊢
                  go_simp
                  exact hK (.tuple #[.agg #[.string os, .int .i64 ov, .int .i64 ob], .bool oj]) _ (HI9.out.put 7 _ (by decide) (fun v h => Option.some.inj h)) _ rfl
                · obtain rfl := Option.some.inj ho.symm
                  have d7 : V 7 = .tuple #[.agg #[.string os, .int .i64 ov, .int .i64 ob], .bool oj] := hI.val 7 _ (hdep ⟨7, .data⟩ (by simp) rfl) rfl
                  clear hdep ho hI hL hJ
                  try simp only [fill, slotOf, List.size_toArray, List.length_cons, List.length_nil, Nat.reduceAdd, List.getElem?_toArray, List.getElem?_cons_zero, List.getElem?_cons_succ, Option.bind_some, Act.put, List.setIfInBounds_toArray, List.set_cons_zero, List.set_cons_succ] at hK ⊢
                  rw [d7] at hK ⊢
                  go_simp
                  exact hK (.agg #[.string os, .int .i64 ov, .int .i64 ob]) _ (HI9.out.put 8 _ (by decide) (fun v h => Option.some.inj h)) _ rfl
                · obtain rfl := Option.some.inj ho.symm
                  have d7 : V 7 = .tuple #[.agg #[.string os, .int .i64 ov, .int .i64 ob], .bool oj] := hI.val 7 _ (hdep ⟨7, .data⟩ (by simp) rfl) rfl
                  clear hdep ho hI hL hJ
                  try simp only [fill, slotOf, List.size_toArray, List.length_cons, List.length_nil, Nat.reduceAdd, List.getElem?_toArray, List.getElem?_cons_zero, List.getElem?_cons_succ, Option.bind_some, Act.put, List.setIfInBounds_toArray, List.set_cons_zero, List.set_cons_succ] at hK ⊢
                  rw [d7] at hK ⊢
                  go_simp
                  exact hK (.bool oj) _ (HI9.out.put 9 _ (by decide) (fun v h => Option.some.inj h)) _ rfl
                · obtain rfl := Option.some.inj ho.symm
                  have HL9 := Lib.hid hL
                  have e9 := hI.sa hL
                  clear hdep ho hI hL hJ
                  subst e9
                  try simp only [fill, slotOf, List.size_toArray, List.length_cons, List.length_nil, Nat.reduceAdd, List.getElem?_toArray, List.getElem?_cons_zero, List.getElem?_cons_succ, Option.bind_some, Act.put, List.setIfInBounds_toArray, List.set_cons_zero, List.set_cons_succ] at hK ⊢
                  go_simp
                  exact hK (.pointer (some ⟨wr.heap.size, 0, none⟩)) _ (HI9.out.puta (by decide) HL9.out _ (fun v h => Option.some.inj h)) _ rfl
                · obtain rfl := Option.some.inj ho.symm
                  have d10 : V 10 = .pointer (some ⟨wr.heap.size, 0, none⟩) := hI.val 10 _ (hdep ⟨10, .data⟩ (by simp) rfl) rfl
                  have d8 : V 8 = .agg #[.string os, .int .i64 ov, .int .i64 ob] := hI.val 8 _ (hdep ⟨8, .data⟩ (by simp) rfl) rfl
                  have la : L9 10 = true := hdep ⟨10, .data⟩ (by simp) rfl
                  have HLA := Lib.hid la
                  have e9 := hI.sb la hL
                  clear hdep ho hI hL hJ la
                  subst e9
                  try simp only [fill, slotOf, List.size_toArray, List.length_cons, List.length_nil, Nat.reduceAdd, List.getElem?_toArray, List.getElem?_cons_zero, List.getElem?_cons_succ, Option.bind_some, Act.put, List.setIfInBounds_toArray, List.set_cons_zero, List.set_cons_succ] at hK ⊢
                  rw [d10, d8] at hK ⊢
                  go_simp
                  exact hK undef _ (HI9.out.puts HLA.out _ (fun v h => by cases h)) _ rfl
                · obtain rfl := Option.some.inj ho.symm
                  have d9 : V 9 = .bool oj := hI.val 9 _ (hdep ⟨9, .data⟩ (by simp) rfl) rfl
                  clear hdep ho hI hL hJ
                  try simp only [fill, slotOf, List.size_toArray, List.length_cons, List.length_nil, Nat.reduceAdd, List.getElem?_toArray, List.getElem?_cons_zero, List.getElem?_cons_succ, Option.bind_some, Act.put, List.setIfInBounds_toArray, List.set_cons_zero, List.set_cons_succ] at hK ⊢
                  rw [d9] at hK ⊢
                  go_simp
                  exact hK (.bool oj) _ (HI9.out.put 12 _ (by decide) (fun v h => Option.some.inj h)) _ rfl
              · intro L9 V w9 hI hall
                have k10 : V 10 = .pointer (some ⟨wr.heap.size, 0, none⟩) := hI.val 10 _ (hall 10 (by decide)) rfl
                have k12 : V 12 = .bool oj := hI.val 12 _ (hall 12 (by decide)) rfl
                have e9 := hI.sc (hall 11 (by decide))
                clear hI hall
                subst e9
                simp only [fill, slotOf, List.size_toArray, List.length_cons, List.length_nil, Nat.reduceAdd, List.getElem?_toArray, List.getElem?_cons_zero, List.getElem?_cons_succ, Option.bind_some, Act.put, List.setIfInBounds_toArray, List.set_cons_zero, List.set_cons_succ]
                rw [k10, k12]
                clear k10 k12
                obtain ⟨W6, hW6⟩ : ∃ W6, W6 = (wr.alloc (.cells #[.string os, .int .i64 ov, .int .i64 ob] 65)).drew := ⟨_, rfl⟩
                have hbe6 : Below wr.heap.size wr W6 := by rw [hW6]; exact ((Below.refl _ _).alloc (Nat.le_refl _) _).drew
                have M6 := Lib.hid (M9.out.kept hbe6)
                have hsz6 : bd ≤ W6.heap.size := by have := hbe6.size; have := HBW.out.size; have := HBS.out; omega
                have HI6 := Lib.hid (HI.out.keep (w' := W6) (fun k _ hk => hbe6.block k hk))
                rw [← hW6]
                clear hW6 hbe6 hs9 ho9
                have c0 := cell_blk2 M6.out.st.blk (i := 0) (u := .map (some Mo)) rfl
                have hmlen := fun ty => lenO M6.out.st.obj ty
                by_cases hfull : oj = false ∧ 512 ≤ σ.objs.length
                case pos =>
                  obtain ⟨hof, h512⟩ := hfull
                  have hnone : (objOf σ u.key).isNone = true := by
                    have h1 := HOJ.out
                    rw [hof] at h1
                    unfold objOf
                    cases hg : getK slit u.key σ.objs with
                    | none => rfl
                    | some x => rw [hg] at h1; cases h1
                  have HE0 := Lib.hid (show comE σ id (N : Int) = 9 from by unfold comE; rw [HU.out]; simp only; rw [if_neg HN.out, HK0.out, HC.out]; simp only; rw [if_neg HD5.out, if_pos ⟨hnone, h512⟩])
                  have y1 : (512 : Int) ≤ (σ.objs.length : Int) := by omega
                  have y2 : decide ((512 : Int) ≤ (σ.objs.length : Int)) = true := decide_eq_true y1
                  obtain rfl := hof
                  clear h512 hnone
                  go_wp2_with fail
                  refine (failed_any _ _).mono ?_
                  rintro e W9 ⟨rfl, hb9⟩
                  have M9 := Lib.hid (M6.out.kept hb9)
                  clear hb9
                  obtain ⟨⟨q0, q1, q2, q3, q4, q5, q6⟩, r0, r1, r2, r3, r4, r5, r6⟩ := rb_cells M9.out.rb
                  unfold rep0
                  go_wp2_with fail
                  clear q0 q1 q2 q3 q4 q5 q6 r0 r1 r2 r3 r4 r5 r6
                  obtain ⟨W5, hW5⟩ : ∃ W5, W5 = setR W9 (w.heap.size + 1) (.int .i64 9) (.slice none 0 0) (.int .i64 0) (.int .i64 0) (.int .i64 0) (.slice none 0 0) (.bool false) := ⟨_, rfl⟩
                  have hr5 := setR_at0 M9.out.rb (.int .i64 9) (.slice none 0 0) (.int .i64 0) (.int .i64 0) (.int .i64 0) (.slice none 0 0) (.bool false)
                  have Z := M9.out.done HL.out (fun b hb => HF.out b hb) (.int .i64 9) (.slice none 0 0) (.int .i64 0) (.int .i64 0) (.int .i64 0) (.slice none 0 0) (.bool false)
                  rw [← hW5] at hr5 Z
                  unfold setR at hW5
                  rw [← hW5]
                  refine bodyPost_ret (ret_rep rfl _ _ (w.heap.size + 1) rfl hr5) rfl ?_
                  exact ComSays.no HE0.out (by decide) Z

                case neg =>
                  have HFULL := Lib.hid hfull
                  have HE0 := Lib.hid (show comE σ id (N : Int) = 0 from by
                    unfold comE; rw [HU.out]; simp only; rw [if_neg HN.out, HK0.out, HC.out]
                    simp only
                    rw [if_neg HD5.out, if_neg (by
                      rintro ⟨g1, g2⟩
                      refine HFULL.out ⟨?_, g2⟩
                      rw [HOJ.out]
                      unfold objOf at g1
                      cases hg : getK slit u.key σ.objs with
                      | none => rfl
                      | some x => rw [hg] at g1; cases g1)])
                  have hOB : oj = true ∨ (oj = false ∧ decide ((512 : Int) ≤ (σ.objs.length : Int)) = false ∧ ¬ (512 : Int) ≤ (σ.objs.length : Int)) := by
                    cases oj with
                    | true => exact .inl rfl
                    | false => exact .inr ⟨rfl, decide_eq_false (by have : ¬ 512 ≤ σ.objs.length := fun e => hfull ⟨rfl, e⟩; omega), by have : ¬ 512 ≤ σ.objs.length := fun e => hfull ⟨rfl, e⟩; omega⟩
                  have k6 := cell_blk2 M6.out.cb (i := 6) (u := .int .i64 id) rfl
                  have hm := HM.out
                  have HDR := Lib.hid (drop_any M6.out.st hid HU.out hm (fun x hx => wf_small (by have := hok.key _ hm x hx; omega)) (by have := hok.siz _ hm; simp only at this; omega) hz)
                  clear hm hfull
                  rcases hOB with rfl | ⟨rfl, y1, y2⟩
                  all_goals
                    go_wp2_with fail
                    refine HDR.out.mono ?_
                    rintro e W7 ⟨rfl, hst7, hfr7⟩
                    have hsz7 := hfr7.size
                    have hrb7 : W7.heap[w.heap.size + 1]? = some (.cells zrep 35 (0, 0)) := hfr7.at M6.out.rb (fun hb => by have := HF.out _ hb; omega)
                    have hob7 : W7.heap[w.heap.size + 2]? = some (.cells #[.string u.key, .int .i64 u.born, .map (some u.pb)] 68 (0, 0)) := hfr7.at M6.out.ob (fun hb => by have := HF.out _ hb; omega)
                    have HI7 := Lib.hid (HI6.out.keep (w' := W7) (fun k hk1 hk2 => hfr7.block k hk2 (fun hb => by have := HF.out _ hb; have := HBD.out; omega)))
                    have HST7 := Lib.hid hst7
                    have HFR7 := Lib.hid hfr7
                    have HRB7 := Lib.hid hrb7
                    have o0 := cell_blk2 hob7 (i := 0) (u := .string u.key) rfl
                    have lo : w.heap.size + 2 < W7.heap.size := (Array.getElem?_eq_some_iff.1 hob7).1
                    have HOB7 := Lib.hid hob7
                    have hbd7 : bd ≤ W7.heap.size := by omega
                    have HSTR := Lib.hid (sh_Builder_String_any bd bd dd W7.drew (HI7.out.keep (w' := W7.drew) (fun k _ _ => rfl)) hbd7)
                    clear hst7 hfr7 hrb7 hob7
                    have HMK := Lib.hid (show ∀ w8, Below bd W7.drew w8 → StAt w8 s Mo Mu (dropS σ id (psz u.parts)) ∧ w8.cell? ⟨w.heap.size + 2, 0, none⟩ = some (.string u.key) ∧ w8.heap[w.heap.size + 1]? = some (.cells zrep 35 (0, 0)) ∧ w.heap.size + 1 < w8.heap.size ∧ Frm (StF s Mo Mu σ) w w8 from fun w8 hb8 => by
                      have hbdw := HBD.out
                      refine ⟨HST7.out.same fun b hb => ?_, ?_, ?_, ?_, ?_⟩
                      · exact hb8.block b (by have := HF.out b hb.drop; omega)
                      · exact cell_blk2 ((hb8.block (w.heap.size + 2) (by omega)).trans HOB7.out) rfl
                      · exact (hb8.block (w.heap.size + 1) (by omega)).trans HRB7.out
                      · have h1 : W7.heap.size ≤ w8.heap.size := hb8.size; omega
                      · have h1 : Frm (StF s Mo Mu σ) w W7 := (Frm.ofBelow M6.out.bel).trans HFR7.out (fun i hi => .inl hi)
                        have h2 : Frm (fun i => bd ≤ i) W7 w8 := ⟨hb8.os, hb8.tape, hb8.output, hb8.size, fun i hi hf => hb8.block i (by omega)⟩
                        exact h1.trans h2 (fun i hi => .inr (by omega)))
                    have HZ7 := Lib.hid (show 0 ≤ (dropS σ id (psz u.parts)).size ∧ (dropS σ id (psz u.parts)).size ≤ 4194304 from by
                      have h1 := HZU.out _ HM.out
                      unfold dropS
                      simp only at h1 ⊢
                      omega)
                    go_wp2_with fail
                    go_region_with (first
                      | (go_at_call 50; refine HSTR.out.mono ?_; rintro e w8 ⟨rfl, hb8⟩; obtain ⟨st8, p0, rb8, lr8, fr8⟩ := HMK.out w8 hb8; have HST8 := Lib.hid st8; have HRB8 := Lib.hid rb8; have HFR8 := Lib.hid fr8; clear st8 rb8 fr8 hb8)
                      | (go_at_call 42; refine (make_any HST8.out u.key ⟨dd.toArray⟩ (HKS.out _ HM.out) (by show dd.toArray.size ≤ 1000000; simp; omega) ⟨hv.1, hv.2, HZ7.out.1, HZ7.out.2⟩ (Nat.le_trans (HOLD.out u.key) (by decide)) (by show σ.objs.length ≤ 1000; omega)).mono ?_; rintro e W9 ⟨rfl, hst9, hfr9⟩; have hrb9 : W9.heap[w.heap.size + 1]? = some (.cells zrep 35 (0, 0)) := hfr9.at HRB8.out (fun hb => by have := HF.out _ hb.drop; omega); obtain ⟨⟨q0, q1, q2, q3, q4, q5, q6⟩, r0, r1, r2, r3, r4, r5, r6⟩ := rb_cells hrb9; have HST9 := Lib.hid hst9; have HFR9 := Lib.hid hfr9; have HRB9 := Lib.hid hrb9; clear hst9 hfr9 hrb9; unfold rep))
                    all_goals
                      go_wp2_with fail
                      clear q0 q1 q2 q3 q4 q5 q6 r0 r1 r2 r3 r4 r5 r6
                      obtain ⟨W5, hW5⟩ : ∃ W5, W5 = setR W9 (w.heap.size + 1) (.int .i64 0) (.slice none 0 0) (.int .i64 ((dropS σ id (psz u.parts)).ver + 1)) (.int .i64 (dropS σ id (psz u.parts)).now) (.int .i64 0) (.slice none 0 0) (.bool false) := ⟨_, rfl⟩
                      have hr5 := setR_at0 HRB9.out (.int .i64 0) (.slice none 0 0) (.int .i64 ((dropS σ id (psz u.parts)).ver + 1)) (.int .i64 (dropS σ id (psz u.parts)).now) (.int .i64 0) (.slice none 0 0) (.bool false)
                      have hF5 := (Frm.refl (fun b => b = w.heap.size + 1) W9).setR (R := w.heap.size + 1) (.inl rfl) (.int .i64 0) (.slice none 0 0) (.int .i64 ((dropS σ id (psz u.parts)).ver + 1)) (.int .i64 (dropS σ id (psz u.parts)).now) (.int .i64 0) (.slice none 0 0) (.bool false)
                      rw [← hW5] at hr5 hF5
                      unfold setR at hW5
                      rw [← hW5]
                      have Z1 : StAt W5 s Mo Mu (comS σ id u dd) := HST9.out.same fun b hb => hF5.block b (HST9.out.lt hb) (fun e => by have := HF.out b (StF.drop (StF.make hb)); omega)
                      have Z2 : Frm (StF s Mo Mu σ) w W5 := (HFR8.out.trans HFR9.out (fun i hi => .inl hi.drop)).trans hF5 (fun i hi => .inr (by omega))
                      refine bodyPost_ret (ret_rep rfl _ _ (w.heap.size + 1) rfl hr5) rfl ?_
                      exact ComSays.yes HU.out (by rw [HK0.out]; exact HC.out) HE0.out ⟨Z1, Z2⟩
          case pos =>
            have zk : (k : Int) < (N : Int) := by omega
            have zk0 : (0 : Int) ≤ (k : Int) := by omega
            have wk : IntKind.i64.wrap ((k : Int) + 1) = (k : Int) + 1 := IntWalk.i64_in _ (by omega)
            have o2 := cell_blk2 M9.out.ob (i := 2) (u := .map (some u.pb)) rfl
            have hgp := M9.out.st.prt _ HM.out
            have hlk := lookP2 hgp ((k : Int) + 1) (wf_small (by omega))
            have HGP := Lib.hid hgp
            clear hgp
            cases hg : getK ilit ((k : Int) + 1) u.parts with
            | none =>
              have HE0 := Lib.hid (show comE σ id (N : Int) = 4 from by unfold comE; rw [HU.out]; simp only; rw [if_neg HN.out, HK0.out, catP_none (k := k) (by rw [Int.natCast_add]; exact hg) N hkn])
              rw [hg] at hlk
              have hlk2 : (Instr.lookup 66 (.map (some u.pb)) (.int .i64 ((k : Int) + 1)) true).run Try.prog wr = .ok (.tuple #[.agg #[.string ByteArray.empty], .bool false]) wr := hlk
              have M8 := Lib.hid (M9.out.kept ((Below.refl _ wr).alloc (Nat.le_refl _) (.cells #[.string ByteArray.empty] 71)))
              clear hlk hg hkn
              go_wp2_with fail
              refine (failed_any _ _).mono ?_
              rintro e W9 ⟨rfl, hb9⟩
              have M9 := Lib.hid (M8.out.kept hb9)
              clear hb9
              obtain ⟨⟨q0, q1, q2, q3, q4, q5, q6⟩, r0, r1, r2, r3, r4, r5, r6⟩ := rb_cells M9.out.rb
              unfold rep0
              go_wp2_with fail
              clear q0 q1 q2 q3 q4 q5 q6 r0 r1 r2 r3 r4 r5 r6
              obtain ⟨W5, hW5⟩ : ∃ W5, W5 = setR W9 (w.heap.size + 1) (.int .i64 4) (.slice none 0 0) (.int .i64 0) (.int .i64 0) (.int .i64 0) (.slice none 0 0) (.bool false) := ⟨_, rfl⟩
              have hr5 := setR_at0 M9.out.rb (.int .i64 4) (.slice none 0 0) (.int .i64 0) (.int .i64 0) (.int .i64 0) (.slice none 0 0) (.bool false)
              have Z := M9.out.done HL.out (fun b hb => HF.out b hb) (.int .i64 4) (.slice none 0 0) (.int .i64 0) (.int .i64 0) (.int .i64 0) (.slice none 0 0) (.bool false)
              rw [← hW5] at hr5 Z
              unfold setR at hW5
              rw [← hW5]
              refine bodyPost_ret (ret_rep rfl _ _ (w.heap.size + 1) rfl hr5) rfl ?_
              exact ComSays.no HE0.out (by decide) Z

            | some p =>
              have HG := Lib.hid (catP_succ HC.out (p := p) (by rw [Int.natCast_add]; exact hg))
              have hps := HPM.out _ (get_mem ilit_inj hg)
              simp only at hps
              rw [hg] at hlk
              have hlk2 : (Instr.lookup 66 (.map (some u.pb)) (.int .i64 ((k : Int) + 1)) true).run Try.prog wr = .ok (.tuple #[.agg #[.string p], .bool true]) wr := hlk
              have HD := Lib.hid (catP_len (m := 4194304) HPM.out HC.out)
              have hb8 : Below wr.heap.size wr (wr.alloc (.cells #[.string p] 71)) := (Below.refl _ wr).alloc (Nat.le_refl _) _
              have HI8 := Lib.hid (HI.out.keep (w' := wr.alloc (.cells #[.string p] 71)) (fun k _ hk => hb8.block k hk))
              have HB8 := Lib.hid hb8
              have hcl : (Lib.byteCells dd).length = dd.length := Lib.byteCells_length dd
              have HWS := Lib.hid (writeString_any bd bd (Lib.byteCells dd) p (wr.alloc (.cells #[.string p] 71)) HI8.out (by rw [hcl]; have := HD.out; have := HPN.out; omega) (by have h1 := HBS.out; have h2 := HBW.out.size; have h3 := hb8.size; omega))
              clear hlk hg hb8 hcl
              go_wp2_with fail
              refine HWS.out.mono ?_
              rintro e W9 ⟨rfl, hb9, hbe9⟩
              have HB9 := Lib.hid hb9
              have HBE9 := Lib.hid hbe9
              clear hb9 hbe9
              go_wp2_with fail
              go_roundw
              case rel => exact ⟨k + 1, dd ++ p.data.toList, by omega, by go_num, HG, Lib.hid (.inr (by have h7 := HB9.out; rw [Lib.strCells_eq, ← Lib.byteCells_append] at h7; exact h7)), Lib.hid (HBW.out.trans ((HB8.out.mono HBW.out.size).trans (by rw [← HBQ.out]; exact HBE9.out)))⟩
              case measure => simp [intOf]; omega
end Go.Proofs.Ytjafagfhkpaciaa
