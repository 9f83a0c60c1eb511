/- A bay's Put, walked. -/
import Derived.Test.YtpcohkhdbjimgaaByB
namespace Go.Proofs.Ytpcohkhdbjimgaa
open Go.RowKit Go.Conc
set_option linter.unusedVariables false

/-- what a list has under a key -/
def xsOf (L : List (ByteArray × Int)) (k : ByteArray) : List Int := (L.filter fun x => decide (x.1 = k)).map (·.2)
theorem xsOf_append (L R : List (ByteArray × Int)) (k : ByteArray) : xsOf (L ++ R) k = xsOf L k ++ xsOf R k := by unfold xsOf; rw [List.filter_append, List.map_append]
theorem xsOf_one (x : ByteArray × Int) (k : ByteArray) : xsOf [x] k = if x.1 = k then [x.2] else [] := by
  unfold xsOf
  rw [List.filter_cons]
  split <;> rename_i h <;> simp at h <;> simp [h]
theorem xsOf_len (L : List (ByteArray × Int)) (k : ByteArray) : (xsOf L k).length = cntK L k := by unfold xsOf cntK; rw [List.length_map]
theorem Frm.grown {F : Nat → Prop} {a b c : World} (h : Frm F a b) {D : Nat} (hD : F D ∨ a.heap.size ≤ D) (hg : b.grownBy c (some D)) : Frm F a c :=
  ⟨hg.os.trans h.os, hg.tape.trans h.tape, hg.output.trans h.output, Nat.le_trans h.size hg.size, fun i hi hf => (hg.block i (Nat.lt_of_lt_of_le hi h.size) (fun e => by
    simp only [Option.some.injEq] at e
    subst e
    rcases hD with g | g
    · exact hf g
    · omega)).trans (h.block i hi hf)⟩
theorem vec_frm {α : Type} {S : Sty α} {w w' : World} {a : Option Addr} {n c : Nat} {l : List α} {F : Nat → Prop} (h : VecAt S w a n c l) (hF : Frm F w w') (hn : ∀ b off, a = some ⟨b, off, none⟩ → 0 < n → ¬ F b) (hok : ∀ x ∈ l, S.ok w' x) : VecAt S w' a n c l :=
  ⟨h.len, h.cap, h.capm, h.nl, hok, fun hp => by
    obtain ⟨b, off, ha, hlt, hc⟩ := h.cells hp
    refine ⟨b, off, ha, Nat.lt_of_lt_of_le hlt hF.size, fun i hi j u hu => ?_⟩
    rw [← hc i hi j u hu]
    unfold World.cell?
    simp only [hF.block b hlt (hn b off ha hp)]⟩
theorem frm_below {F : Nat → Prop} {a b : World} (h : Frm F a b) {B : Nat} (hB : B ≤ a.heap.size) (hF : ∀ i, F i → B ≤ i) : Below B a b := h.toBelow hB hF
section
variable {w w' : World} {Y M room : Nat} {l : List (ByteArray × BoxV)}
/-- a thing more in a box that is there -/
theorem bay_put (h : BayAt w Y M room l) {k : ByteArray} {b : BoxV} (hg : getK slit k l = some b) {ys : List Int} (hb : BoxAt w' b.B b.C room ys) (hgr : w.grownBy w' (some b.C)) (hl : ys.length ≤ room) : BayAt w' Y M room (setXs k ys l) := by
  have hm := get_mem slit_inj hg
  have hbx := h.box _ hm
  obtain ⟨s, r, hch⟩ := hbx.ch
  have hYC : Y ≠ b.C := fun e => by rw [← e, h.blk] at hch; cases hch
  have hMC : M ≠ b.C := fun e => by
    obtain ⟨es, c, hb⟩ := gm_obj h.map
    rw [← e, hb] at hch; cases hch
  have hks : ∀ p ∈ l, p.1 = k → p.2 = b := fun p hp e => by
    have := get_of_mem litS h.map.apart hp
    rw [e, hg] at this
    cases this; rfl
  refine ⟨?_, (h.map.same ?_).setXs k ys, ?_, ?_, ?_⟩
  · rw [hgr.block Y (h.lt (.inl rfl)) (fun e => hYC (by simpa using e))]; exact h.blk
  · exact hgr.block M h.map.lt (fun e => hMC (by simpa using e))
  · intro p hp
    unfold setXs at hp
    obtain ⟨q, hq, rfl⟩ := List.mem_map.1 hp
    by_cases e : q.1 = k
    · rw [if_pos e]
      have := hks q hq e
      simp only
      rw [this]
      exact hb
    · rw [if_neg e]
      refine (h.box q hq).grown hgr (fun g => ?_) (fun g => ?_)
      · have h1 := (h.box q hq).blk
        rw [← g, hch] at h1; cases h1
      · exact e (h.apart q hq (k, b) hm g.symm)
  · intro p hp
    unfold setXs at hp
    obtain ⟨q, hq, rfl⟩ := List.mem_map.1 hp
    by_cases e : q.1 = k
    · rw [if_pos e]; exact hl
    · rw [if_neg e]; exact h.fit q hq
  · intro p hp q hq e
    unfold setXs at hp hq
    obtain ⟨p', hp', rfl⟩ := List.mem_map.1 hp
    obtain ⟨q', hq', rfl⟩ := List.mem_map.1 hq
    have e1 : ∀ z : ByteArray × BoxV, (if z.1 = k then (z.1, ({ z.2 with xs := ys } : BoxV)) else z).1 = z.1 := fun z => by split <;> rfl
    have e2 : ∀ z : ByteArray × BoxV, (if z.1 = k then (z.1, ({ z.2 with xs := ys } : BoxV)) else z).2.C = z.2.C := fun z => by split <;> rfl
    rw [e1, e1]
    rw [e2, e2] at e
    exact h.apart p' hp' q' hq' e
/-- a box more -/
theorem bay_store (h : BayAt w Y M room l) {k : ByteArray} {b : BoxV} (hb : BoxAt w b.B b.C room []) (hx : b.xs = []) (hC : ∀ p ∈ l, p.2.C ≠ b.C) (hm : GM TB slit boxC w' M (putK slit k b l)) (ht : w.mapTurned w' M) : BayAt w' Y M room (putK slit k b l) := by
  obtain ⟨es, c, hmb⟩ := gm_obj h.map
  have hF : Frm (fun i => i = M) w w' := (Frm.refl (fun i => i = M) w).turned (.inl rfl) ht
  have hbox : ∀ {B C : Nat} {xs : List Int}, BoxAt w B C room xs → BoxAt w' B C room xs := fun g => by
    refine g.same (hF.block _ g.ltB fun e => ?_) (hF.block _ g.ltC fun e => ?_)
    · have := g.blk
      rw [e, hmb] at this; cases this
    · obtain ⟨s, r, hc⟩ := g.ch
      rw [e, hmb] at hc; cases hc
  refine ⟨hF.at h.blk (fun e => ?_), hm, fun p hp => ?_, fun p hp => ?_, fun p hp q hq e => ?_⟩
  · have := h.blk
    rw [e, hmb] at this; cases this
  · rcases mem_put hp with rfl | g
    · simp only; rw [hx]; exact hbox hb
    · exact hbox (h.box p g)
  · rcases mem_put hp with rfl | g
    · simp only; rw [hx]; exact Nat.zero_le _
    · exact h.fit p g
  · rcases mem_put hp with rfl | g
    · rcases mem_put hq with rfl | g2
      · rfl
      · exact absurd e.symm (hC q g2)
    · rcases mem_put hq with rfl | g2
      · exact absurd e (hC p g)
      · exact h.apart p g q g2 e
end
theorem getK_key {l : List (ByteArray × BoxV)} {k : ByteArray} {ys : List Int} {b : BoxV} (h : getK slit k l = some b) : getK slit k (setXs k ys l) = some { b with xs := ys } := by
  rw [get_setXs, if_pos rfl, h]; rfl
/-- what Put leaves -/
def PutP (w : World) (Y M room : Nat) (l : List (ByteArray × BoxV)) (ks : List (ByteArray × Int)) (e : Ending) (w' : World) : Prop :=
  (fitsB room l ks = false → e = .returned (.bool false) ∧ BayAt w' Y M room l ∧ Below w.heap.size w w') ∧
  (fitsB room l ks = true → e = .returned (.bool true) ∧ ∃ l', BayAt w' Y M room l' ∧ (∀ k, cont l' k = cont l k ++ xsOf ks k) ∧ ((∀ p ∈ l, p.2.xs ≠ []) → ∀ p ∈ l', p.2.xs ≠ []) ∧ (∀ p ∈ l', p.1.size ≤ 1000000000000000) ∧ l'.length ≤ l.length + ks.length ∧ Frm (BayF Y M l) w w' ∧ (∀ b, BayF Y M l' b → BayF Y M l b ∨ w.heap.size ≤ b))
theorem PutP.no {w w' : World} {Y M room : Nat} {l : List (ByteArray × BoxV)} {ks : List (ByteArray × Int)} (hf : fitsB room l ks = false) (h1 : BayAt w' Y M room l) (h2 : Below w.heap.size w w') : PutP w Y M room l ks (.returned (.bool false)) w' :=
  ⟨fun _ => ⟨rfl, h1, h2⟩, fun e => by rw [hf] at e; cases e⟩
theorem PutP.yes {w w' : World} {Y M room : Nat} {l l' : List (ByteArray × BoxV)} {ks : List (ByteArray × Int)} (hf : fitsB room l ks = true) (h1 : BayAt w' Y M room l') (h2 : ∀ k, cont l' k = cont l k ++ xsOf ks k) (h3 : (∀ p ∈ l, p.2.xs ≠ []) → ∀ p ∈ l', p.2.xs ≠ []) (h4 : ∀ p ∈ l', p.1.size ≤ 1000000000000000) (h5 : l'.length ≤ l.length + ks.length) (h6 : Frm (BayF Y M l) w w') (h7 : ∀ b, BayF Y M l' b → BayF Y M l b ∨ w.heap.size ≤ b) : PutP w Y M room l ks (.returned (.bool true)) w' :=
  ⟨fun e => (by rw [hf] at e; cases e), fun _ => ⟨rfl, l', h1, h2, h3, h4, h5, h6, h7⟩⟩
set_option maxRecDepth 100000 in
set_option maxHeartbeats 16000000 in
theorem bput_any {w : World} {Y M room : Nat} {l : List (ByteArray × BoxV)} (h : BayAt w Y M room l) {a : Option Addr} {n c : Nat} {ks : List (ByteArray × Int)} (hk : VecAt KdS w a n c ks) (hn : n ≤ 40) (hr1 : 1 ≤ room) (hr : room ≤ 2048) (hka : ∀ b off, a = some ⟨b, off, none⟩ → 0 < n → ¬ BayF Y M l b) (hll : l.length ≤ 100000) (hlk : ∀ p ∈ l, p.1.size ≤ 1000000000000000) :
    Calls Try.prog 19 #[.pointer (some ⟨Y, 0, none⟩), .slice a n c] w (PutP w Y M room l ks) := by
  have HH := Lib.hid h
  have HV := Lib.hid hk
  have HKA := Lib.hid hka
  have HLK := Lib.hid hlk
  have hcp := hk.cap
  have hcm := hk.capm
  have HFT := Lib.hid (fits_any h hk hn hr)
  clear h hk hka hlk
  cases hf : fitsB room l ks with
  | false =>
    rw [hf] at HFT
    have HF := Lib.hid hf
    clear hf
    go_enter Try.func19, Try.ntmps19
    go_wp2_with fail
    refine HFT.out.mono ?_
    rintro e w1 ⟨rfl, hb1⟩
    have HB1 := Lib.hid hb1
    clear hb1
    go_wp2_with fail
    first | go_ret2 | go_ret
    exact PutP.no HF.out (HH.out.below HB1.out) HB1.out
  | true =>
    rw [hf] at HFT
    have HF := Lib.hid hf
    clear hf
    go_enter Try.func19, Try.ntmps19
    go_wp2_with fail
    refine HFT.out.mono ?_
    rintro e w1 ⟨rfl, hb1⟩
    have HB1 := Lib.hid (Frm.ofBelow (F := BayF Y M l) hb1)
    have HY1 := Lib.hid (HH.out.below hb1)
    clear hb1 HFT
    go_wp2_with fail
    go_loopw [13] (fun s13 wr => ∃ (i : Nat) (li : List (ByteArray × BoxV)), i ≤ n ∧ s13 = .int .i64 i ∧ li.length ≤ l.length + i ∧ Hid (BayAt wr Y M room li) ∧ Hid (∀ k, cont li k = cont l k ++ xsOf (ks.take i) k) ∧ Hid ((∀ p ∈ l, p.2.xs ≠ []) → ∀ p ∈ li, p.2.xs ≠ []) ∧ Hid (∀ p ∈ li, p.1.size ≤ 1000000000000000) ∧ Hid (Frm (BayF Y M l) w wr) ∧ Hid (∀ b, BayF Y M li b → BayF Y M l b ∨ w.heap.size ≤ b)) (fun s13 _ => n - (intOf s13).toNat)
    case atStart => exact ⟨0, l, by omega, rfl, by omega, HY1, Lib.hid (fun k => by simp [xsOf]), Lib.hid (fun g => g), HLK, HB1, Lib.hid (fun b hb => .inl hb)⟩
    case round =>
      clear HY1 HB1
      obtain ⟨i, li, hi, rfl, hml, HY, HC, HNE, HKS, HB, HSB⟩ := hrel
      rename World => wr
      by_cases hin : i < n
      · obtain ⟨b, off, rfl, _, hks, hc⟩ := (vec_frm HV.out HB.out HKA.out (fun x hx => HV.out.all x hx)).get hin
        obtain ⟨x, hx⟩ : ∃ x, x = ks.getD i KdS.z := ⟨_, rfl⟩
        rw [← hx] at hc hks
        have hks' : x.1.size ≤ 1000000000000000 := hks
        obtain ⟨k, hkk⟩ : ∃ k, k = x.1 := ⟨_, rfl⟩
        obtain ⟨z, hzz⟩ : ∃ z, z = x.2 := ⟨_, rfl⟩
        have c0 : wr.cell? ⟨b, off + i * 2, none⟩ = some (.string k) := hc 0 _ (by rw [hkk]; rfl)
        have c1 : wr.cell? ⟨b, off + i * 2 + 1, none⟩ = some (.int .i64 z) := hc 1 _ (by rw [hzz]; rfl)
        rw [← hkk] at hks'
        obtain ⟨bx, hbx⟩ : ∃ bx, bx = wr.heap.size := ⟨_, rfl⟩
        obtain ⟨W3, hW3⟩ : ∃ W3, W3 = wr.alloc (.cells #[.string k, .int .i64 z] 47) := ⟨_, rfl⟩
        have hb3 : Below wr.heap.size wr W3 := by rw [hW3]; exact (Below.refl _ _).alloc (Nat.le_refl _) _
        have hk3 : W3.heap[bx]? = some (.cells #[.string k, .int .i64 z] 47 (0, 0)) := by rw [hW3, hbx]; exact heap_new wr _
        have hy3 := HY.out.below hb3
        have d0 := cell_blk2 hk3 (i := 0) (u := .string k) rfl
        have d1 := cell_blk2 hk3 (i := 1) (u := .int .i64 z) rfl
        have y0 := cell_blk2 hy3.blk (i := 0) (u := .int .i64 (room : Int)) rfl
        have y1 := cell_blk2 hy3.blk (i := 1) (u := .map (some M)) rfl
        have hlB : ∀ q, (Instr.lookup 65 (.map (some M)) (.string k) false).run Try.prog (W3.drewN q) = .ok (.pointer (boxP li k)) (W3.drewN q) := fun q => by
          have := lookB (hy3.drewN q).map k hks'
          rwa [elimB] at this
        have htk : ks.take (i + 1) = ks.take i ++ [x] := by
          rw [List.take_add_one, List.getElem?_eq_getElem (by rw [HV.out.len]; exact hin), hx, List.getD_eq_getElem?_getD, List.getElem?_eq_getElem (by rw [HV.out.len]; exact hin)]
          rfl
        have HX1 := Lib.hid (show ∀ j, xsOf (ks.take (i + 1)) j = xsOf (ks.take i) j ++ (if k = j then [z] else []) from fun j => by rw [htk, xsOf_append, xsOf_one, ← hkk, ← hzz])
        have hoki := fits_ok HF.out (i := i) (by rw [HV.out.len]; exact hin)
        have hroom : (cont li k).length < room := by
          unfold okAt at hoki
          rw [← hx, ← hkk, ← xsOf_len, HX1.out k, if_pos rfl, List.length_append] at hoki
          rw [HC.out k, List.length_append]
          simp only [List.length_cons, List.length_nil] at hoki
          omega
        have HB3 := Lib.hid (HB.out.below hb3)
        have HY3 := Lib.hid hy3
        have HK3 := Lib.hid hk3
        have HW3 := Lib.hid hW3
        have HBX := Lib.hid hbx
        have hz3 : w.heap.size ≤ W3.heap.size := HB3.out.size
        have zi : (i : Int) < (n : Int) := by omega
        have zi0 : (0 : Int) ≤ (i : Int) := by omega
        have wi : IntKind.i64.wrap ((i : Int) + 1) = (i : Int) + 1 := IntWalk.i64_in _ (by omega)
        clear hc hks hx hkk hzz hbx hW3 hb3 hk3 hy3 htk hoki
        go_upto_region 6 with fail
        rw [← HW3.out, ← HBX.out]
        clear c0 c1
        cases hg : getK slit k li with
        | none =>
          have hbn : boxP li k = none := by unfold boxP; rw [hg]; rfl
          rw [hbn] at hlB
          have HGN := Lib.hid hg
          clear hg hbn
          go_quiet (fail)
          rename Nat => nq
          obtain ⟨W4, hW4⟩ : ∃ W4, W4 = W3.drewN nq := ⟨_, rfl⟩
          have hb4 : Below W3.heap.size W3 W4 := by rw [hW4]; exact below_drewN (Below.refl _ W3) nq
          have hy4 := HY3.out.below hb4
          have hk4 := (hb4.block _ (Array.getElem?_eq_some_iff.1 HK3.out).1).trans HK3.out
          rw [← hW4]
          have e0 := cell_blk2 hk4 (i := 0) (u := .string k) rfl
          have v0 := cell_blk2 hy4.blk (i := 0) (u := .int .i64 (room : Int)) rfl
          have v1 := cell_blk2 hy4.blk (i := 1) (u := .map (some M)) rfl
          have HNW := Lib.hid (new_yes room hr1 hr W4.drew)
          have HY4 := Lib.hid hy4
          have HK4 := Lib.hid hk4
          have HB4 := Lib.hid (HB3.out.below hb4)
          have hz4 : w.heap.size ≤ W4.heap.size := Nat.le_trans hz3 hb4.size
          clear hW4 hb4 hy4 hk4 d0 d1 y0 y1 hlB HY3 HK3 HB3
          go_upto_region 7 with fail
          go_region_law (first
            | (go_simp; go_at_call 7; refine HNW.out.mono ?_; rintro e W9 ⟨rfl, hbx9, hb9⟩; have hb49 := ((Below.refl W4.heap.size W4).drew).trans hb9; have hy9 := HY4.out.below hb49; have e9 := cell_blk2 ((hb49.block _ (Array.getElem?_eq_some_iff.1 HK4.out).1).trans HK4.out) (i := 0) (u := .string k) rfl; have v9 := cell_blk2 hy9.blk (i := 1) (u := .map (some M)) rfl; obtain ⟨W10, hst, hm10, htn⟩ := storeB hy9.map k hks' ⟨W4.heap.size + 1, W4.heap.size, []⟩ (by omega); have hst2 : (Instr.mapUpdate 65 (.map (some M)) (.string k) (.pointer (some ⟨W4.heap.size + 1, 0, none⟩))).run Try.prog W9 = .ok () W10 := hst; have HB49 := Lib.hid hb49; have HY9 := Lib.hid hy9; have HM10 := Lib.hid hm10; have HTN := Lib.hid htn; have HBX9 := Lib.hid hbx9; clear hbx9 hb9 hb49 hy9 hst hm10 htn))
          all_goals
            obtain ⟨V, hV⟩ : ∃ V, V = W10 := ⟨_, rfl⟩
            obtain ⟨l2, hl2⟩ : ∃ l2, l2 = putK slit k (⟨W4.heap.size + 1, W4.heap.size, []⟩ : BoxV) li := ⟨_, rfl⟩
            obtain ⟨b2, hb2⟩ : ∃ b2 : BoxV, b2 = ⟨W4.heap.size + 1, W4.heap.size, []⟩ := ⟨_, rfl⟩
            rw [← hV]
            have hF10 : Frm (fun i => i = M) W9 W10 := (Frm.refl (fun i => i = M) W9).turned (.inl rfl) HTN.out
            have HYv := Lib.hid (show BayAt V Y M room l2 from by
              rw [hV, hl2]
              exact bay_store HY9.out HBX9.out rfl (fun p hp e => by have := (HY4.out.box p hp).ltC; simp only at e; omega) HM10.out HTN.out)
            have HGV := Lib.hid (show getK slit k l2 = some b2 from by rw [hl2, hb2]; exact get_put_same litS)
            have HKv := Lib.hid (show V.heap[bx]? = some (.cells #[.string k, .int .i64 z] 47 (0, 0)) from by
              have hk9 := (HB49.out.block _ (Array.getElem?_eq_some_iff.1 HK4.out).1).trans HK4.out
              rw [hV]
              refine hF10.at hk9 (fun e => ?_)
              obtain ⟨es, c, hmb⟩ := gm_obj HY9.out.map
              rw [e, hmb] at hk9; cases hk9)
            have HBv := Lib.hid (show Frm (BayF Y M l) w V from by
              rw [hV]
              exact (HB4.out.below HB49.out).turned (.inl (.inr (.inl rfl))) HTN.out)
            have HRV := Lib.hid (show b2.xs.length < room from by rw [hb2]; exact hr1)
            have HCV := Lib.hid (show ∀ j, cont li j = if j = k then b2.xs else cont l2 j from fun j => by
              by_cases e : j = k
              · subst e
                rw [if_pos rfl, hb2]
                unfold cont
                rw [HGN.out]
              · rw [if_neg e, hl2, cont_put, if_neg e])
            have HMV := Lib.hid (show ∀ q ∈ l2, q.1 ≠ k → q ∈ li from fun q hq e => by
              rw [hl2] at hq
              rcases mem_put hq with rfl | g
              · exact absurd rfl e
              · exact g)
            have HSV := Lib.hid (show ∀ b, BayF Y M l2 b → BayF Y M l b ∨ w.heap.size ≤ b from fun b hb => by
              rcases hb with e | e | ⟨p, hp, e⟩
              · exact .inl (.inl e)
              · exact .inl (.inr (.inl e))
              · rw [hl2] at hp
                rcases mem_put hp with rfl | g
                · exact .inr (by rw [e]; exact hz4)
                · exact HSB.out b (.inr (.inr ⟨p, g, e⟩)))
            have hmv : l2.length ≤ l.length + (i + 1) := by
              have h1 := ins_len (lit := slit) (k, (⟨W4.heap.size + 1, W4.heap.size, []⟩ : BoxV)) (dropK slit k li)
              have h2 := List.length_filter_le (fun p : ByteArray × BoxV => !(slit p.1).sameKey (slit k)) li
              rw [hl2]
              unfold putK
              unfold dropK at h1 ⊢
              omega
            clear e9 v9 hst2 hV hl2 hb2 hF10 e0 v0 v1 HB49 HY9 HM10 HTN HBX9 HNW HY4 HK4 HB4
            have hlB2 : ∀ q, (Instr.lookup 65 (.map (some M)) (.string k) false).run Try.prog (V.drewN q) = .ok (.pointer (some ⟨b2.B, 0, none⟩)) (V.drewN q) := fun q => by
              have := lookB (HYv.out.drewN q).map k hks'
              rwa [HGV.out] at this
            have hlB3 : (Instr.lookup 65 (.map (some M)) (.string k) false).run Try.prog V.drew = .ok (.pointer (some ⟨b2.B, 0, none⟩)) V.drew := hlB2 1
            have f0 := cell_blk2 HKv.out (i := 0) (u := .string k) rfl
            have f1 := cell_blk2 HKv.out (i := 1) (u := .int .i64 z) rfl
            have g1 := cell_blk2 HYv.out.blk (i := 1) (u := .map (some M)) rfl
            have hyd := HYv.out.below ((Below.refl V.heap.size V).drew)
            have HYD := Lib.hid hyd
            have HPT := Lib.hid (put_room (hyd.box (k, b2) (get_mem slit_inj HGV.out)) z HRV.out)
            have HC2 := Lib.hid (show ∀ j, cont (setXs k (b2.xs ++ [z]) l2) j = cont l j ++ xsOf (ks.take (i + 1)) j from fun j => by
              rw [cont_setXs (by rw [HGV.out]; rfl) j, HX1.out j]
              by_cases e : j = k
              · subst e
                rw [if_pos rfl, if_pos rfl, ← List.append_assoc, ← HC.out, HCV.out, if_pos rfl]
              · rw [if_neg e, if_neg (fun g => e g.symm), List.append_nil, ← HC.out]
                have := HCV.out j
                rw [if_neg e] at this
                exact this.symm)
            have HNE2 := Lib.hid (show (∀ p ∈ l, p.2.xs ≠ []) → ∀ p ∈ setXs k (b2.xs ++ [z]) l2, p.2.xs ≠ [] from fun hne p hp => by
              unfold setXs at hp
              obtain ⟨q, hq, rfl⟩ := List.mem_map.1 hp
              by_cases e : q.1 = k
              · rw [if_pos e]; simp
              · rw [if_neg e]; exact HNE.out hne q (HMV.out q hq e))
            have HKS2 := Lib.hid (show ∀ p ∈ setXs k (b2.xs ++ [z]) l2, p.1.size ≤ 1000000000000000 from fun p hp => by
              unfold setXs at hp
              obtain ⟨q, hq, rfl⟩ := List.mem_map.1 hp
              by_cases e : q.1 = k
              · rw [if_pos e]; simp only; rw [e]; exact hks'
              · rw [if_neg e]; exact HKS.out q (HMV.out q hq e))
            have HSB2 := Lib.hid (show ∀ b, BayF Y M (setXs k (b2.xs ++ [z]) l2) b → BayF Y M l b ∨ w.heap.size ≤ b from fun b hb => by
              rcases hb with e | e | ⟨p, hp, e⟩
              · exact .inl (.inl e)
              · exact .inl (.inr (.inl e))
              · unfold setXs at hp
                obtain ⟨q, hq, rfl⟩ := List.mem_map.1 hp
                have e2 : (if q.1 = k then (q.1, ({ q.2 with xs := b2.xs ++ [z] } : BoxV)) else q).2.C = q.2.C := by split <;> rfl
                rw [e2] at e
                exact HSV.out b (.inr (.inr ⟨q, hq, e⟩)))
            have hml2 : (setXs k (b2.xs ++ [z]) l2).length ≤ l.length + (i + 1) := by
              unfold setXs
              rw [List.length_map]
              exact hmv
            have HDC := Lib.hid (HSV.out b2.C (.inr (.inr ⟨(k, b2), get_mem slit_inj HGV.out, rfl⟩)))
            clear hlB2 hyd
            go_upto_region 8 with fail
            go_region_law (first
              | (go_simp; go_at_call 10; refine HPT.out.mono ?_; rintro e V9 ⟨rfl, hbx9, hg9⟩; have HY9 := Lib.hid (bay_put HYD.out HGV.out hbx9 hg9 (by rw [List.length_append]; have := HRV.out; simp only [List.length_cons, List.length_nil]; omega)); have HB9 := Lib.hid (HBv.out.drew.grown HDC.out hg9); clear hbx9 hg9))
            all_goals
              clear f0 f1 g1 hlB3
              go_wp2_with fail
              go_roundw
              case rel => exact ⟨i + 1, _, by omega, by push_cast; rfl, hml2, HY9, HC2, HNE2, HKS2, HB9, HSB2⟩
              case measure => simp only [intOf]; omega
        | some bb =>
          have hbn : boxP li k = some ⟨bb.B, 0, none⟩ := by unfold boxP; rw [hg]; rfl
          rw [hbn] at hlB
          have HGV' := Lib.hid hg
          have hrb : bb.xs.length < room := by
            unfold cont at hroom
            rw [hg] at hroom
            exact hroom
          clear hg hbn
          go_quiet (fail)
          rename Nat => nq
          obtain ⟨V, hV⟩ : ∃ V, V = W3.drewN nq := ⟨_, rfl⟩
          have hb4 : Below W3.heap.size W3 V := by rw [hV]; exact below_drewN (Below.refl _ W3) nq
          rw [← hV]
          obtain ⟨l2, hl2⟩ : ∃ l2, l2 = li := ⟨_, rfl⟩
          obtain ⟨b2, hb2⟩ : ∃ b2 : BoxV, b2 = bb := ⟨_, rfl⟩
          have HYv := Lib.hid (show BayAt V Y M room l2 from by rw [hl2]; exact HY3.out.below hb4)
          have HGV := Lib.hid (show getK slit k l2 = some b2 from by rw [hl2, hb2]; exact HGV'.out)
          have HKv := Lib.hid (show V.heap[bx]? = some (.cells #[.string k, .int .i64 z] 47 (0, 0)) from (hb4.block _ (Array.getElem?_eq_some_iff.1 HK3.out).1).trans HK3.out)
          have HBv := Lib.hid (HB3.out.below hb4)
          have HRV := Lib.hid (show b2.xs.length < room from by rw [hb2]; exact hrb)
          have HCV := Lib.hid (show ∀ j, cont li j = if j = k then b2.xs else cont l2 j from fun j => by
            by_cases e : j = k
            · subst e
              rw [if_pos rfl, hb2]
              unfold cont
              rw [HGV'.out]
            · rw [if_neg e, hl2])
          have HMV := Lib.hid (show ∀ q ∈ l2, q.1 ≠ k → q ∈ li from fun q hq e => by rw [hl2] at hq; exact hq)
          have HSV := Lib.hid (show ∀ b, BayF Y M l2 b → BayF Y M l b ∨ w.heap.size ≤ b from fun b hb => HSB.out b (by rw [hl2] at hb; exact hb))
          have hmv : l2.length ≤ l.length + (i + 1) := by rw [hl2]; omega
          clear hV hl2 hb2 hb4 hrb d0 d1 y0 y1 hlB HY3 HK3 HB3
          have hlB2 : ∀ q, (Instr.lookup 65 (.map (some M)) (.string k) false).run Try.prog (V.drewN q) = .ok (.pointer (some ⟨b2.B, 0, none⟩)) (V.drewN q) := fun q => by
            have := lookB (HYv.out.drewN q).map k hks'
            rwa [HGV.out] at this
          have hlB3 : (Instr.lookup 65 (.map (some M)) (.string k) false).run Try.prog V.drew = .ok (.pointer (some ⟨b2.B, 0, none⟩)) V.drew := hlB2 1
          have f0 := cell_blk2 HKv.out (i := 0) (u := .string k) rfl
          have f1 := cell_blk2 HKv.out (i := 1) (u := .int .i64 z) rfl
          have g1 := cell_blk2 HYv.out.blk (i := 1) (u := .map (some M)) rfl
          have hyd := HYv.out.below ((Below.refl V.heap.size V).drew)
          have HYD := Lib.hid hyd
          have HPT := Lib.hid (put_room (hyd.box (k, b2) (get_mem slit_inj HGV.out)) z HRV.out)
          have HC2 := Lib.hid (show ∀ j, cont (setXs k (b2.xs ++ [z]) l2) j = cont l j ++ xsOf (ks.take (i + 1)) j from fun j => by
            rw [cont_setXs (by rw [HGV.out]; rfl) j, HX1.out j]
            by_cases e : j = k
            · subst e
              rw [if_pos rfl, if_pos rfl, ← List.append_assoc, ← HC.out, HCV.out, if_pos rfl]
            · rw [if_neg e, if_neg (fun g => e g.symm), List.append_nil, ← HC.out]
              have := HCV.out j
              rw [if_neg e] at this
              exact this.symm)
          have HNE2 := Lib.hid (show (∀ p ∈ l, p.2.xs ≠ []) → ∀ p ∈ setXs k (b2.xs ++ [z]) l2, p.2.xs ≠ [] from fun hne p hp => by
            unfold setXs at hp
            obtain ⟨q, hq, rfl⟩ := List.mem_map.1 hp
            by_cases e : q.1 = k
            · rw [if_pos e]; simp
            · rw [if_neg e]; exact HNE.out hne q (HMV.out q hq e))
          have HKS2 := Lib.hid (show ∀ p ∈ setXs k (b2.xs ++ [z]) l2, p.1.size ≤ 1000000000000000 from fun p hp => by
            unfold setXs at hp
            obtain ⟨q, hq, rfl⟩ := List.mem_map.1 hp
            by_cases e : q.1 = k
            · rw [if_pos e]; simp only; rw [e]; exact hks'
            · rw [if_neg e]; exact HKS.out q (HMV.out q hq e))
          have HSB2 := Lib.hid (show ∀ b, BayF Y M (setXs k (b2.xs ++ [z]) l2) b → BayF Y M l b ∨ w.heap.size ≤ b from fun b hb => by
            rcases hb with e | e | ⟨p, hp, e⟩
            · exact .inl (.inl e)
            · exact .inl (.inr (.inl e))
            · unfold setXs at hp
              obtain ⟨q, hq, rfl⟩ := List.mem_map.1 hp
              have e2 : (if q.1 = k then (q.1, ({ q.2 with xs := b2.xs ++ [z] } : BoxV)) else q).2.C = q.2.C := by split <;> rfl
              rw [e2] at e
              exact HSV.out b (.inr (.inr ⟨q, hq, e⟩)))
          have hml2 : (setXs k (b2.xs ++ [z]) l2).length ≤ l.length + (i + 1) := by
            unfold setXs
            rw [List.length_map]
            exact hmv
          have HDC := Lib.hid (HSV.out b2.C (.inr (.inr ⟨(k, b2), get_mem slit_inj HGV.out, rfl⟩)))
          clear hlB2 hyd
          go_upto_region 8 with fail
          go_region_law (first
            | (go_simp; go_at_call 10; refine HPT.out.mono ?_; rintro e V9 ⟨rfl, hbx9, hg9⟩; have HY9 := Lib.hid (bay_put HYD.out HGV.out hbx9 hg9 (by rw [List.length_append]; have := HRV.out; simp only [List.length_cons, List.length_nil]; omega)); have HB9 := Lib.hid (HBv.out.drew.grown HDC.out hg9); clear hbx9 hg9))
          all_goals
            clear f0 f1 g1 hlB3
            go_wp2_with fail
            go_roundw
            case rel => exact ⟨i + 1, _, by omega, by push_cast; rfl, hml2, HY9, HC2, HNE2, HKS2, HB9, HSB2⟩
            case measure => simp only [intOf]; omega
      · have e : i = n := by omega
        have HCE := Lib.hid (show ∀ k, cont li k = cont l k ++ xsOf ks k from fun k => by rw [HC.out k, List.take_of_length_le (by rw [HV.out.len]; omega)])
        have hle : li.length ≤ l.length + ks.length := by rw [HV.out.len]; omega
        go_wp2_with fail
        first | go_ret2 | go_ret
        exact PutP.yes HF.out HY.out HCE.out HNE.out HKS.out hle HB.out HSB.out
end Go.Proofs.Ytpcohkhdbjimgaa
