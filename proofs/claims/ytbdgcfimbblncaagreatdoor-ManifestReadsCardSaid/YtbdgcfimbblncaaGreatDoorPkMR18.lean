/- Texts put together: MfMv, MfRW. -/
import Derived.Test.YtbdgcfimbblncaaGreatDoorPkMR10
import Derived.Test.YtbdgcfimbblncaaGreatDoorPkMR13
import Derived.Test.YtbdgcfimbblncaaGreatDoorPkMR14
import Derived.Test.YtbdgcfimbblncaaGreatDoorPkMR16
import Derived.Test.YtbdgcfimbblncaaGreatDoorPkMR17
section PkMR18_0
/- Manifests: under whichever limits bytes are read, a right manifest reads the same. Written by genmfmv.py. -/
namespace Go.Proofs.YtbdgcfimbblncaaGreatDoor
open Go.RowKit NumsPlain LabPlain CrcPlain
set_option linter.unusedVariables false

theorem ccn_move {xs : List Nat} {i e : Nat} {m m' : Int} (h : (ccn xs i e m 2).2.2 = 0) (hv : ((ccn xs i e m 2).1 : Int) ≤ m') : ccn xs i e m' 2 = ccn xs i e m 2 := by
  by_cases he : e ≠ 0
  · rw [ccn, if_pos he] at h; exact absurd h he
  by_cases hc : (cu xs i 0).2.2 ≠ 0
  · rw [ccn, if_neg he, if_pos hc] at h; exact absurd h hc
  by_cases hm : m < 0 ∨ m < ((cu xs i 0).1 : Int)
  · rw [ccn, if_neg he, if_neg hc, if_pos hm] at h; exact absurd h (by simp)
  have e1 : ccn xs i e m 2 = cu xs i 0 := by rw [ccn, if_neg he, if_neg hc, if_neg hm]
  rw [e1] at hv ⊢
  rw [ccn, if_neg he, if_neg hc, if_neg (by omega)]
theorem sN_ok {xs : List Nat} {m : Int} {s : Nat × Nat} (h : (sN xs m s).2 = 0) : s.2 = 0 := by
  by_cases he : s.2 ≠ 0
  · have h2 : (ccn xs s.1 s.2 m 2).2.2 = 0 := h
    rw [ccn, if_pos he] at h2
    exact absurd h2 he
  · omega
theorem sT_ok {xs : List Nat} {m : Int} {s : Nat × Nat} (h : (sT xs m s).2 = 0) : s.2 = 0 := by
  by_cases he : s.2 ≠ 0
  · have h2 : (ct xs s.1 s.2 m).2.2 = 0 := h
    rw [ct, if_pos he] at h2
    exact absurd h2 he
  · omega
theorem rs_move {xs : List Nat} {m m' : Int} {s : Nat × Nat} (h : (sN xs m s).2 = 0) (hv : (rN xs m s : Int) ≤ m') : rN xs m' s = rN xs m s ∧ sN xs m' s = sN xs m s := by
  have e := ccn_move (show (ccn xs s.1 s.2 m 2).2.2 = 0 from h) hv
  exact ⟨congrArg (·.1) e, congrArg (·.2) e⟩
theorem mk_move {xs : List Nat} {k mw k' mw' : Int} {s : Nat × Nat} (h : (mkS xs k mw s).2 = 0) (hp : (mkV xs k mw s).1 ≤ k' ∧ (mkV xs k mw s).2 ≤ mw') : mkV xs k' mw' s = mkV xs k mw s ∧ mkS xs k' mw' s = mkS xs k mw s := by
  have h0 : (sN xs mw (sN xs k s)).2 = 0 := h
  have e1 := rs_move (m' := k') (sN_ok h0) hp.1
  have e2 := rs_move (m' := mw') h0 hp.2
  unfold mkV mkS
  rw [e1.1, e1.2, e2.1, e2.2]
  exact ⟨rfl, rfl⟩
theorem ow_move {xs : List Nat} {k mw k' mw' : Int} {s : Nat × Nat} (h : (owS xs k mw s).2 = 0) (hp : (owV xs k mw s).1 ≤ k' ∧ (owV xs k mw s).2.1 ≤ mw' ∧ (owV xs k mw s).2.2 ≤ mw') : owV xs k' mw' s = owV xs k mw s ∧ owS xs k' mw' s = owS xs k mw s := by
  have h0 : (sN xs mw (sN xs mw (sN xs k s))).2 = 0 := h
  have e1 := rs_move (m' := k') (sN_ok (sN_ok h0)) hp.1
  have e2 := rs_move (m' := mw') (sN_ok h0) hp.2.1
  have e3 := rs_move (m' := mw') h0 hp.2.2
  unfold owV owS
  rw [e1.1, e1.2, e2.1, e2.2, e3.1, e3.2]
  exact ⟨rfl, rfl⟩
def EntMax (mw mr mz : Int) (x : EntV) : Prop := x.win ≤ mw ∧ x.fst ≤ mw ∧ x.lst ≤ mw ∧ x.rows ≤ mr ∧ x.size ≤ mz ∧ x.born ≤ mw
theorem enS_ok {xs : List Nat} {mw mr mz : Int} {s : Nat × Nat} (h : (enS xs mw mr mz s).2 = 0) : s.2 = 0 :=
  sT_ok (sN_ok (sT_ok (sN_ok (sN_ok (sN_ok (sN_ok (sN_ok (sN_ok h))))))))
theorem en_move {xs : List Nat} {mw mr mz mw' mr' mz' : Int} {s : Nat × Nat} (h : (enS xs mw mr mz s).2 = 0) (hp : EntMax mw' mr' mz' (enV xs mw mr mz s)) : enV xs mw' mr' mz' s = enV xs mw mr mz s ∧ enS xs mw' mr' mz' s = enS xs mw mr mz s := by
  have h8 : (sN xs mw (sN xs 4294967295 (sN xs mz (sN xs mr (sN xs mw (sN xs mw (sT xs 1024 (sN xs mw (sT xs 40 s))))))))).2 = 0 := h
  have h6 := sN_ok (sN_ok h8)
  have h5 := sN_ok h6
  have h4 := sN_ok h5
  have h3 := sN_ok h4
  have h1 := sT_ok (sN_ok h3)
  obtain ⟨p1, p3, p4, p5, p6, p8⟩ := hp
  have e1 := rs_move (m' := mw') h1 p1
  have e3 := rs_move (m' := mw') h3 p3
  have e4 := rs_move (m' := mw') h4 p4
  have e5 := rs_move (m' := mr') h5 p5
  have e6 := rs_move (m' := mz') h6 p6
  have e8 := rs_move (m' := mw') h8 p8
  unfold enV enS en7 en5 en3
  rw [e1.1, e1.2, e3.1, e3.2, e4.1, e4.2, e5.1, e5.2, e6.1, e6.2, e8.1, e8.2]
  exact ⟨rfl, rfl⟩
theorem vl_move {α : Type} {v v' : Nat × Nat → α} {g g' : Nat × Nat → Nat × Nat} {P : α → Prop} {s : Nat × Nat} (hok : ∀ t, (g t).2 = 0 → t.2 = 0) (hmv : ∀ t, (g t).2 = 0 → P (v t) → v' t = v t ∧ g' t = g t) : ∀ k, (stK g k s).2 = 0 → (∀ x ∈ vlK v g k s, P x) → stK g' k s = stK g k s ∧ vlK v' g' k s = vlK v g k s ∧ s.2 = 0
  | 0, h, _ => ⟨rfl, rfl, h⟩
  | k + 1, h, hp => by
    have h' : (g (stK g k s)).2 = 0 := h
    have hp' : ∀ x ∈ vlK v g k s ++ [v (stK g k s)], P x := hp
    obtain ⟨e1, e2, e3⟩ := vl_move hok hmv k (hok _ h') (fun x hx => hp' x (List.mem_append.2 (.inl hx)))
    obtain ⟨f1, f2⟩ := hmv _ h' (hp' _ (List.mem_append.2 (.inr (List.mem_singleton.2 rfl))))
    refine ⟨?_, ?_, e3⟩
    · show g' (stK g' k s) = g (stK g k s)
      rw [e1, f2]
    · show vlK v' g' k s ++ [v' (stK g' k s)] = vlK v g k s ++ [v (stK g k s)]
      rw [e2, e1, f1]
set_option maxHeartbeats 1000000 in
theorem rd_move {xs : List Nat} {mw mr mz k1 k2 mw' mr' mz' k1' k2' : Int} (h0 : (rdM xs mw mr mz k1 k2).st.2 = 0) (hg : ((rdM xs mw mr mz k1 k2).g : Int) ≤ mw') (hc : ((rdM xs mw mr mz k1 k2).c : Int) ≤ mw') (hf : ((rdM xs mw mr mz k1 k2).f : Int) ≤ mw') (hE : ∀ x ∈ (rdM xs mw mr mz k1 k2).le, EntMax mw' mr' mz' x) (hM : ∀ x ∈ (rdM xs mw mr mz k1 k2).lm, x.1 ≤ k1' ∧ x.2 ≤ mw') (hO : ∀ x ∈ (rdM xs mw mr mz k1 k2).lo, x.1 ≤ k2' ∧ x.2.1 ≤ mw' ∧ x.2.2 ≤ mw') : rdM xs mw' mr' mz' k1' k2' = rdM xs mw mr mz k1 k2 := by
  unfold rdM rdE rdMk rdO at *
  simp only at h0 hg hc hf hE hM hO
  have vO := vl_move (v := fun s => owV xs k2 mw s) (g := fun s => owS xs k2 mw s) (v' := fun s => owV xs k2' mw' s) (g' := fun s => owS xs k2' mw' s) (P := fun x : Int × Int × Int => x.1 ≤ k2' ∧ x.2.1 ≤ mw' ∧ x.2.2 ≤ mw') (fun t q => sN_ok (sN_ok (sN_ok q))) (fun t q p => ow_move q p) _ h0 hO
  have vM := vl_move (v := fun s => mkV xs k1 mw s) (g := fun s => mkS xs k1 mw s) (v' := fun s => mkV xs k1' mw' s) (g' := fun s => mkS xs k1' mw' s) (P := fun x : Int × Int => x.1 ≤ k1' ∧ x.2 ≤ mw') (fun t q => sN_ok (sN_ok q)) (fun t q p => mk_move q p) _ (sN_ok vO.2.2) hM
  have vE := vl_move (v := fun s => enV xs mw mr mz s) (g := fun s => enS xs mw mr mz s) (v' := fun s => enV xs mw' mr' mz' s) (g' := fun s => enS xs mw' mr' mz' s) (P := fun x : EntV => EntMax mw' mr' mz' x) (fun t q => enS_ok q) (fun t q p => en_move q p) _ (sN_ok vM.2.2) hE
  have h3 := sN_ok vE.2.2
  have h2 := sN_ok h3
  have h1 := sN_ok h2
  have e1 := rs_move (m' := mw') h1 hg
  have e2 := rs_move (m' := mw') h2 hc
  have e3 := rs_move (m' := mw') h3 hf
  rw [e1.1, e1.2, e2.1, e2.2, e3.1, e3.2, vE.1, vE.2.1, vM.1, vM.2.1, vO.1, vO.2.1]
set_option maxHeartbeats 1000000 in
theorem rd_lim {xs : List Nat} {mw mr mz k1 k2 mw' mr' mz' k1' k2' : Int} (hmw : 1099511627775 ≤ mw') (hmr : 2048 ≤ mr') (hmz : 262144 ≤ mz') (hk1 : 64 ≤ k1') (hk2 : 8 ≤ k2') (h : OkM xs (rdM xs mw mr mz k1 k2)) : rdM xs mw' mr' mz' k1' k2' = rdM xs mw mr mz k1 k2 := by
  obtain ⟨r, hr⟩ : ∃ r, r = rdM xs mw mr mz k1 k2 := ⟨_, rfl⟩
  have hE : r.le.length = r.ne := by rw [hr]; unfold rdM rdE rdMk rdO; simp only [vlK_len]
  have hM : r.lm.length = r.nm := by rw [hr]; unfold rdM rdE rdMk rdO; simp only [vlK_len]
  have hO : r.lo.length = r.no := by rw [hr]; unfold rdM rdE rdMk rdO; simp only [vlK_len]
  have hsum : ∀ x ∈ r.le, 0 ≤ x.sum ∧ x.sum ≤ 4294967295 := fun x hx => by
    rw [hr] at hx
    unfold rdM rdE rdMk rdO at hx
    simp only at hx
    obtain ⟨t, rfl⟩ := vlK_mem hx
    exact ⟨Int.natCast_nonneg _, ccn_le (by decide)⟩
  have hmv := rd_move (xs := xs) (mw := mw) (mr := mr) (mz := mz) (k1 := k1) (k2 := k2) (mw' := mw') (mr' := mr') (mz' := mz') (k1' := k1') (k2' := k2')
  rw [← hr] at h hmv ⊢
  clear hr
  obtain ⟨h1, h2, h3⟩ := h
  have hst : r.st.2 = 0 := by
    by_cases q : r.st.2 = 0
    · exact q
    · rw [cend, if_neg q] at h2
      exact h2
  obtain ⟨q1, q2, q3, _⟩ := man_lim h3 hE hM hO hsum hmw hmr hmz hk1 hk2
  have h4 := h3.1
  simp only [withinB, Bool.and_eq_true, decide_eq_true_eq] at h4
  obtain ⟨⟨b1, b2⟩, ⟨b3, b4⟩, ⟨b5, b6⟩⟩ := h4
  exact hmv hst (Int.le_trans b2 hmw) (Int.le_trans b4 hmw) (Int.le_trans b6 hmw) (fun x hx => by
    obtain ⟨_, _, a1, a3, a4, a5, a6, _, a8⟩ := q1 x hx
    exact ⟨a1.2.1, a3.2.1, a4.2.1, a5.2.1, a6.2.1, a8.2.1⟩) (fun x hx => by
    obtain ⟨a1, a2⟩ := q2 x hx
    exact ⟨a1.2.1, a2.2.1⟩) (fun x hx => by
    obtain ⟨a1, a2, a3⟩ := q3 x hx
    exact ⟨a1.2.1, a2.2.1, a3.2.1⟩)
theorem dec_fail {xs : List Nat} {r : RdM} {er : Nat} {e : Ending} {w : World} (h : er ≠ 0 ∨ ¬ OkM xs r) (hd : DecIs xs r er e w) : e = .returned (.tuple #[.agg #[.int .i64 0, .int .i64 0, .int .i64 0, .slice none 0 0, .slice none 0 0, .slice none 0 0], .int .i64 ((if er = 0 then 4 else er : Nat) : Int)]) := by
  rcases hd with ⟨q, e1⟩ | ⟨q, _, e1⟩ | ⟨q, ok, _⟩
  · rw [if_neg q]; exact e1
  · rw [if_pos q]; exact e1
  · rcases h with h | h
    · exact absurd q h
    · exact absurd ok h
theorem dec_ok {xs : List Nat} {r : RdM} {er : Nat} {e : Ending} {w : World} (h0 : er = 0) (h : OkM xs r) (hd : DecIs xs r er e w) : ∃ ea ec ma mc oa oc, e = .returned (.tuple #[.agg #[.int .i64 (r.g : Int), .int .i64 (r.c : Int), .int .i64 (r.f : Int), .slice ea r.ne ec, .slice ma r.nm mc, .slice oa r.no oc], .int .i64 0]) ∧ VecAt EntS w ea r.ne ec r.le ∧ VecAt MarkS w ma r.nm mc r.lm ∧ VecAt OwnS w oa r.no oc r.lo := by
  rcases hd with ⟨q, e1⟩ | ⟨q, nok, e1⟩ | ⟨_, _, q⟩
  · exact absurd h0 q
  · exact absurd h nok
  · exact q
end Go.Proofs.YtbdgcfimbblncaaGreatDoor
end PkMR18_0
section PkMR18_1
/- Manifests: the law ManifestReads, walked. Written by genmfrw.py. -/
namespace Go.Proofs.YtbdgcfimbblncaaGreatDoor
open Go.RowKit NumsPlain LabPlain CrcPlain
set_option linter.unusedVariables false

set_option maxRecDepth 100000 in
set_option maxHeartbeats 8000000 in
theorem reads_fail {w : World} (hT : Table w) {mx : Int} (hmx : MaxAt mx w) {a : Option Addr} {n c : Nat} {ys : List Nat} (h : BytesAt w a n c ys) (hs : (n : Int) ≤ 5000) (hno : (op ys).2 ≠ 0 ∨ ¬ OkM (op ys).1 (rdM (op ys).1 1099511627776 2048 262144 64 8)) :
    Calls Tryz.prog 4 #[.slice a n c] w fun e w' => e = .returned (.bool true) ∧ Below w.heap.size w w' := by
  have HLV := Lib.hid (fun W : World => lives_true W)
  have HT := Lib.hid hT
  have HX := Lib.hid hmx
  have HH := Lib.hid h
  have hn : n ≤ 1000000 := by omega
  have HN := Lib.hid hn
  have hno2 : (op ys).2 ≠ 0 ∨ ¬ OkM (op ys).1 (rdM (op ys).1 1099511627775 1099511627775 1099511627775 1099511627775 1099511627775) := by
    rcases hno with q | q
    · exact .inl q
    · refine .inr (fun g => q ?_)
      rw [rd_lim (mw' := 1099511627776) (mr' := 2048) (mz' := 262144) (k1' := 64) (k2' := 8) (by decide) (by decide) (by decide) (by decide) (by decide) g]
      exact g
  obtain ⟨f, hf⟩ : ∃ f : Nat, f = (if (op ys).2 = 0 then 4 else (op ys).2) := ⟨_, rfl⟩
  have HP := Lib.hid (show ∀ (W : World) (a' : Option Addr) (c' : Nat), Table W → MaxAt mx W → BytesAt W a' n c' ys → Calls Tryz.prog 16 #[.slice a' n c'] W fun e w' => e = .returned (.tuple #[.agg #[.int .i64 0, .int .i64 0, .int .i64 0, .slice none 0 0, .slice none 0 0, .slice none 0 0], .int .i64 (f : Int)]) ∧ Below W.heap.size W w' from fun W a' c' hTW hXW hbW => (mdecode_any hTW hXW hbW hn).mono fun e w' q => ⟨by rw [hf]; exact dec_fail hno q.1, q.2⟩)
  have HD := Lib.hid (show ∀ (W : World), BytesAt W a n c ys → Calls Tryz.prog 17 #[.slice a n c] W fun e w' => e = .returned (.tuple #[.agg #[.int .i64 0, .int .i64 0, .int .i64 0, .slice none 0 0, .slice none 0 0, .slice none 0 0], .int .i64 (f : Int)]) ∧ Below W.heap.size W w' from fun W hbW => (rdecode_any hbW hn).mono fun e w' q => ⟨by rw [hf]; exact dec_fail hno2 q.1, q.2⟩)
  have zf : ((f : Int) == (f : Int)) = true := beq_self_eq_true _
  clear hno hno2 hf hT hmx h hn
  go_enter Tryz.func4, Tryz.ntmps4
  go_wp2_with fail
  refine (HLV.out _).mono ?_
  rintro e w1 ⟨rfl, hb1⟩
  have B1 := Lib.hid hb1
  have HTW := Lib.hid (twin (HH.out.kept hb1))
  clear hb1
  go_wp2_with fail
  refine HTW.out.mono ?_
  rintro e w2 ⟨g, k, rfl, _, _, _, hby, hb2⟩
  have B2 := Lib.hid (B1.out.trans (hb2.mono B1.out.size))
  have Y2 := Lib.hid hby
  have HC1 := Lib.hid (HP.out w2 _ _ (HT.out.below B2.out) (HX.out.below B2.out) Y2.out)
  clear hby hb2
  go_wp2_with fail
  refine HC1.out.mono ?_
  rintro e w3 ⟨rfl, hb3⟩
  have B3 := Lib.hid (B2.out.trans (hb3.mono B2.out.size))
  have Y3 := Lib.hid (Y2.out.kept hb3)
  obtain ⟨w4, hw4⟩ : ∃ w4, w4 = w3.alloc (.cells #[.int .i64 0, .int .i64 0, .int .i64 0, .slice none 0 0, .slice none 0 0, .slice none 0 0] 26) := ⟨_, rfl⟩
  have hb4 : Below w3.heap.size w3 w4 := by rw [hw4]; exact (Below.refl _ _).alloc (Nat.le_refl _) _
  have g4 : w4.heap[w3.heap.size]? = some (.cells #[.int .i64 0, .int .i64 0, .int .i64 0, .slice none 0 0, .slice none 0 0, .slice none 0 0] 26 (0, 0)) := by rw [hw4]; exact heap_alloc_new _ _
  obtain ⟨G, hG⟩ : ∃ G, G = w3.heap.size := ⟨_, rfl⟩
  rw [← hG] at g4
  have B4 := Lib.hid (B3.out.trans (hb4.mono B3.out.size))
  have Y4 := Lib.hid (Y3.out.kept hb4)
  have G4 := Lib.hid g4
  have HC2 := Lib.hid (HD.out w4 (HH.out.kept B4.out))
  have HW4 := Lib.hid hw4
  have HGE := Lib.hid hG
  clear hb3 hb4 hw4 g4 hG
  go_wp2_with fail
  rw [← HW4.out, ← HGE.out]
  refine HC2.out.mono ?_
  rintro e w5 ⟨rfl, hb5⟩
  have B5 := Lib.hid (B4.out.trans (hb5.mono B4.out.size))
  have Y5 := Lib.hid (Y4.out.kept hb5)
  have G5 := Lib.hid ((hb5.block G (Array.getElem?_eq_some_iff.1 G4.out).1).trans G4.out)
  obtain ⟨w6, hw6⟩ : ∃ w6, w6 = w5.alloc (.cells #[.int .i64 0, .int .i64 0, .int .i64 0, .slice none 0 0, .slice none 0 0, .slice none 0 0] 26) := ⟨_, rfl⟩
  have hb6 : Below w5.heap.size w5 w6 := by rw [hw6]; exact (Below.refl _ _).alloc (Nat.le_refl _) _
  have g6 : w6.heap[w5.heap.size]? = some (.cells #[.int .i64 0, .int .i64 0, .int .i64 0, .slice none 0 0, .slice none 0 0, .slice none 0 0] 26 (0, 0)) := by rw [hw6]; exact heap_alloc_new _ _
  have B6 := Lib.hid (B5.out.trans (hb6.mono B5.out.size))
  have Y6 := Lib.hid (Y5.out.kept hb6)
  have G6 := Lib.hid ((hb6.block G (Array.getElem?_eq_some_iff.1 G5.out).1).trans G5.out)
  have K6 := Lib.hid g6
  have ve : ∀ {α : Type} {S : Sty α}, VecAt S w6 none 0 0 [] := fun {α} {S} => VecAt.empty w6 none 0 (by omega) (fun _ => rfl)
  have HSM := Lib.hid (rsame13_any (w := w6) (s := 0) (s2 := 0) (d := 0) (d2 := 0) (hz := 0) (hz2 := 0) ve ve ve ve ve ve)
  have p0 : w6.cell? ⟨G, 0, none⟩ = some (.int .i64 0) := cell_blk G6.out rfl
  have p1 : w6.cell? ⟨G, 1, none⟩ = some (.int .i64 0) := cell_blk G6.out rfl
  have p2 : w6.cell? ⟨G, 2, none⟩ = some (.int .i64 0) := cell_blk G6.out rfl
  have p3 : w6.cell? ⟨G, 3, none⟩ = some (.slice none 0 0) := cell_blk G6.out rfl
  have p4 : w6.cell? ⟨G, 4, none⟩ = some (.slice none 0 0) := cell_blk G6.out rfl
  have p5 : w6.cell? ⟨G, 5, none⟩ = some (.slice none 0 0) := cell_blk G6.out rfl
  obtain ⟨K, hK⟩ : ∃ K, K = w5.heap.size := ⟨_, rfl⟩
  rw [← hK] at K6
  have q0 : w6.cell? ⟨K, 0, none⟩ = some (.int .i64 0) := cell_blk K6.out rfl
  have q1 : w6.cell? ⟨K, 1, none⟩ = some (.int .i64 0) := cell_blk K6.out rfl
  have q2 : w6.cell? ⟨K, 2, none⟩ = some (.int .i64 0) := cell_blk K6.out rfl
  have q3 : w6.cell? ⟨K, 3, none⟩ = some (.slice none 0 0) := cell_blk K6.out rfl
  have q4 : w6.cell? ⟨K, 4, none⟩ = some (.slice none 0 0) := cell_blk K6.out rfl
  have q5 : w6.cell? ⟨K, 5, none⟩ = some (.slice none 0 0) := cell_blk K6.out rfl
  rw [hw6, hK] at q0 q1 q2 q3 q4 q5
  rw [hw6] at p0 p1 p2 p3 p4 p5
  have HW6 := Lib.hid hw6
  have HKE := Lib.hid hK
  clear hb5 hb6 hw6 g6 hK ve
  go_wp2_with fail
  rw [← HW6.out]
  clear p0 q0 p1 q1 p2 q2 p3 q3 p4 q4 p5 q5
  refine HSM.out.mono ?_
  rintro e w7 ⟨⟨b7, rfl, hb7⟩, hbl7⟩
  obtain rfl : b7 = true := hb7.2 ⟨rfl, rfl, rfl, rfl, rfl, rfl⟩
  have B7 := Lib.hid (B6.out.trans (hbl7.mono B6.out.size))
  have HSA := Lib.hid (same_any (Y6.out.kept hbl7) (HH.out.kept B7.out))
  clear hb7 hbl7
  go_wp2_with fail
  refine HSA.out.mono ?_
  rintro e w8 ⟨rfl, rfl⟩
  rw [beq_self_eq_true]
  go_wp2_with fail
  go_ret
  exact ⟨rfl, B7.out⟩

set_option maxRecDepth 100000 in
set_option maxHeartbeats 8000000 in
theorem reads_ok {w : World} (hT : Table w) {mx : Int} (hmx : MaxAt mx w) {a : Option Addr} {n c : Nat} {ys : List Nat} (h : BytesAt w a n c ys) (hs : (n : Int) ≤ 5000) (h0 : (op ys).2 = 0) (hok : OkM (op ys).1 (rdM (op ys).1 1099511627776 2048 262144 64 8)) :
    Calls Tryz.prog 4 #[.slice a n c] w fun e w' => e = .returned (.bool true) ∧ Below w.heap.size w w' := by
  have HLV := Lib.hid (fun W : World => lives_true W)
  have HT := Lib.hid hT
  have HX := Lib.hid hmx
  have HH := Lib.hid h
  have hn : n ≤ 1000000 := by omega
  have HN := Lib.hid hn
  have hpd := rd_lim (mw' := 1099511627775) (mr' := 1099511627775) (mz' := 1099511627775) (k1' := 1099511627775) (k2' := 1099511627775) (by decide) (by decide) (by decide) (by decide) (by decide) hok
  have HP := Lib.hid (fun (W : World) (a' : Option Addr) (c' : Nat) (hTW : Table W) (hXW : MaxAt mx W) (hbW : BytesAt W a' n c' ys) => mdecode_any hTW hXW hbW hn)
  have HD := Lib.hid (fun (W : World) (hbW : BytesAt W a n c ys) => rdecode_any hbW hn)
  rw [hpd] at HD
  obtain ⟨r, hr⟩ : ∃ r, r = (rdM (op ys).1 1099511627776 2048 262144 64 8) := ⟨_, rfl⟩
  rw [← hr] at HP HD hok
  rw [h0] at HP HD
  have HOK := Lib.hid hok
  clear hpd hr hok h0 hT hmx h hn
  go_enter Tryz.func4, Tryz.ntmps4
  go_wp2_with fail
  refine (HLV.out _).mono ?_
  rintro e w1 ⟨rfl, hb1⟩
  have B1 := Lib.hid hb1
  have HTW := Lib.hid (twin (HH.out.kept hb1))
  clear hb1
  go_wp2_with fail
  refine HTW.out.mono ?_
  rintro e w2 ⟨g, k, rfl, _, _, _, hby, hb2⟩
  have B2 := Lib.hid (B1.out.trans (hb2.mono B1.out.size))
  have Y2 := Lib.hid hby
  have HC1 := Lib.hid (HP.out w2 _ _ (HT.out.below B2.out) (HX.out.below B2.out) Y2.out)
  clear hby hb2
  go_wp2_with fail
  refine HC1.out.mono ?_
  rintro e w3 ⟨hd, hb3⟩
  obtain ⟨ea1, ec1, ma1, mc1, oa1, oc1, rfl, hE, hM, hO⟩ := dec_ok rfl HOK.out hd
  clear hd
  have B3 := Lib.hid (B2.out.trans (hb3.mono B2.out.size))
  have Y3 := Lib.hid (Y2.out.kept hb3)
  obtain ⟨w4, hw4⟩ : ∃ w4, w4 = w3.alloc (.cells #[.int .i64 (r.g : Int), .int .i64 (r.c : Int), .int .i64 (r.f : Int), .slice ea1 r.ne ec1, .slice ma1 r.nm mc1, .slice oa1 r.no oc1] 26) := ⟨_, rfl⟩
  have hb4 : Below w3.heap.size w3 w4 := by rw [hw4]; exact (Below.refl _ _).alloc (Nat.le_refl _) _
  have g4 : w4.heap[w3.heap.size]? = some (.cells #[.int .i64 (r.g : Int), .int .i64 (r.c : Int), .int .i64 (r.f : Int), .slice ea1 r.ne ec1, .slice ma1 r.nm mc1, .slice oa1 r.no oc1] 26 (0, 0)) := by rw [hw4]; exact heap_alloc_new _ _
  obtain ⟨G, hG⟩ : ∃ G, G = w3.heap.size := ⟨_, rfl⟩
  rw [← hG] at g4
  have B4 := Lib.hid (B3.out.trans (hb4.mono B3.out.size))
  have Y4 := Lib.hid (Y3.out.kept hb4)
  have E4 := Lib.hid (hE.kept hb4)
  have M4 := Lib.hid (hM.kept hb4)
  have O4 := Lib.hid (hO.kept hb4)
  have G4 := Lib.hid g4
  have HC2 := Lib.hid (HD.out w4 (HH.out.kept B4.out))
  have HW4 := Lib.hid hw4
  have HGE := Lib.hid hG
  clear hb3 hb4 hw4 g4 hG hE hM hO
  go_wp2_with fail
  rw [← HW4.out, ← HGE.out]
  refine HC2.out.mono ?_
  rintro e w5 ⟨hd, hb5⟩
  obtain ⟨ea2, ec2, ma2, mc2, oa2, oc2, rfl, hE, hM, hO⟩ := dec_ok rfl HOK.out hd
  clear hd
  have B5 := Lib.hid (B4.out.trans (hb5.mono B4.out.size))
  have Y5 := Lib.hid (Y4.out.kept hb5)
  have G5 := Lib.hid ((hb5.block G (Array.getElem?_eq_some_iff.1 G4.out).1).trans G4.out)
  obtain ⟨w6, hw6⟩ : ∃ w6, w6 = w5.alloc (.cells #[.int .i64 (r.g : Int), .int .i64 (r.c : Int), .int .i64 (r.f : Int), .slice ea2 r.ne ec2, .slice ma2 r.nm mc2, .slice oa2 r.no oc2] 26) := ⟨_, rfl⟩
  have hb6 : Below w5.heap.size w5 w6 := by rw [hw6]; exact (Below.refl _ _).alloc (Nat.le_refl _) _
  have g6 : w6.heap[w5.heap.size]? = some (.cells #[.int .i64 (r.g : Int), .int .i64 (r.c : Int), .int .i64 (r.f : Int), .slice ea2 r.ne ec2, .slice ma2 r.nm mc2, .slice oa2 r.no oc2] 26 (0, 0)) := by rw [hw6]; exact heap_alloc_new _ _
  have B6 := Lib.hid (B5.out.trans (hb6.mono B5.out.size))
  have Y6 := Lib.hid (Y5.out.kept hb6)
  have G6 := Lib.hid ((hb6.block G (Array.getElem?_eq_some_iff.1 G5.out).1).trans G5.out)
  have K6 := Lib.hid g6
  have HSM := Lib.hid (rsame13_any (w := w6) (s := (r.g : Int)) (s2 := (r.g : Int)) (d := (r.c : Int)) (d2 := (r.c : Int)) (hz := (r.f : Int)) (hz2 := (r.f : Int)) ((E4.out.kept hb5).kept hb6) ((M4.out.kept hb5).kept hb6) ((O4.out.kept hb5).kept hb6) (hE.kept hb6) (hM.kept hb6) (hO.kept hb6))
  have p0 : w6.cell? ⟨G, 0, none⟩ = some (.int .i64 (r.g : Int)) := cell_blk G6.out rfl
  have p1 : w6.cell? ⟨G, 1, none⟩ = some (.int .i64 (r.c : Int)) := cell_blk G6.out rfl
  have p2 : w6.cell? ⟨G, 2, none⟩ = some (.int .i64 (r.f : Int)) := cell_blk G6.out rfl
  have p3 : w6.cell? ⟨G, 3, none⟩ = some (.slice ea1 r.ne ec1) := cell_blk G6.out rfl
  have p4 : w6.cell? ⟨G, 4, none⟩ = some (.slice ma1 r.nm mc1) := cell_blk G6.out rfl
  have p5 : w6.cell? ⟨G, 5, none⟩ = some (.slice oa1 r.no oc1) := cell_blk G6.out rfl
  obtain ⟨K, hK⟩ : ∃ K, K = w5.heap.size := ⟨_, rfl⟩
  rw [← hK] at K6
  have q0 : w6.cell? ⟨K, 0, none⟩ = some (.int .i64 (r.g : Int)) := cell_blk K6.out rfl
  have q1 : w6.cell? ⟨K, 1, none⟩ = some (.int .i64 (r.c : Int)) := cell_blk K6.out rfl
  have q2 : w6.cell? ⟨K, 2, none⟩ = some (.int .i64 (r.f : Int)) := cell_blk K6.out rfl
  have q3 : w6.cell? ⟨K, 3, none⟩ = some (.slice ea2 r.ne ec2) := cell_blk K6.out rfl
  have q4 : w6.cell? ⟨K, 4, none⟩ = some (.slice ma2 r.nm mc2) := cell_blk K6.out rfl
  have q5 : w6.cell? ⟨K, 5, none⟩ = some (.slice oa2 r.no oc2) := cell_blk K6.out rfl
  rw [hw6, hK] at q0 q1 q2 q3 q4 q5
  rw [hw6] at p0 p1 p2 p3 p4 p5
  have HW6 := Lib.hid hw6
  have HKE := Lib.hid hK
  clear hb5 hb6 hw6 g6 hK hE hM hO
  go_wp2_with fail
  rw [← HW6.out]
  clear p0 q0 p1 q1 p2 q2 p3 q3 p4 q4 p5 q5
  refine HSM.out.mono ?_
  rintro e w7 ⟨⟨b7, rfl, hb7⟩, hbl7⟩
  obtain rfl : b7 = true := hb7.2 ⟨rfl, rfl, rfl, rfl, rfl, rfl⟩
  have B7 := Lib.hid (B6.out.trans (hbl7.mono B6.out.size))
  have HSA := Lib.hid (same_any (Y6.out.kept hbl7) (HH.out.kept B7.out))
  clear hb7 hbl7
  go_wp2_with fail
  refine HSA.out.mono ?_
  rintro e w8 ⟨rfl, rfl⟩
  rw [beq_self_eq_true]
  go_wp2_with fail
  go_ret
  exact ⟨rfl, B7.out⟩

set_option maxRecDepth 100000 in
theorem reads_big {w : World} {a : Option Addr} {n c : Nat} (hs : (5000 : Int) < (n : Int)) :
    Calls Tryz.prog 4 #[.slice a n c] w fun e w' => e = .returned (.bool true) ∧ Below w.heap.size w w' := by
  have HLV := Lib.hid (fun W : World => lives_true W)
  go_enter Tryz.func4, Tryz.ntmps4
  go_wp2_with fail
  refine (HLV.out _).mono ?_
  rintro e w1 ⟨rfl, hb1⟩
  have B1 := Lib.hid hb1
  clear hb1
  go_wp2_with fail
  refine (HLV.out _).mono ?_
  rintro e w2 ⟨rfl, hb2⟩
  have B2 := Lib.hid (B1.out.trans (hb2.mono B1.out.size))
  clear hb2
  go_wp2_with fail
  go_ret
  exact ⟨rfl, B2.out⟩
theorem reads_go (a : Option Addr) (n c : Nat) (zs : List Int) (w : World) (hT : Table w) (hr : IsRow .u8 1 w a n c zs) (hmx : ∃ m, w.cell? ⟨1, 0, none⟩ = some (.int .i64 m)) :
    Calls Tryz.prog 4 #[.slice a n c] w fun e w' => e = .returned (.bool true) ∧ Below w.heap.size w w' := by
  obtain ⟨mx, hx⟩ := hmx
  obtain ⟨ys, hb⟩ := hr.bytes
  by_cases hs : (5000 : Int) < (n : Int)
  · exact reads_big hs
  · by_cases h0 : (op ys).2 = 0
    · by_cases hok : OkM (op ys).1 (rdM (op ys).1 1099511627776 2048 262144 64 8)
      · exact reads_ok hT hx hb (by omega) h0 hok
      · exact reads_fail hT hx hb (by omega) (.inr hok)
    · exact reads_fail hT hx hb (by omega) (.inl h0)
end Go.Proofs.YtbdgcfimbblncaaGreatDoor
end PkMR18_1
