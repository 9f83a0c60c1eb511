/- The store's list and opened, walked. Written by genstolst.py. -/
import Derived.Test.YtjafagfhkpaciaaStoPgO
import Derived.Test.YtjafagfhkpaciaaStoPgU
namespace Go.Proofs.Ytjafagfhkpaciaa
open Go.RowKit Go.Shelf Go.Maps Go.Sort
set_option linter.unusedVariables false

def LstSays (w : World) (s Mo Mu : Nat) (σ : Sto) (L : List ItemV) (e : Ending) (w' : World) : Prop :=
  StAt w' s Mo Mu σ ∧ RowKit.Below w.heap.size w w' ∧ ∃ a n c, e = .returned (rep 0 (.slice none 0 0) 0 0 0 (.slice a n c) (decide (16 < L.length))) ∧ w'.ownsRow w.heap.size 46 4 (.slice a n c) n (ItemS.flat (L.take 16)) ∧ n ≤ 16
set_option maxRecDepth 100000 in
set_option maxHeartbeats 4000000 in
theorem list_any {w : World} {s Mo Mu : Nat} {σ : Sto} (h : StAt w s Mo Mu σ) {ki vr at_ nn id : Int} {ky : ByteArray} {a : Option Addr} {n c : Nat} {xs : List Nat} (hx : BytesAt w a n c xs) (hn : σ.objs.length ≤ 1000) (hks : ∀ p ∈ σ.objs, p.1.size ≤ 1000000000000000) :
    Calls Try.prog 26 #[.pointer (some ⟨s, 0, none⟩), .agg #[.int .i64 ki, .string ky, .slice a n c, .int .i64 vr, .int .i64 at_, .int .i64 nn, .int .i64 id]] w (LstSays w s Mo Mu σ (pageL (wantK ky (bs xs)) (fun p => itemO p.1 p.2) σ.objs)) := by
  have HE := Lib.hid (ent_mk h #[.int .i64 ki, .string ky, .slice a n c, .int .i64 vr, .int .i64 at_, .int .i64 nn, .int .i64 id])
  have HS := Lib.hid h
  obtain ⟨beh, hbeh⟩ : ∃ beh, beh = bs xs := ⟨_, rfl⟩
  rw [← hbeh]
  have HX := Lib.hid hx
  have HBEH := Lib.hid hbeh
  clear h hx hbeh
  go_enter Try.func26, Try.ntmps26
  go_upto_region 1 with fail
  obtain ⟨W0, hW0⟩ : ∃ W0, W0 = (w.alloc (.cells #[.int .i64 ki, .string ky, .slice a n c, .int .i64 vr, .int .i64 at_, .int .i64 nn, .int .i64 id] 29)).alloc (.cells zrep 35) := ⟨_, rfl⟩
  rw [← hW0] at HE
  unfold zrep at hW0
  rw [← hW0]
  clear hW0
  have hk0 : w.heap.size < W0.heap.size := by have := HE.out.sz; omega
  have hr0 : w.heap.size + 1 < W0.heap.size := by have := HE.out.sz; omega
  have hs0 := HE.out.st.lts
  have ez0 := Lib.hid HE.out.sz
  have k1 := cell_blk2 HE.out.cb (i := 1) (u := .string ky) rfl
  have k2 := cell_blk2 HE.out.cb (i := 2) (u := .slice a n c) rfl
  have hcv := (HX.out.kept HE.out.bel).conv
  rw [← HBEH.out] at hcv
  obtain ⟨W1, hW1⟩ : ∃ W1, W1 = W0.alloc (.cells #[.string beh] 9) := ⟨_, rfl⟩
  have hb1 : RowKit.Below W0.heap.size W0 W1 := by rw [hW1]; exact (RowKit.Below.refl _ _).alloc (Nat.le_refl _) _
  have hbb : W1.heap[W0.heap.size]? = some (.cells #[.string beh] 9 (0, 0)) := by rw [hW1]; exact heap_new W0 _
  have hcb1 := (hb1.block _ (Array.getElem?_eq_some_iff.1 HE.out.cb).1).trans HE.out.cb
  have hst1 := HE.out.st.below hb1
  have c0 := cell_blk2 hst1.blk (i := 0) (u := .map (some Mo)) rfl
  have HPG := Lib.hid (pageO_any (w := W1) (cb := w.heap.size) (bb := W0.heap.size) hst1.obj hn (cell_blk2 hcb1 (i := 1) (u := .string ky) rfl) (cell_blk2 hbb (i := 0) (u := .string beh) rfl) (Nat.lt_of_lt_of_le hk0 hb1.size) (Array.getElem?_eq_some_iff.1 hbb).1 hks)
  have hrb1 := (hb1.block _ (Array.getElem?_eq_some_iff.1 HE.out.rb).1).trans HE.out.rb
  have HBE := Lib.hid (HE.out.bel.trans (hb1.mono HE.out.bel.size))
  have HST1 := Lib.hid hst1
  have HRB1 := Lib.hid hrb1
  have HW1 := Lib.hid hW1
  clear hb1 hbb hcb1 hst1 hrb1 hW1
  go_upto_region 3 with fail
  rw [← HW1.out]
  clear k1 k2 hcv HX
  go_wp2_with fail
  refine HPG.out.mono ?_
  rintro e w3 ⟨la, ln, lc, rfl, hown, hln, hb3⟩
  obtain ⟨mo, hmo⟩ : ∃ mo, mo = decide (16 < (pageL (wantK ky beh) (fun p => itemO p.1 p.2) σ.objs).length) := ⟨_, rfl⟩
  rw [← hmo]
  have HMO := Lib.hid hmo
  have hrb3 := (hb3.block _ (Array.getElem?_eq_some_iff.1 HRB1.out).1).trans HRB1.out
  obtain ⟨⟨q0, q1, q2, q3, q4, q5, q6⟩, r0, r1, r2, r3, r4, r5, r6⟩ := rb_cells hrb3
  have HRB3 := Lib.hid hrb3
  have HOWN := Lib.hid hown
  have HB3 := Lib.hid hb3
  clear hmo hrb3 hown hb3 c0 HPG
  unfold rep
  go_wp2_with fail
  clear q0 q1 q2 q3 q4 q5 q6 r0 r1 r2 r3 r4 r5 r6
  obtain ⟨W5, hW5⟩ : ∃ W5, W5 = setR w3 (w.heap.size + 1) (.int .i64 0) (.slice none 0 0) (.int .i64 0) (.int .i64 0) (.int .i64 0) (.slice la ln lc) (.bool mo) := ⟨_, rfl⟩
  have hr5 := setR_at0 HRB3.out (.int .i64 0) (.slice none 0 0) (.int .i64 0) (.int .i64 0) (.int .i64 0) (.slice la ln lc) (.bool mo)
  have hF5 := (Frm.refl (fun b => b = w.heap.size + 1) w3).setR (R := w.heap.size + 1) (.inl rfl) (.int .i64 0) (.slice none 0 0) (.int .i64 0) (.int .i64 0) (.int .i64 0) (.slice la ln lc) (.bool mo)
  rw [← hW5] at hr5 hF5
  unfold setR at hW5
  rw [← hW5]
  have hb13 := HBE.out.trans (HB3.out.mono HBE.out.size)
  refine bodyPost_ret (ret_rep rfl _ _ (w.heap.size + 1) rfl hr5) rfl ⟨?_, hb13.trans (hF5.toBelow hb13.size (fun i e => by rw [e]; omega)), la, ln, lc, by rw [HMO.out], ?_, hln⟩
  · exact (HST1.out.below HB3.out).same fun b hb => hF5.block b (Nat.lt_of_lt_of_le (HST1.out.lt hb) HB3.out.size) (fun e => by have := HS.out.lt hb; omega)
  · exact own_base (HOWN.out.kept (row := some (w.heap.size + 1)) ⟨hF5.os, hF5.tape, hF5.output, hF5.size, fun k hk hf => hF5.block k hk (fun e => hf (by rw [e]))⟩ (.inr (own_ne HOWN.out HRB3.out (by decide)))) HBE.out.size
set_option maxRecDepth 100000 in
set_option maxHeartbeats 4000000 in
theorem opened_any {w : World} {s Mo Mu : Nat} {σ : Sto} (h : StAt w s Mo Mu σ) {ki vr at_ nn id : Int} {ky : ByteArray} {a : Option Addr} {n c : Nat} (hn : σ.ups.length ≤ 1000) (hks : ∀ p ∈ σ.ups, (Lit.int .i64 p.1).wf = true) (hpw : ∀ p ∈ σ.ups, ∀ x ∈ p.2.parts, (Lit.int .i64 x.1).wf = true) (hpz : ∀ p ∈ σ.ups, psz p.2.parts ≤ 1000000000) :
    Calls Try.prog 32 #[.pointer (some ⟨s, 0, none⟩), .agg #[.int .i64 ki, .string ky, .slice a n c, .int .i64 vr, .int .i64 at_, .int .i64 nn, .int .i64 id]] w (LstSays w s Mo Mu σ (pageL (fun k => decide (id < k)) (fun p => (⟨p.2.key, p.1, ((psz p.2.parts : Nat) : Int), p.2.born⟩ : ItemV)) σ.ups)) := by
  have HE := Lib.hid (ent_mk h #[.int .i64 ki, .string ky, .slice a n c, .int .i64 vr, .int .i64 at_, .int .i64 nn, .int .i64 id])
  have HS := Lib.hid h
  clear h
  go_enter Try.func32, Try.ntmps32
  go_upto_region 1 with fail
  obtain ⟨W0, hW0⟩ : ∃ W0, W0 = (w.alloc (.cells #[.int .i64 ki, .string ky, .slice a n c, .int .i64 vr, .int .i64 at_, .int .i64 nn, .int .i64 id] 29)).alloc (.cells zrep 35) := ⟨_, rfl⟩
  rw [← hW0] at HE
  unfold zrep at hW0
  rw [← hW0]
  clear hW0
  have hk0 : w.heap.size < W0.heap.size := by have := HE.out.sz; omega
  have hr0 : w.heap.size + 1 < W0.heap.size := by have := HE.out.sz; omega
  have hs0 := HE.out.st.lts
  have ez0 := Lib.hid HE.out.sz
  have hst1 := HE.out.st
  have c0 := cell_blk2 hst1.blk (i := 1) (u := .map (some Mu)) rfl
  have HPG := Lib.hid (pageU_any (w := W0) (cb := w.heap.size) hst1.upl hn (cell_blk2 HE.out.cb (i := 6) (u := .int .i64 id) rfl) hk0 hks (fun p hp => hst1.prt p hp) hpw hpz)
  have HBE := Lib.hid HE.out.bel
  have HST1 := Lib.hid hst1
  have HRB1 := Lib.hid HE.out.rb
  clear hst1
  go_wp2_with fail
  refine HPG.out.mono ?_
  rintro e w3 ⟨la, ln, lc, rfl, hown, hln, hb3⟩
  obtain ⟨mo, hmo⟩ : ∃ mo, mo = decide (16 < (pageL (fun k => decide (id < k)) (fun p => (⟨p.2.key, p.1, ((psz p.2.parts : Nat) : Int), p.2.born⟩ : ItemV)) σ.ups).length) := ⟨_, rfl⟩
  rw [← hmo]
  have HMO := Lib.hid hmo
  have hrb3 := (hb3.block _ (Array.getElem?_eq_some_iff.1 HRB1.out).1).trans HRB1.out
  obtain ⟨⟨q0, q1, q2, q3, q4, q5, q6⟩, r0, r1, r2, r3, r4, r5, r6⟩ := rb_cells hrb3
  have HRB3 := Lib.hid hrb3
  have HOWN := Lib.hid hown
  have HB3 := Lib.hid hb3
  clear hmo hrb3 hown hb3 c0 HPG
  unfold rep
  go_wp2_with fail
  clear q0 q1 q2 q3 q4 q5 q6 r0 r1 r2 r3 r4 r5 r6
  obtain ⟨W5, hW5⟩ : ∃ W5, W5 = setR w3 (w.heap.size + 1) (.int .i64 0) (.slice none 0 0) (.int .i64 0) (.int .i64 0) (.int .i64 0) (.slice la ln lc) (.bool mo) := ⟨_, rfl⟩
  have hr5 := setR_at0 HRB3.out (.int .i64 0) (.slice none 0 0) (.int .i64 0) (.int .i64 0) (.int .i64 0) (.slice la ln lc) (.bool mo)
  have hF5 := (Frm.refl (fun b => b = w.heap.size + 1) w3).setR (R := w.heap.size + 1) (.inl rfl) (.int .i64 0) (.slice none 0 0) (.int .i64 0) (.int .i64 0) (.int .i64 0) (.slice la ln lc) (.bool mo)
  rw [← hW5] at hr5 hF5
  unfold setR at hW5
  rw [← hW5]
  have hb13 := HBE.out.trans (HB3.out.mono HBE.out.size)
  refine bodyPost_ret (ret_rep rfl _ _ (w.heap.size + 1) rfl hr5) rfl ⟨?_, hb13.trans (hF5.toBelow hb13.size (fun i e => by rw [e]; omega)), la, ln, lc, by rw [HMO.out], ?_, hln⟩
  · exact (HST1.out.below HB3.out).same fun b hb => hF5.block b (Nat.lt_of_lt_of_le (HST1.out.lt hb) HB3.out.size) (fun e => by have := HS.out.lt hb; omega)
  · exact own_base (HOWN.out.kept (row := some (w.heap.size + 1)) ⟨hF5.os, hF5.tape, hF5.output, hF5.size, fun k hk hf => hF5.block k hk (fun e => hf (by rw [e]))⟩ (.inr (own_ne HOWN.out HRB3.out (by decide)))) HBE.out.size
end Go.Proofs.Ytjafagfhkpaciaa
