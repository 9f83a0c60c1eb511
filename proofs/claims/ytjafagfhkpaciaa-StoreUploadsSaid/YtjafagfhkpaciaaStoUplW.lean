/- StoreUploads, walked. -/
import Derived.Deep.CutBlock
import Derived.Deep.OwnRows
import Derived.Test.YtjafagfhkpaciaaStoUplP
import Derived.Test.YtjafagfhkpaciaaStoKeys
import Derived.Test.YtjafagfhkpaciaaInts
namespace Go.Proofs.Ytjafagfhkpaciaa
open Go.RowKit Go.Deep
set_option linter.unusedVariables false

theorem flx_byte {X : Nat → List Nat} {k : Nat} (h : ∀ i, i < k → ∀ x ∈ X i, x < 256) : ∀ x ∈ flx X k, x < 256 := by
  intro x hx
  simp only [flx, List.mem_flatMap, List.mem_range] at hx
  obtain ⟨i, hi, hx⟩ := hx
  exact h i hi x hx
theorem RowsAt.byte5 {w : World} {a : Option Addr} {n c : Nat} {A : Nat → Option Addr} {L C : Nat → Nat} {X : Nat → List Nat} (h : RowsAt w a n c A L C X) {k : Nat} (hk : k ≤ n) (hs : ∀ i, i < k → L i ≤ 500) : ∀ x ∈ flx X k, x < 256 :=
  flx_byte fun i hi => by
    obtain ⟨b, off, ha, hlt, hc⟩ := h.cells (by omega)
    exact ((hc i (by omega)).2.2.2 (by have := hs i hi; omega)).byte
theorem LwAt.gb {w W W' : World} {a0 : Option Addr} {n c0 P S I s Mo Mu : Nat} {σ : Sto} (h : LwAt w W a0 n c0 P S I s Mo Mu σ) {v : Value} {m base : Nat} {xs : List Value} (ho : W.ownsRow base 5 1 v m xs) (hbw : w.heap.size ≤ base) (hg : W.grownBy W' v.ownBlock) : LwAt w W' a0 n c0 P S I s Mo Mu σ := by
  have hF : Frm (fun b => some b = v.ownBlock) W W' := ⟨hg.os, hg.tape, hg.output, hg.size, fun k hk hf => hg.block k hk hf⟩
  have hne : ∀ {k : Nat} {cs : Array Value} {t : TypeId}, W.heap[k]? = some (.cells cs t (0, 0)) → t ≠ 5 → ¬ some k = v.ownBlock := fun {k cs t} hk ht e => by
    exact own_ne ho hk ht e.symm
  refine h.frm hF (fun i e => ?_) (fun i e => ?_) (hne h.pb (by decide)) (hne h.sb (by decide)) (hne h.ib (by decide))
  · exact Nat.le_trans hbw (ho.lt i e.symm).1
  · rcases ho.2 with ⟨rfl, _⟩ | ⟨g, cap, cu, rfl, _, hh, _⟩
    · cases e
    · cases (show some i = some g from e)
      exact h.st.not hh (by decide)
theorem bytes_keep {W W' : World} {R m s Mo Mu : Nat} {B : Nat → Bool} {σ : Sto} {a : Option Addr} {n c : Nat} {xs : List Nat} (hx : BytesAt W a n c xs) (hR : W.heap[R]? = some (.cells (bools m B) 4 (0, 0))) (hst : StAt W s Mo Mu σ) (hF : Frm (fun b => b = R ∨ StF s Mo Mu σ b) W W') : BytesAt W' a n c xs := by
  refine bytes_frm hx hF fun b off ha hn e => ?_
  rcases e with e | e
  · obtain ⟨b', off', ha', _, hcell⟩ := hx.cells hn
    rw [ha] at ha'
    cases ha'
    have h0 := hcell 0 hn
    rw [Nat.add_zero] at h0
    subst e
    rw [cell_of_row W b off _ _ (0, 0) hR] at h0
    unfold bools at h0
    simp at h0
  · exact bytes_not hst hx b off ha hn e
/-- the walk's world between the puts -/
structure UpAt (w W : World) (a0 : Option Addr) (n c0 P S I s Mo Mu pb J R : Nat) (X : Nat → List Nat) (a9 : Option Addr) (n9 c9 : Nat) (B : Nat → Bool) : Prop where
  lw : ∃ ps, LwAt w W a0 n c0 P S I s Mo Mu (stU pb ps) ∧ PsOk n X B ps
  jb : W.heap[J]? = some (.cells #[.slice (some ⟨R, 0, none⟩) n n] 50 (0, 0))
  rb : W.heap[R]? = some (.cells (bools n B) 4 (0, 0))
  by9 : BytesAt W a9 n9 c9 (flx X n)
theorem up_call {w W : World} {a0 : Option Addr} {n c0 P S I J R s Mo Mu pb : Nat} {B : Nat → Bool} {A : Nat → Option Addr} {L C : Nat → Nat} {X : Nat → List Nat} {a9 : Option Addr} {n9 c9 : Nat} (h : UpAt w W a0 n c0 P S I s Mo Mu pb J R X a9 n9 c9 B) (hRw : w.heap.size ≤ R)
    (hrow : RowsAt w a0 n c0 A L C X) (hn : n ≤ 8) (hL : ∀ i, i < n → L i ≤ 500) {j : Nat} (hj : j < n) :
    Calls Try.prog 18 #[.int .i64 j, .pointer (some ⟨J, 0, none⟩), .pointer (some ⟨S, 0, none⟩), .pointer (some ⟨I, 0, none⟩), .pointer (some ⟨P, 0, none⟩)] W fun e W' => e = .returned (.bool true) ∧ UpAt w W' a0 n c0 P S I s Mo Mu pb J R X a9 n9 c9 (updB B j) := by
  obtain ⟨ps, h1, h2⟩ := h.lw
  refine (uput_any h1 h.jb h.rb hRw hrow hn hL h2 hj).mono ?_
  rintro e W' ⟨rfl, ps', g1, g2, g3, g4, g5⟩
  exact ⟨rfl, ⟨ps', g1, g4⟩, g2, g3, bytes_keep h.by9 h.rb h1.st g5⟩
def rep7 (e v i : Int) (a : Value) : Value := .agg #[.int .i64 e, a, .int .i64 v, .int .i64 0, .int .i64 i, .slice none 0 0, .bool false]
section
variable {w W : World} {a0 : Option Addr} {n c0 P S I s Mo Mu pb : Nat} {ps : List (Int × ByteArray)} {B : Nat → Bool} {X : Nat → List Nat} {σ : Sto}
theorem abt_call (h : LwAt w W a0 n c0 P S I s Mo Mu (stU pb ps)) (hp : PsOk n X B ps) (hn : n ≤ 8) :
    Calls Try.prog 12 #[.pointer (some ⟨s, 0, none⟩), .agg #[.int .i64 10, .string ByteArray.empty, .slice none 0 0, .int .i64 0, .int .i64 0, .int .i64 0, .int .i64 1]] W fun e W' => e = .returned (rep7 0 0 0 (.slice none 0 0)) ∧ LwAt w W' a0 n c0 P S I s Mo Mu stE ∧ Frm (StF s Mo Mu (stU pb ps)) W W' := by
  refine (doAbort (a := none) (n := 0) (c := 0) (vr := 0) (at_ := 0) (nn := 0) (id := 1) (ky := ByteArray.empty) (.inl h.st) (by kernel_rfl) ((hp.inv hn h.st.rise pb).ok (by show (0 : Int) ≤ 1000000000; decide) (by show (1 : Int) ≤ 1000000000; decide))).mono ?_
  rintro e W' ⟨hf, hq⟩
  rw [show upOf (stU pb ps) 1 = some ⟨kS, 0, pb, ps⟩ from rfl] at hq
  obtain ⟨rfl, hst⟩ := hq
  have hst2 : StAt W' s Mo Mu stE := by rw [← drop_stU pb ps]; exact hst
  exact ⟨rfl, h.step hf hst2 (fun b hb => .inl (by
    rw [← drop_stU pb ps] at hb
    exact hb.drop)), hf⟩
theorem com_call (h : LwAt w W a0 n c0 P S I s Mo Mu (stU pb ps)) (hp : PsOk n X B ps) (hn : 1 ≤ n ∧ n ≤ 8) (hB : ∀ i, i < n → B i = true) (hx : ∀ i, i < n → (X i).length ≤ 500) :
    Calls Try.prog 12 #[.pointer (some ⟨s, 0, none⟩), .agg #[.int .i64 9, .string ByteArray.empty, .slice none 0 0, .int .i64 0, .int .i64 0, .int .i64 n, .int .i64 1]] W fun e W' => e = .returned (rep7 0 1 0 (.slice none 0 0)) ∧ LwAt w W' a0 n c0 P S I s Mo Mu (stD (bs (flx X n))) ∧ Frm (StF s Mo Mu (stU pb ps)) W W' := by
  refine (doComplete (a := none) (n := 0) (c := 0) (vr := 0) (at_ := 0) (nn := n) (id := 1) (ky := ByteArray.empty) (.inl h.st) (by kernel_rfl) ((hp.inv hn.2 h.st.rise pb).ok (by show (0 : Int) ≤ 1000000000; decide) (by show (1 : Int) ≤ 1000000000; decide))).mono ?_
  rintro e W' ⟨hf, _, hq⟩
  obtain ⟨u, d, hu, hd, rfl, hst⟩ := hq (com_all hp hB h.st.rise hn hx)
  cases (show some (⟨kS, 0, pb, ps⟩ : UplS) = some u from hu)
  rw [Int.toNat_natCast] at hd
  have hd2 := (catP_all hp hB n (Nat.le_refl _)).symm.trans hd
  cases hd2
  rw [com_stU] at hst
  have e1 : (⟨(bs (flx X n)).data.toList.toArray⟩ : ByteArray) = bs (flx X n) := by simp
  rw [e1] at hst
  exact ⟨rfl, h.step hf hst (fun b hb => .inl (by
    rcases hb with g | g | g | ⟨p, hp, g⟩
    · exact .inl g
    · exact .inr (.inl g)
    · exact .inr (.inr (.inl g))
    · cases hp)), hf⟩
theorem com_none (h : LwAt w W a0 n c0 P S I s Mo Mu σ) (hi : Inv σ) (hv : σ.ver ≤ 1000000000 ∧ σ.id ≤ 1000000000) (hu : upOf σ 1 = none) :
    Calls Try.prog 12 #[.pointer (some ⟨s, 0, none⟩), .agg #[.int .i64 9, .string ByteArray.empty, .slice none 0 0, .int .i64 0, .int .i64 0, .int .i64 n, .int .i64 1]] W fun e W' => e = .returned (rep7 7 0 0 (.slice none 0 0)) ∧ LwAt w W' a0 n c0 P S I s Mo Mu σ ∧ Frm (StF s Mo Mu σ) W W' := by
  refine (doComplete (a := none) (n := 0) (c := 0) (vr := 0) (at_ := 0) (nn := n) (id := 1) (ky := ByteArray.empty) (.inl h.st) (by kernel_rfl) (hi.ok hv.1 hv.2)).mono ?_
  have he : comE σ 1 (n : Int) = 7 := by unfold comE; rw [hu]
  rintro e W' ⟨hf, hq, _⟩
  rw [he] at hq
  obtain ⟨rfl, hst⟩ := hq (by decide)
  exact ⟨rfl, h.step hf hst (fun b hb => .inl hb), hf⟩
theorem getK_none (h : LwAt w W a0 n c0 P S I s Mo Mu σ) (hi : Inv σ) (hv : σ.ver ≤ 1000000000 ∧ σ.id ≤ 1000000000) (hu : objOf σ kS = none) :
    Calls Try.prog 12 #[.pointer (some ⟨s, 0, none⟩), .agg #[.int .i64 3, .string kS, .slice none 0 0, .int .i64 0, .int .i64 0, .int .i64 0, .int .i64 0]] W fun e W' => e = .returned (rep7 7 0 0 (.slice none 0 0)) ∧ LwAt w W' a0 n c0 P S I s Mo Mu σ ∧ Frm (StF s Mo Mu σ) W W' := by
  refine (doGet (a := none) (n := 0) (c := 0) (vr := 0) (at_ := 0) (nn := 0) (id := 0) (ky := kS) (.inl h.st) (by decide) (hi.ok hv.1 hv.2)).mono ?_
  rintro e W' ⟨hf, hst, hq⟩
  rw [hu] at hq
  exact ⟨hq, h.step hf hst (fun b hb => .inl hb), hf⟩
theorem getK_some {d : ByteArray} (hd : d.size ≤ 262144) (h : LwAt w W a0 n c0 P S I s Mo Mu (stD d)) :
    Calls Try.prog 12 #[.pointer (some ⟨s, 0, none⟩), .agg #[.int .i64 3, .string kS, .slice none 0 0, .int .i64 0, .int .i64 0, .int .i64 0, .int .i64 0]] W fun e W' => (∃ g c, e = .returned (rep7 0 1 0 (.slice (some ⟨g, 0, none⟩) d.size c)) ∧ BytesAt W' (some ⟨g, 0, none⟩) d.size c (numsOf d)) ∧ LwAt w W' a0 n c0 P S I s Mo Mu (stD d) ∧ Frm (StF s Mo Mu (stD d)) W W' := by
  refine (doGet (a := none) (n := 0) (c := 0) (vr := 0) (at_ := 0) (nn := 0) (id := 0) (ky := kS) (.inl h.st) (by decide) ((inv_stD hd).ok (by show (1 : Int) ≤ 1000000000; decide) (by show (1 : Int) ≤ 1000000000; decide))).mono ?_
  rintro e W' ⟨hf, hst, hq⟩
  rw [show objOf (stD d) kS = some ⟨d, 1, 0⟩ from by
    unfold objOf stD getK
    rw [List.find?_cons, show ((slit (kS, (⟨d, 1, 0⟩ : ObjS)).1).sameKey (slit kS)) = true from litS.same kS]
    rfl] at hq
  obtain ⟨g, c, rfl, _, hby⟩ := hq
  exact ⟨⟨g, c, rfl, hby⟩, h.step hf hst (fun b hb => .inl hb), hf⟩
end
set_option maxRecDepth 100000 in
set_option maxHeartbeats 8000000 in
theorem storeUploads_walk (a0 : Option Addr) (len0 cap0 : Nat) (z0 : (Nat → Option Addr) × (Nat → Nat) × (Nat → Nat) × (Nat → List Nat)) (a1 : Option Addr) (len1 cap1 : Nat) (z1 : List Int) (ab : Bool) (w : World) (hrow0 : RowsAt w a0 len0 cap0 z0.1 z0.2.1 z0.2.2.1 z0.2.2.2) (hint : IsRow .i64 8 w a1 len1 cap1 z1) :
    Calls Try.prog 7 #[.slice a0 len0 cap0, .slice a1 len1 cap1, .bool ab] w fun e w' => e = .returned (.bool true) ∧ Below w.heap.size w w' := by
  obtain ⟨A, L, C, X⟩ := z0
  replace hrow0 : RowsAt w a0 len0 cap0 A L C X := hrow0
  have hint2 := hint.ints
  have HROW := Lib.hid hrow0
  have HINT := Lib.hid hint2
  have hcm := hrow0.capm
  have hcp := hrow0.cap
  have hcm1 := hint2.capm
  have hcp1 := hint2.cap
  clear hrow0 hint hint2
  obtain ⟨wP, hwP⟩ : ∃ wP, wP = w.alloc (.cells #[.slice a0 len0 cap0] 42) := ⟨_, rfl⟩
  have HN := Lib.hid (new_any wP)
  obtain ⟨w2, hw2⟩ : ∃ w2, w2 = (wP.alloc (.cells #[.map none, .map none, .int .i64 0, .int .i64 0, .int .i64 0, .int .i64 0] 61)).alloc (.cells #[.pointer (some ⟨wP.heap.size, 0, none⟩)] 23) := ⟨_, rfl⟩
  have zP : wP.heap.size = w.heap.size + 1 := by rw [hwP]; simp
  have z2 : w2.heap.size = wP.heap.size + 2 := by rw [hw2]; simp
  have bP : Below w.heap.size w wP := by rw [hwP]; exact (Below.refl _ _).alloc (Nat.le_refl _) _
  have b2 : Below wP.heap.size wP w2 := by rw [hw2]; exact ((Below.refl _ _).alloc (Nat.le_refl _) _).alloc (by simp) _
  have hP : wP.heap[w.heap.size]? = some (.cells #[.slice a0 len0 cap0] 42 (0, 0)) := by rw [hwP]; exact heap_new w _
  have hs2 : FreshAt w2 wP.heap.size 0 := by
    rw [hw2]
    exact (Below.heap_alloc _ _ _ (by simp)).trans (heap_new wP _)
  have hS2 : w2.heap[wP.heap.size + 1]? = some (.cells #[.pointer (some ⟨wP.heap.size, 0, none⟩)] 23 (0, 0)) := by
    have := heap_new (wP.alloc (.cells #[.map none, .map none, .int .i64 0, .int .i64 0, .int .i64 0, .int .i64 0] 61)) (.cells #[.pointer (some ⟨wP.heap.size, 0, none⟩)] 23)
    rw [← hw2] at this
    rwa [show (wP.alloc (.cells #[.map none, .map none, .int .i64 0, .int .i64 0, .int .i64 0, .int .i64 0] 61)).heap.size = wP.heap.size + 1 by simp] at this
  have hP2 := (b2.block _ (by omega)).trans hP
  have HL := Lib.hid (lives_any w2)
  have HWP := Lib.hid hwP
  have HW2 := Lib.hid hw2
  have HB2 := Lib.hid (bP.trans (b2.mono bP.size))
  have HP2 := Lib.hid hP2
  have HS2 := Lib.hid hS2
  have HF2 := Lib.hid hs2
  have ZP := Lib.hid zP
  have Z2 := Lib.hid z2
  clear hwP hw2 zP z2 bP b2 hP hs2 hS2 hP2
  by_cases hsm : (len0 : Int) < 1 ∨ 8 < (len0 : Int) ∨ 30 < (len1 : Int)
  · go_enter Try.func7, Try.ntmps7
    go_wp2_with fail
    rw [← HWP.out]
    refine HN.out.mono ?_
    rintro e w1 ⟨rfl, rfl⟩
    go_upto_region 2 with fail
    rw [← HW2.out]
    go_wp2_with fail
    refine HL.out.mono ?_
    rintro e w3 ⟨rfl, hb3⟩
    have hP3 := (hb3.block _ (Array.getElem?_eq_some_iff.1 HP2.out).1).trans HP2.out
    have hS3 := (hb3.block _ (Array.getElem?_eq_some_iff.1 HS2.out).1).trans HS2.out
    have c1 := cell_blk2 hP3 (i := 0) (u := .slice a0 len0 cap0) rfl
    have c2 := cell_blk2 hS3 (i := 0) (u := .pointer (some ⟨wP.heap.size, 0, none⟩)) rfl
    have HB3 := Lib.hid (HB2.out.trans (hb3.mono HB2.out.size))
    clear hb3 hP3 hS3
    rcases (by omega : (len0 : Int) < 1 ∨ (1 ≤ (len0 : Int) ∧ 8 < (len0 : Int)) ∨ (1 ≤ (len0 : Int) ∧ (len0 : Int) ≤ 8 ∧ 30 < (len1 : Int))) with g | ⟨g, g2⟩ | ⟨g, g2, g3⟩
    all_goals
      clear hsm
      go_wp2_with fail
      first | go_ret2 | go_ret
      exact ⟨rfl, HB3.out⟩
  · have hn1 : 1 ≤ (len0 : Int) := by omega
    have hn8 : (len0 : Int) ≤ 8 := by omega
    have hn30 : (len1 : Int) ≤ 30 := by omega
    clear hsm
    obtain ⟨b, off, rfl, hlt, hc⟩ := HROW.out.cells (by omega)
    have HC0 := Lib.hid hc
    have HLT := Lib.hid hlt
    clear hlt hc
    go_enter Try.func7, Try.ntmps7
    go_wp2_with fail
    rw [← HWP.out]
    refine HN.out.mono ?_
    rintro e w1 ⟨rfl, rfl⟩
    go_upto_region 2 with fail
    rw [← HW2.out]
    go_wp2_with fail
    refine HL.out.mono ?_
    rintro e w3 ⟨rfl, hb3⟩
    have hP3 := (hb3.block _ (Array.getElem?_eq_some_iff.1 HP2.out).1).trans HP2.out
    have hS3 := (hb3.block _ (Array.getElem?_eq_some_iff.1 HS2.out).1).trans HS2.out
    have hF3 : FreshAt w3 wP.heap.size 0 := (hb3.block _ (Array.getElem?_eq_some_iff.1 HF2.out).1).trans HF2.out
    have c1 := cell_blk2 hP3 (i := 0) (u := .slice (some ⟨b, off, none⟩) len0 cap0) rfl
    have c2 := cell_blk2 hS3 (i := 0) (u := .pointer (some ⟨wP.heap.size, 0, none⟩)) rfl
    have HB3 := Lib.hid (HB2.out.trans (hb3.mono HB2.out.size))
    have hsat : SAt w3 wP.heap.size (w3.heap.size + 2) (w3.heap.size + 3) (sto0 0) := .inr ⟨hF3, rfl, rfl, rfl⟩
    have HC := Lib.hid (doCreate (ky := kS) (a := none) (n := 0) (c := 0) (vr := 0) (at_ := 0) (nn := 0) (id := 0) hsat (inv0.ok (by decide) (by decide)))
    have hz3 : wP.heap.size + 2 ≤ w3.heap.size := by have := hb3.size; have := Z2.out; omega
    have hfl4 := fun (a b c d e f g : Value) (w : World) => (show (Instr.field 35 (.agg #[a, b, c, d, e, f, g]) 4).run Try.prog w = .ok e w by kernel_rfl)
    have HP3 := Lib.hid hP3
    have HS3 := Lib.hid hS3
    have HZ3 := Lib.hid hz3
    have HSAT := Lib.hid hsat
    clear hb3 hP3 hS3 hF3 hz3 hsat
    go_wp2_with fail
    refine HC.out.mono ?_
    rintro e w4 ⟨hfr, _, _, hq⟩
    obtain ⟨pb, rfl, hpb, hst⟩ := hq (by kernel_rfl) (by decide)
    rw [cre_stU] at hst
    rw [show rep 0 (.slice none 0 0) 0 (sto0 0).now ((sto0 0).id + 1) (.slice none 0 0) false = .agg #[.int .i64 0, .slice none 0 0, .int .i64 0, .int .i64 0, .int .i64 1, .slice none 0 0, .bool false] from rfl]
    have hf5 := hfl4 (.int .i64 0) (.slice none 0 0) (.int .i64 0) (.int .i64 0) (.int .i64 1) (.slice none 0 0) (.bool false)
    clear hfl4 hq c1 c2
    obtain ⟨w5, hw5⟩ : ∃ w5, w5 = w4.alloc (.cells #[.int .i64 1] 3) := ⟨_, rfl⟩
    have HLW : Hid (LwAt w w5 (some ⟨b, off, none⟩) len0 cap0 w.heap.size (wP.heap.size + 1) w4.heap.size wP.heap.size (w3.heap.size + 2) (w3.heap.size + 3) (stU pb [])) := by
      refine Lib.hid ?_
      have h5 : Below w4.heap.size w4 w5 := by rw [hw5]; exact (Below.refl _ _).alloc (Nat.le_refl _) _
      have hi5 : w5.heap[w4.heap.size]? = some (.cells #[.int .i64 1] 3 (0, 0)) := by rw [hw5]; exact heap_new w4 _
      have z3 := HZ3.out
      have zp := ZP.out
      have hF4 : ∀ i, StF wP.heap.size (w3.heap.size + 2) (w3.heap.size + 3) (sto0 0) i → w.heap.size ≤ i := by
        rintro i (rfl | rfl | rfl | ⟨p, hp, rfl⟩)
        · omega
        · omega
        · omega
        · cases hp
      have hn4 : ∀ i, i < w3.heap.size → i ≠ wP.heap.size → ¬ StF wP.heap.size (w3.heap.size + 2) (w3.heap.size + 3) (sto0 0) i := by
        rintro i hi hne (rfl | rfl | rfl | ⟨p, hp, rfl⟩)
        · exact hne rfl
        · omega
        · omega
        · cases hp
      have b4 := HB3.out.trans (hfr.toBelow HB3.out.size hF4)
      refine ⟨b4.trans (h5.mono b4.size), hst.below h5, ?_, (h5.block _ (Nat.lt_of_lt_of_le (by omega) hfr.size)).trans (hfr.at HP3.out (hn4 _ (by omega) (by omega))), (h5.block _ (Nat.lt_of_lt_of_le (by omega) hfr.size)).trans (hfr.at HS3.out (hn4 _ (by omega) (by omega))), hi5⟩
      rintro i (rfl | rfl | rfl | ⟨p, hp, rfl⟩)
      · omega
      · omega
      · omega
      · rw [List.mem_singleton.1 hp]
        show w.heap.size ≤ pb
        omega
    have HW5 := Lib.hid hw5
    have HWR := Lib.hid (show w.heap.size ≤ w4.heap.size from by have := hfr.size; have := HZ3.out; have := ZP.out; omega)
    clear hw5 hst hfr hpb HC HL HN HWP HW2 HP2 HS2 HF2 HP3 HS3 HSAT HB2
    go_upto_region 6 with fail
    rw [← HW5.out]
    obtain ⟨s, hse⟩ : ∃ s, s = wP.heap.size := ⟨_, rfl⟩
    obtain ⟨Mo, hMo⟩ : ∃ Mo, Mo = w3.heap.size + 2 := ⟨_, rfl⟩
    obtain ⟨Mu, hMu⟩ : ∃ Mu, Mu = w3.heap.size + 3 := ⟨_, rfl⟩
    obtain ⟨S, hSe⟩ : ∃ S, S = s + 1 := ⟨_, rfl⟩
    obtain ⟨I, hIe⟩ : ∃ I, I = w4.heap.size := ⟨_, rfl⟩
    obtain ⟨P, hPe⟩ : ∃ P, P = w.heap.size := ⟨_, rfl⟩
    have HPE := Lib.hid hPe
    rw [← hse, ← hSe, ← hIe, ← hMo, ← hMu] at HLW
    rw [← hse, ← hSe, ← hIe, ← hPe]
    have HLW1 : Hid (LwAt w w5 (some ⟨b, off, none⟩) len0 cap0 P S I s Mo Mu (stU pb [])) := by rw [hPe]; exact HLW
    clear hse hMo hMu hSe hIe hPe HLW HW5 HZ3 ZP Z2 HB3 HWR
    have c1 := cell_blk2 HLW1.out.pb (i := 0) (u := .slice (some ⟨b, off, none⟩) len0 cap0) rfl
    go_wp2_with fail
    clear c1
    go_loopw [9, 49] (fun s9 s49 wr => ∃ (k n9 c9 : Nat) (a9 : Option Addr), k ≤ len0 ∧ n9 ≤ 500 * k ∧ s49 = .int .i64 k ∧ s9 = .slice a9 n9 c9 ∧ Hid (∀ i, i < k → L i ≤ 500) ∧ Hid (wr.ownsRow w.heap.size 5 1 (.slice a9 n9 c9) n9 (bv (flx X k))) ∧ Hid (LwAt w wr (some ⟨b, off, none⟩) len0 cap0 P S I s Mo Mu (stU pb []))) (fun _ s49 _ => len0 - (intOf s49).toNat)
    case atStart => exact ⟨0, 0, 0, none, by omega, by omega, rfl, rfl, Lib.hid (fun i hi => absurd hi (Nat.not_lt_zero _)), Lib.hid (own_nil_bytes _ _), HLW1⟩
    case round =>
      obtain ⟨k, n9, c9, a9, hk, hn9, rfl, rfl, HSH, HO, HLR⟩ := hrel
      rename World => wr
      by_cases hkm : k < len0
      · obtain ⟨q1, q2, q3, q4⟩ := HC0.out k hkm
        have hck := (HLR.out.bel.cell (p := ⟨b, off + k, none⟩) HLT.out).trans q1
        have c1 := cell_blk2 HLR.out.pb (i := 0) (u := .slice (some ⟨b, off, none⟩) len0 cap0) rfl
        obtain ⟨pa, hpa⟩ : ∃ pa, pa = A k := ⟨_, rfl⟩
        obtain ⟨pl, hpl⟩ : ∃ pl, pl = L k := ⟨_, rfl⟩
        obtain ⟨pc, hpc⟩ : ∃ pc, pc = C k := ⟨_, rfl⟩
        rw [← hpa, ← hpl, ← hpc] at hck
        have HLK := Lib.hid hpl
        rw [← hpa, ← hpl, ← hpc] at q4
        rw [← hpl, ← hpc] at q2
        rw [← hpc] at q3
        have HQ4 := Lib.hid q4
        have zk : (k : Int) < (len0 : Int) := by omega
        have zk0 : (0 : Int) ≤ (k : Int) := by omega
        have wk : IntKind.i64.wrap ((k : Int) + 1) = (k : Int) + 1 := IntWalk.i64_in _ (by omega)
        clear q1 q4 hpa hpl hpc HLW1
        by_cases h4 : (500 : Int) < (pl : Int)
        · go_wp2_with fail
          first | go_ret2 | go_ret
          exact ⟨rfl, HLR.out.bel⟩
        · have h4' : (pl : Int) ≤ 500 := by omega
          clear h4
          have HP := Lib.hid ((HQ4.out (by omega)).kept HLR.out.bel)
          have hgo := HO.out
          have hbs := HLR.out.bel.size
          go_wp2_with (at_builtin; refine wpList_append_bytes rfl (.tmp 58) (.tmp 62) rfl w.heap.size _ _ _ rfl hgo _ _ _ _ rfl HP.out (by omega) hbs ?_)
          intro v4 w4 hown4 hg4
          rw [show flx X k ++ X k = flx X (k + 1) from (flx_succ X k).symm] at hown4
          have HSH4 : Hid (∀ i, i < k + 1 → L i ≤ 500) := Lib.hid fun i hi => by
            rcases Nat.lt_or_ge i k with g | g
            · exact HSH.out i g
            · rw [show i = k by omega, ← HLK.out]; omega
          have HLR4 := Lib.hid (HLR.out.gb hgo (Nat.le_refl _) hg4)
          obtain ⟨a4, c4, rfl⟩ : ∃ a c, v4 = .slice a (n9 + pl) c := by
            rcases hown4.2 with ⟨rfl, hz⟩ | ⟨g, cap, cu, rfl, _⟩
            · exact ⟨none, 0, by rw [hz]⟩
            · exact ⟨_, _, rfl⟩
          have HO4 := Lib.hid hown4
          clear hown4 hg4 hgo hbs HP HQ4 c1 hck
          go_wp2_with fail
          go_roundw
          case rel => exact ⟨k + 1, n9 + pl, c4, a4, by omega, by omega, by push_cast; rfl, rfl, HSH4, HO4, HLR4⟩
          case measure => simp only [intOf]; omega
      · have e : len0 = k := by omega
        subst e
        clear hkm hk HLW1
        have HBY9 := Lib.hid (HROW.out.byte5 (Nat.le_refl _) HSH.out)
        obtain ⟨a9', c9', hae, hby, _⟩ := BytesAt.ofOwn HO.out HBY9.out (by omega)
        cases hae
        obtain ⟨wR, hwR⟩ : ∃ wR, wR = wr.alloc (.cells (madeCells #[.bool false] len0) 4) := ⟨_, rfl⟩
        obtain ⟨wJ, hwJ⟩ : ∃ wJ, wJ = wR.alloc (.cells #[.slice (some ⟨wr.heap.size, 0, none⟩) len0 len0] 50) := ⟨_, rfl⟩
        have zR : wR.heap.size = wr.heap.size + 1 := by rw [hwR]; simp
        have bR : Below wr.heap.size wr wR := by rw [hwR]; exact (Below.refl _ _).alloc (Nat.le_refl _) _
        have bJ : Below wR.heap.size wR wJ := by rw [hwJ]; exact (Below.refl _ _).alloc (Nat.le_refl _) _
        have bRJ := bR.trans (bJ.mono bR.size)
        have hbl : bools len0 (fun _ => false) = madeCells #[.bool false] len0 := by
          unfold bools
          apply Array.ext'
          rw [toList_madeCells_one]
          exact (List.map_const' ..).trans (by rw [List.length_range])
        have hmk : (Instr.makeSlice 50 (.int .i64 (len0 : Int)) (.int .i64 (len0 : Int))).run Try.prog wr = .ok (.slice (some ⟨wr.heap.size, 0, none⟩) len0 len0) (wr.alloc (.cells (madeCells #[.bool false] len0) 4)) := run_make_row' (P := Try.prog) 50 4 (.bool false) 1 Try.underlying50 (by kernel_rfl) rfl .i64 .i64 len0 (by omega) (by omega) wr
        rw [← hwR] at hmk
        have hRr : wJ.heap[wr.heap.size]? = some (.cells (bools len0 (fun _ => false)) 4 (0, 0)) := by
          rw [hbl]
          refine (bJ.block _ (by omega)).trans ?_
          rw [hwR]; exact heap_new wr _
        have hJr : wJ.heap[wr.heap.size + 1]? = some (.cells #[.slice (some ⟨wr.heap.size, 0, none⟩) len0 len0] 50 (0, 0)) := by
          rw [hwJ, ← zR]; exact heap_new wR _
        have HLJ := Lib.hid (HLR.out.kept bRJ)
        have HRW := Lib.hid (HLR.out.bel.size)
        have HBYT := Lib.hid (hby.kept bRJ)
        have HWR := Lib.hid hwR
        have HWJ := Lib.hid hwJ
        have HRR := Lib.hid hRr
        have HJR := Lib.hid hJr
        have c1 := cell_blk2 HLR.out.pb (i := 0) (u := .slice (some ⟨b, off, none⟩) len0 cap0) rfl
        have zl : (0 : Int) ≤ (len0 : Int) := by omega
        obtain ⟨R, hRe⟩ : ∃ R, R = wr.heap.size := ⟨_, rfl⟩
        obtain ⟨J, hJe⟩ : ∃ J, J = R + 1 := ⟨_, rfl⟩
        have HREQ := Lib.hid hRe
        have HJEQ := Lib.hid hJe
        have ZRJ := Lib.hid (show wR.heap.size = J by rw [hJe, hRe, zR])
        clear zR bR bJ bRJ hbl hRr hJr hwR hwJ hby hRe hJe HO
        go_upto_region 14 with fail
        rw [← HWJ.out, show wR.heap.size = J from ZRJ.out]
        clear c1 hmk
        have HUP : Hid (UpAt w wJ (some ⟨b, off, none⟩) len0 cap0 P S I s Mo Mu pb J R X a9 n9 c9 (fun _ => false)) := Lib.hid ⟨⟨[], HLJ.out, PsOk.nil _ _⟩, by rw [HJEQ.out, HREQ.out]; exact HJR.out, by rw [HREQ.out]; exact HRR.out, HBYT.out⟩
        have HRW2 := Lib.hid (show w.heap.size ≤ R by rw [HREQ.out]; exact HRW.out)
        clear HLJ HJR HRR HBYT HRW HWR HWJ HLR ZRJ HREQ HJEQ
        go_wp2_with fail
        go_loopw [71] (fun s71 wr => ∃ (k : Nat) (B : Nat → Bool), k ≤ len1 ∧ s71 = .int .i64 k ∧ Hid (UpAt w wr (some ⟨b, off, none⟩) len0 cap0 P S I s Mo Mu pb J R X a9 n9 c9 B)) (fun s71 _ => len1 - (intOf s71).toNat)
        case atStart => exact ⟨0, _, by omega, rfl, HUP⟩
        case round =>
          obtain ⟨k, B, hk, rfl, HU⟩ := hrel
          rename World => wr
          clear HUP
          by_cases hkm : k < len1
          · obtain ⟨b1, o1, ha1, hlt1, hc1⟩ := HINT.out.cells (by omega)
            obtain ⟨ps, hlw, hps⟩ := HU.out.lw
            have hck := (hlw.bel.cell (p := ⟨b1, o1 + k, none⟩) hlt1).trans (hc1 k hkm)
            have c3 := cell_blk2 hlw.pb (i := 0) (u := .slice (some ⟨b, off, none⟩) len0 cap0) rfl
            obtain ⟨z, hz⟩ : ∃ z, z = (z1.take len1).getD k 0 := ⟨_, rfl⟩
            rw [← hz] at hck
            have zk : (k : Int) < (len1 : Int) := by omega
            have zk0 : (0 : Int) ≤ (k : Int) := by omega
            have wk : IntKind.i64.wrap ((k : Int) + 1) = (k : Int) + 1 := IntWalk.i64_in _ (by omega)
            clear hc1 hz hlw hps
            subst ha1
            go_wp2_with fail
            obtain ⟨j, hj, hje⟩ := mod_ok z hn1 hn8
            rw [hje]
            have HCL := Lib.hid (up_call HU.out HRW2.out HROW.out (by omega) HSH.out hj)
            refine HCL.out.mono ?_
            rintro e w4 ⟨rfl, hu4⟩
            have HU4 := Lib.hid hu4
            clear hu4 HCL hje hck c3
            go_wp2_with fail
            go_roundw
            case rel => exact ⟨k + 1, _, by omega, by push_cast; rfl, HU4⟩
            case measure => simp only [intOf]; omega
          · have e : len1 = k := by omega
            obtain ⟨ps, hlw, hps⟩ := HU.out.lw
            have c3 := cell_blk2 hlw.pb (i := 0) (u := .slice (some ⟨b, off, none⟩) len0 cap0) rfl
            clear hlw hps
            go_wp2_with fail
            clear c3
            go_loopw [88] (fun s88 wr => ∃ (k : Nat) (B : Nat → Bool), k ≤ len0 ∧ s88 = .int .i64 k ∧ Hid (∀ i, i < k → B i = true) ∧ Hid (UpAt w wr (some ⟨b, off, none⟩) len0 cap0 P S I s Mo Mu pb J R X a9 n9 c9 B)) (fun s88 _ => len0 - (intOf s88).toNat)
            case atStart => exact ⟨0, B, by omega, rfl, Lib.hid (fun i hi => absurd hi (Nat.not_lt_zero _)), HU⟩
            case round =>
              clear e hkm hk
              obtain ⟨k, B, hk, rfl, HBT, HU⟩ := hrel
              rename World => wr
              by_cases hkm : k < len0
              · have c4 := cell_blk2 HU.out.jb (i := 0) (u := .slice (some ⟨R, 0, none⟩) len0 len0) rfl
                have c5 := cell_blk2 HU.out.rb (i := k) (u := .bool (B k)) (bools_at hkm)
                have zk : (k : Int) < (len0 : Int) := by omega
                have zk0 : (0 : Int) ≤ (k : Int) := by omega
                have wk : IntKind.i64.wrap ((k : Int) + 1) = (k : Int) + 1 := IntWalk.i64_in _ (by omega)
                cases hBk : B k with
                | true =>
                  rw [hBk] at c5
                  have HB5 : Hid (∀ i, i < k + 1 → B i = true) := Lib.hid fun i hi => by
                    rcases Nat.lt_or_ge i k with g | g
                    · exact HBT.out i g
                    · rw [show i = k by omega]; exact hBk
                  clear hBk
                  go_wp2_with fail
                  go_roundw
                  case rel => exact ⟨k + 1, B, by omega, by push_cast; rfl, HB5, HU⟩
                  case measure => simp only [intOf]; omega
                | false =>
                  rw [hBk] at c5
                  have HCL := Lib.hid (up_call HU.out HRW2.out HROW.out (by omega) HSH.out hkm)
                  have HB5 : Hid (∀ i, i < k + 1 → updB B k i = true) := Lib.hid fun i hi => by
                    unfold updB
                    rcases Nat.lt_or_ge i k with g | g
                    · rw [if_neg (by omega)]; exact HBT.out i g
                    · rw [if_pos (by omega)]
                  clear hBk
                  go_wp2_with fail
                  refine HCL.out.mono ?_
                  rintro e w4 ⟨rfl, hu4⟩
                  have HU4 := Lib.hid hu4
                  clear hu4 HCL c4 c5
                  go_wp2_with fail
                  go_roundw
                  case rel => exact ⟨k + 1, _, by omega, by push_cast; rfl, HB5, HU4⟩
                  case measure => simp only [intOf]; omega
              · have e : len0 = k := by omega
                subst e
                clear hkm hk
                obtain ⟨ps, hlw, hps⟩ := HU.out.lw
                have HXL : Hid (∀ i, i < len0 → (X i).length ≤ 500) := Lib.hid fun i hi => by
                  have h1 := (HC0.out i hi).2.2.2 (by have := HSH.out i hi; omega)
                  rw [h1.len]
                  exact HSH.out i hi
                have hfl := fldR (.int .i64 0) (.slice none 0 0) (.int .i64 0) (.int .i64 0) (.int .i64 0) (.slice none 0 0) (.bool false)
                have swr := cell_blk2 hlw.sb (i := 0) (u := .pointer (some ⟨s, 0, none⟩)) rfl
                have iwr := cell_blk2 hlw.ib (i := 0) (u := .int .i64 1) rfl
                have pwr := cell_blk2 hlw.pb (i := 0) (u := .slice (some ⟨b, off, none⟩) len0 cap0) rfl
                have HLW := Lib.hid hlw
                have HPS := Lib.hid hps
                have HRISE := Lib.hid hlw.st.rise
                have zv : ((stE).ver ≤ 1000000000 ∧ (stE).id ≤ 1000000000) := by decide
                clear hlw hps
                cases ab with
                | true =>
                  have HA := Lib.hid (abt_call HLW.out HPS.out (by omega))
                  clear zv
                  go_wp2_with fail
                  refine HA.out.mono ?_
                  rintro e v1 ⟨rfl, l1, f1⟩
                  unfold rep7
                  have HC1 := Lib.hid (com_none l1 inv_stE (by decide) rfl)
                  clear swr iwr pwr
                  have sl1 := cell_blk2 l1.sb (i := 0) (u := .pointer (some ⟨s, 0, none⟩)) rfl
                  have il1 := cell_blk2 l1.ib (i := 0) (u := .int .i64 1) rfl
                  have pl1 := cell_blk2 l1.pb (i := 0) (u := .slice (some ⟨b, off, none⟩) len0 cap0) rfl
                  clear f1 l1
                  go_wp2_with fail
                  refine HC1.out.mono ?_
                  rintro e v2 ⟨rfl, l2, f2⟩
                  unfold rep7
                  clear sl1 il1 pl1
                  obtain ⟨v3, hv3⟩ : ∃ v, v = v2.alloc (.cells #[.int .i64 7, .slice none 0 0, .int .i64 0, .int .i64 0, .int .i64 0, .slice none 0 0, .bool false] 35) := ⟨_, rfl⟩
                  have bv3 : Below v2.heap.size v2 v3 := by rw [hv3]; exact (Below.refl _ _).alloc (Nat.le_refl _) _
                  have r3 : v3.heap[v2.heap.size]? = some (.cells #[.int .i64 7, .slice none 0 0, .int .i64 0, .int .i64 0, .int .i64 0, .slice none 0 0, .bool false] 35 (0, 0)) := by rw [hv3]; exact heap_new v2 _
                  have l3 := l2.kept bv3
                  go_upto_region 30 with fail
                  rw [← hv3]
                  have HC2 := Lib.hid (com_none l3 inv_stE (by decide) rfl)
                  have sl3 := cell_blk2 l3.sb (i := 0) (u := .pointer (some ⟨s, 0, none⟩)) rfl
                  have il3 := cell_blk2 l3.ib (i := 0) (u := .int .i64 1) rfl
                  have pl3 := cell_blk2 l3.pb (i := 0) (u := .slice (some ⟨b, off, none⟩) len0 cap0) rfl
                  have HL3 := Lib.hid l3
                  have HR3 := Lib.hid r3
                  clear l2 f2 hv3 bv3 l3 r3
                  go_wp2_with fail
                  refine HC2.out.mono ?_
                  rintro e v4 ⟨rfl, l4, f4⟩
                  unfold rep7
                  clear sl3 il3 pl3
                  obtain ⟨v5, hv5⟩ : ∃ v, v = v4.alloc (.cells #[.int .i64 7, .slice none 0 0, .int .i64 0, .int .i64 0, .int .i64 0, .slice none 0 0, .bool false] 35) := ⟨_, rfl⟩
                  have bv5 : Below v4.heap.size v4 v5 := by rw [hv5]; exact (Below.refl _ _).alloc (Nat.le_refl _) _
                  have r5 : v5.heap[v4.heap.size]? = some (.cells #[.int .i64 7, .slice none 0 0, .int .i64 0, .int .i64 0, .int .i64 0, .slice none 0 0, .bool false] 35 (0, 0)) := by rw [hv5]; exact heap_new v4 _
                  have l5 := l4.kept bv5
                  go_upto_region 31 with fail
                  rw [← hv5]
                  have q4 := f4.at HR3.out (HL3.out.st.not HR3.out (by decide))
                  have q5 := (bv5.block _ (Array.getElem?_eq_some_iff.1 q4).1).trans q4
                  have HG := Lib.hid (getK_none l5 inv_stE (by decide) rfl)
                  have sl5 := cell_blk2 l5.sb (i := 0) (u := .pointer (some ⟨s, 0, none⟩)) rfl
                  have il5 := cell_blk2 l5.ib (i := 0) (u := .int .i64 1) rfl
                  have pl5 := cell_blk2 l5.pb (i := 0) (u := .slice (some ⟨b, off, none⟩) len0 cap0) rfl
                  have HL5 := Lib.hid l5
                  have HR5 := Lib.hid r5
                  have HQ5 := Lib.hid q5
                  clear l4 f4 hv5 bv5 l5 r5 q4 q5 HL3 HR3
                  go_wp2_with fail
                  refine HG.out.mono ?_
                  rintro e v6 ⟨rfl, l6, f6⟩
                  unfold rep7
                  clear sl5 il5 pl5
                  obtain ⟨v7, hv7⟩ : ∃ v, v = v6.alloc (.cells #[.int .i64 7, .slice none 0 0, .int .i64 0, .int .i64 0, .int .i64 0, .slice none 0 0, .bool false] 35) := ⟨_, rfl⟩
                  have bv7 : Below v6.heap.size v6 v7 := by rw [hv7]; exact (Below.refl _ _).alloc (Nat.le_refl _) _
                  have r7 : v7.heap[v6.heap.size]? = some (.cells #[.int .i64 7, .slice none 0 0, .int .i64 0, .int .i64 0, .int .i64 0, .slice none 0 0, .bool false] 35 (0, 0)) := by rw [hv7]; exact heap_new v6 _
                  have l7 := l6.kept bv7
                  go_upto_region 32 with fail
                  rw [← hv7]
                  have q6 := f6.at HR5.out (HL5.out.st.not HR5.out (by decide))
                  have q7 := (bv7.block _ (Array.getElem?_eq_some_iff.1 q6).1).trans q6
                  have o6 := f6.at HQ5.out (HL5.out.st.not HQ5.out (by decide))
                  have o7 := (bv7.block _ (Array.getElem?_eq_some_iff.1 o6).1).trans o6
                  have x1 := cell_blk2 o7 (i := 0) (u := .int .i64 7) rfl
                  have x2 := cell_blk2 q7 (i := 0) (u := .int .i64 7) rfl
                  have x3 := cell_blk2 r7 (i := 0) (u := .int .i64 7) rfl
                  have HSZ := Lib.hid (size_of (cell_blk2 l7.st.blk (i := 4) (u := .int .i64 0) rfl))
                  have HBE := Lib.hid l7.bel
                  have sl7 := cell_blk2 l7.sb (i := 0) (u := .pointer (some ⟨s, 0, none⟩)) rfl
                  have il7 := cell_blk2 l7.ib (i := 0) (u := .int .i64 1) rfl
                  have pl7 := cell_blk2 l7.pb (i := 0) (u := .slice (some ⟨b, off, none⟩) len0 cap0) rfl
                  clear l6 f6 hv7 bv7 l7 r7 q6 q7 o6 o7 HR5 HL5 HQ5
                  go_wp2_with fail
                  refine HSZ.out.mono ?_
                  rintro e v8 ⟨rfl, rfl⟩
                  go_wp2_with fail
                  first | go_ret2 | go_ret
                  exact ⟨rfl, HBE.out⟩
                | false =>
                  obtain ⟨d, hd⟩ : ∃ d, d = bs (flx X len0) := ⟨_, rfl⟩
                  have hds : d.size = n9 := by rw [hd, bs_sizeS]; exact HU.out.by9.len
                  have hdl : d.size ≤ 262144 := by rw [hds]; omega
                  have HA := Lib.hid (com_call HLW.out HPS.out ⟨by omega, by omega⟩ HBT.out HXL.out)
                  rw [← hd] at HA
                  have HDS := Lib.hid hds
                  have HDL := Lib.hid hdl
                  have HD := Lib.hid hd
                  clear zv hds hdl hd
                  go_upto_region 29 with fail
                  go_wp2_with fail
                  refine HA.out.mono ?_
                  rintro e v2 ⟨rfl, l2, f2⟩
                  unfold rep7
                  have y2 := bytes_frm HU.out.by9 f2 (bytes_not HLW.out.st HU.out.by9)
                  clear swr iwr pwr
                  obtain ⟨v3, hv3⟩ : ∃ v, v = v2.alloc (.cells #[.int .i64 0, .slice none 0 0, .int .i64 1, .int .i64 0, .int .i64 0, .slice none 0 0, .bool false] 35) := ⟨_, rfl⟩
                  have bv3 : Below v2.heap.size v2 v3 := by rw [hv3]; exact (Below.refl _ _).alloc (Nat.le_refl _) _
                  have r3 : v3.heap[v2.heap.size]? = some (.cells #[.int .i64 0, .slice none 0 0, .int .i64 1, .int .i64 0, .int .i64 0, .slice none 0 0, .bool false] 35 (0, 0)) := by rw [hv3]; exact heap_new v2 _
                  have l3 := l2.kept bv3
                  go_upto_region 30 with fail
                  rw [← hv3]
                  have HY3 := Lib.hid (y2.kept bv3)
                  have HC2 := Lib.hid (com_none l3 (inv_stD HDL.out) ⟨by show (1 : Int) ≤ 1000000000; decide, by show (1 : Int) ≤ 1000000000; decide⟩ rfl)
                  have sl3 := cell_blk2 l3.sb (i := 0) (u := .pointer (some ⟨s, 0, none⟩)) rfl
                  have il3 := cell_blk2 l3.ib (i := 0) (u := .int .i64 1) rfl
                  have pl3 := cell_blk2 l3.pb (i := 0) (u := .slice (some ⟨b, off, none⟩) len0 cap0) rfl
                  have HL3 := Lib.hid l3
                  have HR3 := Lib.hid r3
                  clear l2 f2 hv3 bv3 l3 r3 y2
                  go_wp2_with fail
                  refine HC2.out.mono ?_
                  rintro e v4 ⟨rfl, l4, f4⟩
                  unfold rep7
                  clear sl3 il3 pl3
                  obtain ⟨v5, hv5⟩ : ∃ v, v = v4.alloc (.cells #[.int .i64 7, .slice none 0 0, .int .i64 0, .int .i64 0, .int .i64 0, .slice none 0 0, .bool false] 35) := ⟨_, rfl⟩
                  have bv5 : Below v4.heap.size v4 v5 := by rw [hv5]; exact (Below.refl _ _).alloc (Nat.le_refl _) _
                  have r5 : v5.heap[v4.heap.size]? = some (.cells #[.int .i64 7, .slice none 0 0, .int .i64 0, .int .i64 0, .int .i64 0, .slice none 0 0, .bool false] 35 (0, 0)) := by rw [hv5]; exact heap_new v4 _
                  have l5 := l4.kept bv5
                  go_upto_region 31 with fail
                  rw [← hv5]
                  have q4 := f4.at HR3.out (HL3.out.st.not HR3.out (by decide))
                  have q5 := (bv5.block _ (Array.getElem?_eq_some_iff.1 q4).1).trans q4
                  have HY5 := Lib.hid ((bytes_frm HY3.out f4 (bytes_not HL3.out.st HY3.out)).kept bv5)
                  have HG := Lib.hid (getK_some HDL.out l5)
                  have sl5 := cell_blk2 l5.sb (i := 0) (u := .pointer (some ⟨s, 0, none⟩)) rfl
                  have il5 := cell_blk2 l5.ib (i := 0) (u := .int .i64 1) rfl
                  have pl5 := cell_blk2 l5.pb (i := 0) (u := .slice (some ⟨b, off, none⟩) len0 cap0) rfl
                  have HL5 := Lib.hid l5
                  have HR5 := Lib.hid r5
                  have HQ5 := Lib.hid q5
                  clear l4 f4 hv5 bv5 l5 r5 q4 q5 HL3 HR3 HY3
                  go_wp2_with fail
                  refine HG.out.mono ?_
                  rintro e v6 ⟨⟨g, c, rfl, hby⟩, l6, f6⟩
                  unfold rep7
                  clear sl5 il5 pl5
                  obtain ⟨v7, hv7⟩ : ∃ v, v = v6.alloc (.cells #[.int .i64 0, .slice (some ⟨g, 0, none⟩) d.size c, .int .i64 1, .int .i64 0, .int .i64 0, .slice none 0 0, .bool false] 35) := ⟨_, rfl⟩
                  have bv7 : Below v6.heap.size v6 v7 := by rw [hv7]; exact (Below.refl _ _).alloc (Nat.le_refl _) _
                  have r7 : v7.heap[v6.heap.size]? = some (.cells #[.int .i64 0, .slice (some ⟨g, 0, none⟩) d.size c, .int .i64 1, .int .i64 0, .int .i64 0, .slice none 0 0, .bool false] 35 (0, 0)) := by rw [hv7]; exact heap_new v6 _
                  have l7 := l6.kept bv7
                  go_upto_region 32 with fail
                  rw [← hv7]
                  have q6 := f6.at HR5.out (HL5.out.st.not HR5.out (by decide))
                  have q7 := (bv7.block _ (Array.getElem?_eq_some_iff.1 q6).1).trans q6
                  have o6 := f6.at HQ5.out (HL5.out.st.not HQ5.out (by decide))
                  have o7 := (bv7.block _ (Array.getElem?_eq_some_iff.1 o6).1).trans o6
                  have y7 := (bytes_frm HY5.out f6 (bytes_not HL5.out.st HY5.out)).kept bv7
                  have hcv1 := (hby.kept bv7).conv
                  have hcv2 := y7.conv
                  rw [bs_numsOf] at hcv1
                  rw [← HD.out] at hcv2
                  have x1 := cell_blk2 o7 (i := 0) (u := .int .i64 0) rfl
                  have x2 := cell_blk2 q7 (i := 0) (u := .int .i64 7) rfl
                  have x3 := cell_blk2 r7 (i := 1) (u := .slice (some ⟨g, 0, none⟩) d.size c) rfl
                  have hsz := size_of (cell_blk2 l7.st.blk (i := 4) (u := .int .i64 ((d.size : Nat) : Int)) rfl)
                  rw [show ((d.size : Nat) : Int) = (n9 : Int) from by rw [HDS.out]] at hsz
                  have HSZ := Lib.hid hsz
                  have HUP := Lib.hid (uploads_any l7.st (by show 0 ≤ 100000; omega))
                  have HBE := Lib.hid l7.bel
                  have sl7 := cell_blk2 l7.sb (i := 0) (u := .pointer (some ⟨s, 0, none⟩)) rfl
                  have il7 := cell_blk2 l7.ib (i := 0) (u := .int .i64 1) rfl
                  have pl7 := cell_blk2 l7.pb (i := 0) (u := .slice (some ⟨b, off, none⟩) len0 cap0) rfl
                  clear l6 f6 hv7 bv7 l7 r7 q6 q7 o6 o7 HR5 HL5 HQ5 y7 hby hsz HY5
                  go_wp2_with fail
                  refine HSZ.out.mono ?_
                  rintro e v8 ⟨rfl, rfl⟩
                  go_wp2_with fail
                  refine HUP.out.mono ?_
                  rintro e v9 ⟨v, rfl, hrow, hb9⟩
                  obtain ⟨a, c2, rfl⟩ : ∃ a c, v = .slice a 0 c := by
                    rcases hrow.2 with ⟨rfl, hz⟩ | ⟨g, cap, cu, rfl, _⟩
                    · exact ⟨none, 0, rfl⟩
                    · exact ⟨_, _, rfl⟩
                  have HB9 := Lib.hid (HBE.out.trans (hb9.mono HBE.out.size))
                  clear hrow hb9
                  go_wp2_with fail
                  first | go_ret2 | go_ret
                  exact ⟨rfl, HB9.out⟩
end Go.Proofs.Ytjafagfhkpaciaa
