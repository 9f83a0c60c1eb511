/- StoreUploads: what its walk carries; a part is put. -/
import Derived.BigRegion
import Derived.Test.YtjafagfhkpaciaaStoLiv
import Derived.Test.YtjafagfhkpaciaaParts
namespace Go.Proofs.Ytjafagfhkpaciaa
open Go.RowKit
set_option linter.unusedVariables false

def kS : ByteArray := ⟨#[107]⟩
def stU (pb : Nat) (ps : List (Int × ByteArray)) : Sto := ⟨[], [(1, ⟨kS, 0, pb, ps⟩)], 0, 1, ((psz ps : Nat) : Int), 0⟩
theorem cre_stU (pb : Nat) : createS (sto0 0) kS pb = stU pb [] := rfl
def updB (B : Nat → Bool) (j : Nat) : Nat → Bool := fun i => if i = j then true else B i
structure PsOk (n : Nat) (X : Nat → List Nat) (B : Nat → Bool) (ps : List (Int × ByteArray)) : Prop where
  got : ∀ j, j < n → getK ilit ((j : Int) + 1) ps = if B j = true then some (bs (X j)) else none
  only : ∀ x ∈ ps, ∃ j, j < n ∧ x.1 = (j : Int) + 1 ∧ x.2.size ≤ 500
theorem PsOk.nil (n : Nat) (X : Nat → List Nat) : PsOk n X (fun _ => false) [] := ⟨fun j _ => rfl, fun x hx => by cases hx⟩
theorem PsOk.put {n : Nat} {X : Nat → List Nat} {B : Nat → Bool} {ps : List (Int × ByteArray)} (h : PsOk n X B ps) {j : Nat} (hj : j < n) (hx : (X j).length ≤ 500) : PsOk n X (updB B j) (putK ilit ((j : Int) + 1) (bs (X j)) ps) := by
  refine ⟨fun i hi => ?_, fun x hm => ?_⟩
  · unfold updB
    rcases Classical.em (i = j) with e | e
    · subst e
      rw [get_put_same litI, if_pos rfl, if_pos rfl]
    · rw [get_put_ne litI (by omega), if_neg e]
      exact h.got i hi
  · rcases mem_put hm with rfl | g
    · exact ⟨j, hj, rfl, by rw [bs_sizeS]; exact hx⟩
    · exact h.only x g
theorem part_stU {pb : Nat} {ps : List (Int × ByteArray)} (hr : ps.Pairwise fun p q => (ilit p.1).before (ilit q.1) = true) (n : Int) (d : ByteArray) : partS (stU pb ps) 1 ⟨kS, 0, pb, ps⟩ n d = stU pb (putK ilit n d ps) := by
  have h2 := put_tot litI (fun d : ByteArray => d.size) (k := n) (a := d) (rise_apart before_int hr)
  have e := got_oldP ⟨kS, 0, pb, ps⟩ n
  simp only at e
  rw [e] at h2
  unfold partS stU
  simp only [setParts, List.map_cons, List.map_nil, if_pos]
  congr 1
  unfold psz
  omega
theorem psz_le (m : Nat) : ∀ {ps : List (Int × ByteArray)}, (∀ x ∈ ps, x.2.size ≤ m) → psz ps ≤ ps.length * m
  | [], _ => Nat.zero_le _
  | x :: r, h => by
    have h1 := psz_le m (ps := r) fun y hy => h y (List.mem_cons_of_mem _ hy)
    have h2 := h x (List.mem_cons_self ..)
    unfold psz at h1 ⊢
    rw [tot_cons, List.length_cons, Nat.succ_mul]
    omega
theorem PsOk.len {n : Nat} {X : Nat → List Nat} {B : Nat → Bool} {ps : List (Int × ByteArray)} (h : PsOk n X B ps) (hn : n ≤ 8) (hr : ps.Pairwise fun p q => (ilit p.1).before (ilit q.1) = true) : ps.length ≤ 32 := by
  have h1 := rise_len _ 1 (rise_ints hr) (fun x hx => by
    obtain ⟨y, hy, rfl⟩ := List.mem_map.1 hx
    obtain ⟨j, hj, e, _⟩ := h.only y hy
    rw [e]
    omega)
  rw [List.length_map, show max 0 ((33 : Int) - 1) = 32 from by decide] at h1
  exact Int.ofNat_le.1 h1
theorem PsOk.psz {n : Nat} {X : Nat → List Nat} {B : Nat → Bool} {ps : List (Int × ByteArray)} (h : PsOk n X B ps) (hn : n ≤ 8) (hr : ps.Pairwise fun p q => (ilit p.1).before (ilit q.1) = true) : Go.Proofs.Ytjafagfhkpaciaa.psz ps ≤ 16000 := by
  have h1 := psz_le 500 (ps := ps) fun x hx => (h.only x hx).elim fun j g => g.2.2
  have h2 := h.len hn hr
  omega
theorem PsOk.inv {n : Nat} {X : Nat → List Nat} {B : Nat → Bool} {ps : List (Int × ByteArray)} (h : PsOk n X B ps) (hn : n ≤ 8) (hr : ps.Pairwise fun p q => (ilit p.1).before (ilit q.1) = true) (pb : Nat) : Inv (stU pb ps) := by
  have h1 := h.psz hn hr
  refine ⟨Int.le_refl 0, by show (0 : Int) ≤ 1; decide, Int.le_refl 0, by show ((Go.Proofs.Ytjafagfhkpaciaa.psz ps : Nat) : Int) ≤ 4194304; omega, ?_, Nat.zero_le _, by show 1 ≤ 512; decide, (fun p hp => by cases hp), fun p hp => ?_, fun p hp x hx => ?_⟩
  · show ((Go.Proofs.Ytjafagfhkpaciaa.psz ps : Nat) : Int) = ((totK oSz ([] : List (ByteArray × ObjS)) : Nat) : Int) + ((totK uSz [((1 : Int), (⟨kS, 0, pb, ps⟩ : UplS))] : Nat) : Int)
    rw [tot_cons]
    show ((Go.Proofs.Ytjafagfhkpaciaa.psz ps : Nat) : Int) = ((0 : Nat) : Int) + ((Go.Proofs.Ytjafagfhkpaciaa.psz ps + 0 : Nat) : Int)
    omega
  · rw [List.mem_singleton.1 hp]
    exact ⟨by show (1 : Int) ≤ 1; decide, by show (1 : Int) ≤ 1; decide, by kernel_rfl, by show (0 : Int) ≤ 0; decide, by show (0 : Int) ≤ 0; decide, h.len hn hr⟩
  · rw [List.mem_singleton.1 hp] at hx
    obtain ⟨j, hj, e, hs⟩ := h.only x hx
    rw [e]
    exact ⟨by omega, by omega, by omega⟩
def bools (n : Nat) (B : Nat → Bool) : Array Value := ((List.range n).map fun i => Value.bool (B i)).toArray
theorem bools_at {n : Nat} {B : Nat → Bool} {j : Nat} (hj : j < n) : (bools n B)[j]? = some (.bool (B j)) := by
  unfold bools
  simp [hj]
theorem bools_set {n : Nat} {B : Nat → Bool} {j : Nat} (hj : j < n) : (bools n B).setIfInBounds j (.bool true) = bools n (updB B j) := by
  unfold bools updB
  rw [List.setIfInBounds_toArray]
  congr 1
  refine List.ext_getElem (by simp) fun i h1 h2 => ?_
  simp at h1 h2
  rw [List.getElem_set]
  by_cases e : j = i
  · simp [e]
  · simp [e, Ne.symm e]
/-- what the walk knows of the law's boxes and the store -/
structure LwAt (w W : World) (a0 : Option Addr) (n c0 : Nat) (P S I s Mo Mu : Nat) (σ : Sto) : Prop where
  bel : Below w.heap.size w W
  st : StAt W s Mo Mu σ
  hi : ∀ b, StF s Mo Mu σ b → w.heap.size ≤ b
  pb : W.heap[P]? = some (.cells #[.slice a0 n c0] 42 (0, 0))
  sb : W.heap[S]? = some (.cells #[.pointer (some ⟨s, 0, none⟩)] 23 (0, 0))
  ib : W.heap[I]? = some (.cells #[.int .i64 1] 3 (0, 0))
theorem LwAt.kept {w W W' : World} {a0 : Option Addr} {n c0 P S I s Mo Mu : Nat} {σ : Sto} (h : LwAt w W a0 n c0 P S I s Mo Mu σ) (hb : Below W.heap.size W W') : LwAt w W' a0 n c0 P S I s Mo Mu σ :=
  ⟨h.bel.trans (hb.mono h.bel.size), h.st.below hb, h.hi, (hb.block _ (Array.getElem?_eq_some_iff.1 h.pb).1).trans h.pb, (hb.block _ (Array.getElem?_eq_some_iff.1 h.sb).1).trans h.sb, (hb.block _ (Array.getElem?_eq_some_iff.1 h.ib).1).trans h.ib⟩
/-- blocks that are neither the boxes nor the store's may turn -/
theorem LwAt.frm {w W W' : World} {a0 : Option Addr} {n c0 P S I s Mo Mu : Nat} {σ : Sto} (h : LwAt w W a0 n c0 P S I s Mo Mu σ) {F : Nat → Prop} (hF : Frm F W W') (hb : ∀ i, F i → w.heap.size ≤ i) (hs : ∀ i, F i → ¬ StF s Mo Mu σ i) (hp : ¬ F P) (hS : ¬ F S) (hI : ¬ F I) : LwAt w W' a0 n c0 P S I s Mo Mu σ :=
  ⟨h.bel.trans (hF.toBelow h.bel.size hb), h.st.same fun b hb' => hF.block b (h.st.lt hb') (fun e => hs b e hb'), h.hi, hF.at h.pb hp, hF.at h.sb hS, hF.at h.ib hI⟩
/-- the store turned -/
theorem LwAt.step {w W W' : World} {a0 : Option Addr} {n c0 P S I s Mo Mu : Nat} {σ σ' : Sto} (h : LwAt w W a0 n c0 P S I s Mo Mu σ) (hF : Frm (StF s Mo Mu σ) W W') (hst : StAt W' s Mo Mu σ') (hs : ∀ b, StF s Mo Mu σ' b → StF s Mo Mu σ b ∨ W.heap.size ≤ b) : LwAt w W' a0 n c0 P S I s Mo Mu σ' :=
  ⟨h.bel.trans (hF.toBelow h.bel.size h.hi), hst, fun b hb => (hs b hb).elim (h.hi b) (fun g => Nat.le_trans h.bel.size g), hF.at h.pb (h.st.not h.pb (by decide)), hF.at h.sb (h.st.not h.sb (by decide)), hF.at h.ib (h.st.not h.ib (by decide))⟩
theorem StAt.rise {W : World} {s Mo Mu pb : Nat} {ps : List (Int × ByteArray)} (h : StAt W s Mo Mu (stU pb ps)) : ps.Pairwise fun p q => (ilit p.1).before (ilit q.1) = true :=
  (Apt.of (.inl h)).prt (1, ⟨kS, 0, pb, ps⟩) (List.mem_singleton.2 rfl)
theorem stU_blk {s Mo Mu pb b : Nat} {ps ps' : List (Int × ByteArray)} (h : StF s Mo Mu (stU pb ps') b) : StF s Mo Mu (stU pb ps) b := by
  rcases h with h | h | h | ⟨p, hp, h⟩
  · exact .inl h
  · exact .inr (.inl h)
  · exact .inr (.inr (.inl h))
  · rw [List.mem_singleton.1 hp] at h
    exact .inr (.inr (.inr ⟨_, List.mem_singleton.2 rfl, h⟩))
set_option maxRecDepth 100000 in
set_option maxHeartbeats 4000000 in
theorem fldR (a b c d e f g : Value) (w : World) : (Instr.field 35 (.agg #[a, b, c, d, e, f, g]) 0).run Try.prog w = .ok a w := by kernel_rfl
set_option maxRecDepth 100000 in
set_option maxHeartbeats 4000000 in
theorem uput_any {w W : World} {a0 : Option Addr} {n c0 P S I J R s Mo Mu pb : Nat} {ps : List (Int × ByteArray)} {B : Nat → Bool} {A : Nat → Option Addr} {L C : Nat → Nat} {X : Nat → List Nat} (h : LwAt w W a0 n c0 P S I s Mo Mu (stU pb ps))
    (hJ : W.heap[J]? = some (.cells #[.slice (some ⟨R, 0, none⟩) n n] 50 (0, 0))) (hR : W.heap[R]? = some (.cells (bools n B) 4 (0, 0))) (hRw : w.heap.size ≤ R)
    (hrow : RowsAt w a0 n c0 A L C X) (hn : n ≤ 8) (hL : ∀ i, i < n → L i ≤ 500) (hp : PsOk n X B ps) {j : Nat} (hj : j < n) :
    Calls Try.prog 18 #[.int .i64 j, .pointer (some ⟨J, 0, none⟩), .pointer (some ⟨S, 0, none⟩), .pointer (some ⟨I, 0, none⟩), .pointer (some ⟨P, 0, none⟩)] W fun e W' => e = .returned (.bool true) ∧
      ∃ ps', LwAt w W' a0 n c0 P S I s Mo Mu (stU pb ps') ∧ W'.heap[J]? = some (.cells #[.slice (some ⟨R, 0, none⟩) n n] 50 (0, 0)) ∧ W'.heap[R]? = some (.cells (bools n (updB B j)) 4 (0, 0)) ∧ PsOk n X (updB B j) ps' ∧ Frm (fun b => b = R ∨ StF s Mo Mu (stU pb ps) b) W W' := by
  have HP := Lib.hid hp
  obtain ⟨W1, hW1⟩ : ∃ W1, W1 = W.setCell ⟨R, j, none⟩ (.bool true) := ⟨_, rfl⟩
  have hf1 : Frm (fun b => b = R) W W1 := by rw [hW1]; exact (Frm.refl (fun b => b = R) W).set (p := R) (.inl rfl) j _
  have hr1 : W1.heap[R]? = some (.cells (bools n (updB B j)) 4 (0, 0)) := by
    rw [hW1, heap_setCell_same W R j _ _ (.bool true) hR, bools_set hj]
  have hnR := h.st.not hR (by decide)
  have hPR : P ≠ R := fun e => by have := h.pb; rw [e, hR] at this; simp at this
  have hSR : S ≠ R := fun e => by have := h.sb; rw [e, hR] at this; simp at this
  have hIR : I ≠ R := fun e => by have := h.ib; rw [e, hR] at this; simp at this
  have hJR : J ≠ R := fun e => by have := hJ; rw [e, hR] at this; simp at this
  have h1 : LwAt w W1 a0 n c0 P S I s Mo Mu (stU pb ps) := h.frm hf1 (fun i e => by rw [e]; exact hRw) (fun i e => by rw [e]; exact hnR) hPR hSR hIR
  have hJ1 := hf1.at hJ hJR
  have h2 : LwAt w W1.drew a0 n c0 P S I s Mo Mu (stU pb ps) := h1.kept (Below.refl _ _).drew
  obtain ⟨b0, o0, ha0, hlt0, hc0⟩ := hrow.cells (by omega)
  obtain ⟨q1, q2, q3, q4⟩ := hc0 j hj
  have hlj := hL j hj
  have hby := (q4 (by omega)).kept h2.bel
  have hcr : W1.drew.cell? ⟨b0, o0 + j, none⟩ = some (.slice (A j) (L j) (C j)) := (h2.bel.cell (p := ⟨b0, o0 + j, none⟩) hlt0).trans q1
  have hrise := h2.st.rise
  have hinv := hp.inv hn hrise pb
  have hxl := hby.len
  have HD := Lib.hid (doPart (ky := ByteArray.empty) (vr := 0) (at_ := 0) (nn := (j : Int) + 1) (id := 1) (.inl h2.st) hby (by kernel_rfl) (hinv.ok (by show (0 : Int) ≤ 1000000000; decide) (by show (1 : Int) ≤ 1000000000; decide)))
  have hps := hp.psz hn hrise
  have hpe : partE (stU pb ps) 1 ((j : Int) + 1) (L j) = 0 := by
    unfold partE
    rw [show upOf (stU pb ps) 1 = some ⟨kS, 0, pb, ps⟩ from rfl]
    simp only
    have hz : (stU pb ps).size = ((psz ps : Nat) : Int) := rfl
    rw [if_neg (by omega), if_neg (by omega), if_neg (by omega)]
  have d1 := cell_blk2 h2.sb (i := 0) (u := .pointer (some ⟨s, 0, none⟩)) rfl
  have d2 := cell_blk2 h2.ib (i := 0) (u := .int .i64 1) rfl
  have d3 := cell_blk2 h2.pb (i := 0) (u := .slice a0 n c0) rfl
  have c1 := cell_blk2 hJ (i := 0) (u := .slice (some ⟨R, 0, none⟩) n n) rfl
  have c2 := cell_blk2 hR (i := j) (u := .bool (B j)) (bools_at hj)
  have c3 := fro_blk2 hR j
  have wj : IntKind.i64.wrap ((j : Int) + 1) = (j : Int) + 1 := IntWalk.i64_in _ (by omega)
  have hfl := fldR (.int .i64 0) (.slice none 0 0) (.int .i64 0) (.int .i64 0) (.int .i64 0) (.slice none 0 0) (.bool false)
  have zj : (j : Int) < (n : Int) := by omega
  have zj0 : (0 : Int) ≤ (j : Int) := by omega
  have HFIN := Lib.hid (show ∀ (w5 : World) (u : UplS), upOf (stU pb ps) 1 = some u → Frm (StF s Mo Mu (stU pb ps)) W1.drew w5 → StAt w5 s Mo Mu (partS (stU pb ps) 1 u ((j : Int) + 1) (bs (X j))) →
      ∃ ps', LwAt w w5 a0 n c0 P S I s Mo Mu (stU pb ps') ∧ w5.heap[J]? = some (.cells #[.slice (some ⟨R, 0, none⟩) n n] 50 (0, 0)) ∧ w5.heap[R]? = some (.cells (bools n (updB B j)) 4 (0, 0)) ∧ PsOk n X (updB B j) ps' ∧ Frm (fun b => b = R ∨ StF s Mo Mu (stU pb ps) b) W w5 from fun w5 u hu hfr hst => by
    cases (show some (⟨kS, 0, pb, ps⟩ : UplS) = some u from hu)
    rw [part_stU hrise] at hst
    have hd1 : Below W1.heap.size W1 W1.drew := (Below.refl _ _).drew
    have hr2 : W1.drew.heap[R]? = some (.cells (bools n (updB B j)) 4 (0, 0)) := hr1
    have hJ2 : W1.drew.heap[J]? = some (.cells #[.slice (some ⟨R, 0, none⟩) n n] 50 (0, 0)) := hJ1
    exact ⟨_, h2.step hfr hst (fun b hb => .inl (stU_blk hb)), hfr.at hJ2 (h2.st.not hJ2 (by decide)), hfr.at hr2 (h2.st.not hr2 (by decide)), hp.put hj (by omega),
      ((hf1.imp (fun i e => .inl e)).drew).trans hfr (fun i hi => .inl (.inr hi))⟩)
  have HPE := Lib.hid hpe
  have HW1 := Lib.hid hW1
  have HR1 := Lib.hid hr1
  have HJ1 := Lib.hid hJ1
  have HXL := Lib.hid hxl
  have HLJ := Lib.hid hlj
  have HF1 := Lib.hid hf1
  clear h h1 h2 hJ hR hrow hL hp hW1 hf1 hr1 hnR hPR hSR hIR hJR hJ1 hc0 q1 q2 q3 q4 hby hrise hinv hps hpe hxl hlj hlt0
  subst ha0
  go_enter Try.func18, Try.ntmps18
  go_wp2_with fail
  rw [← HW1.out]
  go_region_with (go_at_call 12; refine HD.out.mono ?_; rintro e w5 ⟨hfr, _, hq⟩; obtain ⟨u, hu, rfl, hst⟩ := hq HPE.out; rw [show rep0 0 = .agg #[.int .i64 0, .slice none 0 0, .int .i64 0, .int .i64 0, .int .i64 0, .slice none 0 0, .bool false] from rfl]; have HST := Lib.hid hst; have HFR := Lib.hid hfr; have HU := Lib.hid hu; clear hst hfr hq hu)
  all_goals
    go_wp2_with fail
    first | go_ret2 | go_ret
    exact ⟨rfl, HFIN.out _ _ HU.out HFR.out HST.out⟩
end Go.Proofs.Ytjafagfhkpaciaa
