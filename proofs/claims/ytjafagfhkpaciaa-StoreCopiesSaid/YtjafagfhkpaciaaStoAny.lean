/- The store's Do of any call: what is left of it. -/
import Derived.Test.YtjafagfhkpaciaaStoInv
import Derived.Test.YtjafagfhkpaciaaStoRem
import Derived.Test.YtjafagfhkpaciaaStoPie
import Derived.Test.YtjafagfhkpaciaaStoLst
import Derived.Test.YtjafagfhkpaciaaStoDoN
namespace Go.Proofs.Ytjafagfhkpaciaa
open Go.RowKit
set_option linter.unusedVariables false

theorem get_filter {l : List (Int × ByteArray)} {k j : Int} (h : j < k) : getK ilit k (l.filter fun p => decide (j < p.1)) = getK ilit k l := by
  unfold getK
  induction l with
  | nil => rfl
  | cons y r ih =>
    rw [List.filter_cons]
    cases hy : (ilit y.1).sameKey (ilit k) with
    | true =>
      have e := (litI.iff _ _).1 hy
      rw [if_pos (by rw [e]; exact decide_eq_true h), List.find?_cons, List.find?_cons, hy]
    | false =>
      rw [List.find?_cons (a := y), hy]
      split
      · rw [List.find?_cons, hy]; exact ih
      · exact ih
theorem drop_filter {l : List (Int × ByteArray)} (k : Nat) : dropK ilit ((k : Int) + 1) (l.filter fun p => decide ((k : Int) < p.1)) = l.filter fun p => decide (((k + 1 : Nat) : Int) < p.1) := by
  unfold dropK
  rw [List.filter_filter]
  apply List.filter_congr
  intro p _
  rw [Bool.eq_iff_iff]
  have h1 := litI.iff p.1 ((k : Int) + 1)
  cases hy : (ilit p.1).sameKey (ilit ((k : Int) + 1)) with
  | true =>
    have := h1.1 hy
    simp
    omega
  | false =>
    have : p.1 ≠ (k : Int) + 1 := fun e => by rw [h1.2 e] at hy; cases hy
    simp
    omega
theorem catP_tot {l : List (Int × ByteArray)} (hp : l.Pairwise fun p q => ilit p.1 ≠ ilit q.1) : ∀ {k : Nat} {d : List UInt8}, catP l k = some d → d.length + psz (l.filter fun p => decide ((k : Int) < p.1)) ≤ psz l
  | 0, d, h => by
    cases h
    have : psz (l.filter fun p => decide (((0 : Nat) : Int) < p.1)) ≤ psz l := by
      unfold psz
      induction l with
      | nil => exact Nat.le_refl _
      | cons y r ih =>
        have h2 := ih (List.pairwise_cons.1 hp).2
        rw [List.filter_cons]
        split
        · rw [tot_cons, tot_cons]; omega
        · rw [tot_cons]; omega
    simpa using this
  | k + 1, d, h => by
    unfold catP at h
    cases hk : catP l k with
    | none => rw [hk] at h; cases h
    | some d0 =>
      rw [hk] at h
      simp only at h
      cases hg : getK ilit ((k + 1 : Nat) : Int) l with
      | none => rw [hg] at h; cases h
      | some p =>
        rw [hg] at h
        cases h
        have ih := catP_tot hp hk
        have h2 := (drop_tot litI (fun d : ByteArray => d.size) (k := (k : Int) + 1) (hp.filter (fun p => decide ((k : Int) < p.1)))).1
        rw [drop_filter, get_filter (by omega), show ((k : Int) + 1) = ((k + 1 : Nat) : Int) from by push_cast; rfl, hg] at h2
        have h3 : p.data.toList.length = p.size := by simp
        rw [List.length_append, h3]
        simp only [gotN] at h2
        unfold psz at ih ⊢
        omega
theorem put_ok {σ : Sto} {ki vr : Int} {ky : ByteArray} {n : Nat} (h : putE σ ki ky vr n = 0) : isKeyB ky = true ∧ n ≤ 262144 ∧ ((objOf σ ky).isNone = true → σ.objs.length < 512) ∧ σ.size + ((n : Int) - (oldLen σ ky : Int)) ≤ 4194304 := by
  unfold putE at h
  split at h
  · cases h
  · rename_i h1
    split at h
    · cases h
    · split at h
      · cases h
      · rename_i h3
        split at h
        · cases h
        · rename_i h4
          refine ⟨by simpa using h1, by omega, fun g => ?_, by omega⟩
          rcases Nat.lt_or_ge σ.objs.length 512 with h5 | h5
          · exact h5
          · exact absurd (.inl ⟨g, h5⟩) h4
theorem prt_ok {σ : Sto} {i nn : Int} {n : Nat} {u : UplS} (hu : upOf σ i = some u) (h : partE σ i nn n = 0) : (1 ≤ nn ∧ nn ≤ 32) ∧ n ≤ 262144 ∧ σ.size + ((n : Int) - (oldP u nn : Int)) ≤ 4194304 := by
  unfold partE at h
  rw [hu] at h
  simp only at h
  split at h
  · cases h
  · split at h
    · cases h
    · split at h
      · cases h
      · exact ⟨by omega, by omega, by omega⟩
theorem com_ok {σ : Sto} {i nn : Int} {u : UplS} {d : List UInt8} (hu : upOf σ i = some u) (hd : catP u.parts nn.toNat = some d) (h : comE σ i nn = 0) : d.length ≤ 262144 ∧ ((objOf σ u.key).isNone = true → σ.objs.length < 512) := by
  unfold comE at h
  rw [hu] at h
  simp only at h
  split at h
  · cases h
  · rw [hd] at h
    simp only at h
    split at h
    · cases h
    · split at h
      · cases h
      · rename_i h4
        refine ⟨by omega, fun g => ?_⟩
        rcases Nat.lt_or_ge σ.objs.length 512 with h5 | h5
        · exact h5
        · exact absurd ⟨g, h5⟩ h4
theorem Apt.drop {σ : Sto} (h : Apt σ) (i : Int) (m : Nat) : Apt (dropS σ i m) :=
  ⟨h.obj, h.upl.filter _, fun p hp => h.prt p (mem_drop hp)⟩
theorem Inv.com {σ : Sto} (h : Inv σ) (ha : Apt σ) {i nn : Int} {u : UplS} {d : List UInt8} (hu : upOf σ i = some u) (hd : catP u.parts nn.toNat = some d) (he : comE σ i nn = 0) : Inv (comS σ i u d) := by
  obtain ⟨h1, h2⟩ := com_ok hu hd he
  have hm : (i, u) ∈ σ.ups := get_mem ilit_inj hu
  have h3 : d.length ≤ psz u.parts := Nat.le_trans (Nat.le_add_right _ _) (catP_tot (rise_apart before_int (ha.prt _ hm)) hd)
  have h4 : (⟨d.toArray⟩ : ByteArray).size = d.length := by show d.toArray.size = _; simp
  refine (h.drop ha hu).make (ha.drop i _) (h.upl _ hm).2.2.1 (by rw [h4]; exact h1) h2 ?_
  have h5 := h.siz
  rw [h4]
  have h6 : (dropS σ i (psz u.parts)).size = σ.size - (psz u.parts : Int) := rfl
  rw [h6]
  omega
theorem Inv.rem {σ : Sto} (h : Inv σ) (ha : Apt σ) {k : ByteArray} {o : ObjS} (hk : objOf σ k = some o) : Inv (remS σ k) := by
  have h1 := drop_tot litS oSz (k := k) ha.obj
  rw [got_old] at h1
  have hg : getK slit k σ.objs = some o := hk
  rw [hg] at h1
  have h2 := h.tot
  have h3 := h.siz
  have h4 := h.nob
  simp only [Option.isSome_some, if_pos] at h1
  refine ⟨h.ver, h.id, h.now, ?_, ?_, ?_, h.nup, fun p hp => h.obj p (mem_drop hp), h.upl, h.prt⟩
  · unfold remS; simp only; omega
  · unfold remS; simp only; omega
  · unfold remS; simp only; omega
/-- what a call may do to a store -/
structure DoRes (σ σ' : Sto) (ki x v : Int) : Prop where
  inv : Inv σ'
  now : σ'.now = σ.now
  ver : σ.ver ≤ σ'.ver ∧ σ'.ver ≤ σ.ver + 1
  idd : σ'.id ≤ σ.id + 1
  err : x ≠ 0 → σ' = σ
  look : (ki = 3 ∨ ki = 4 ∨ ki = 5 ∨ ki = 11) → σ' = σ
  made : x = 0 → (ki = 1 ∨ ki = 2 ∨ ki = 9) → v = σ.ver + 1 ∧ σ'.ver = σ.ver + 1
  objs : σ'.objs = σ.objs ∨ (∃ k, σ'.objs = dropK slit k σ.objs) ∨ (∃ k d, σ'.objs = putK slit k ⟨d, σ.ver + 1, σ.now⟩ σ.objs ∧ σ'.ver = σ.ver + 1)
theorem DoRes.same {σ : Sto} (h : Inv σ) {ki x v : Int} (hm : x = 0 → ¬ (ki = 1 ∨ ki = 2 ∨ ki = 9)) : DoRes σ σ ki x v :=
  ⟨h, rfl, ⟨Int.le_refl _, by omega⟩, by omega, fun _ => rfl, fun _ => rfl, fun e g => absurd g (hm e), .inl rfl⟩
def AnyD (w : World) (s Mo Mu : Nat) (σ : Sto) (ki : Int) (e : Ending) (w' : World) : Prop :=
  ∃ (x : Int) (a : Option Addr) (n c : Nat) (v b i : Int) (la : Option Addr) (ln lc : Nat) (m : Bool) (σ' : Sto), e = .returned (rep x (.slice a n c) v b i (.slice la ln lc) m) ∧ DoRes σ σ' ki x v ∧ StAt w' s Mo Mu σ' ∧ Frm (StF s Mo Mu σ) w w' ∧ (∀ b, StF s Mo Mu σ' b → StF s Mo Mu σ b ∨ w.heap.size ≤ b)
section
variable {w : World} {s Mo Mu : Nat} {σ : Sto} {ki vr at_ nn id : Int} {ky : ByteArray} {a : Option Addr} {n c : Nat} {xs : List Nat}
theorem any_same {e : Ending} {w5 : World} (hi : Inv σ) {x v b i : Int} {a la : Option Addr} {n c ln lc : Nat} {m : Bool} (he : e = .returned (rep x (.slice a n c) v b i (.slice la ln lc) m)) (hst : StAt w5 s Mo Mu σ) (hf : Frm (StF s Mo Mu σ) w w5) (hm : x = 0 → ¬ (ki = 1 ∨ ki = 2 ∨ ki = 9)) : AnyD w s Mo Mu σ ki e w5 :=
  ⟨x, a, n, c, v, b, i, la, ln, lc, m, σ, he, DoRes.same hi hm, hst, hf, fun b hb => .inl hb⟩
theorem any_same0 {e : Ending} {w5 : World} (hi : Inv σ) {x : Int} (hx : x ≠ 0) (he : e = .returned (rep0 x)) (hst : StAt w5 s Mo Mu σ) (hf : Frm (StF s Mo Mu σ) w w5) : AnyD w s Mo Mu σ ki e w5 :=
  any_same (b := 0) (i := 0) (v := 0) (m := false) hi he hst hf (fun e => absurd e hx)
theorem make_blk {k d : ByteArray} {b : Nat} (h : StF s Mo Mu (makeS σ k d) b) : StF s Mo Mu σ b := h
theorem put_any' {e : Ending} {w5 : World} (h : SAt w s Mo Mu σ) (hi : Inv σ) (hki : ki = 1 ∨ ki = 2) (hn : (bs xs).size = n) (hd : PutD w s Mo Mu σ (putE σ ki ky vr n) ky (bs xs) e w5) : AnyD w s Mo Mu σ ki e w5 := by
  obtain ⟨hf, h1, h2⟩ := hd
  rcases Classical.em (putE σ ki ky vr n = 0) with g | g
  · obtain ⟨rfl, hst⟩ := h2 g
    obtain ⟨q1, q2, q3, q4⟩ := put_ok g
    refine ⟨0, none, 0, 0, _, _, 0, none, 0, 0, false, _, rfl, ⟨hi.make (Apt.of h) q1 (by rw [hn]; exact q2) q3 (by rw [hn]; exact q4), rfl, ⟨by show σ.ver ≤ σ.ver + 1; omega, Int.le_refl _⟩, by show σ.id ≤ σ.id + 1; omega, fun e => absurd rfl e, fun e => by omega, fun _ _ => ⟨rfl, rfl⟩, .inr (.inr ⟨ky, bs xs, rfl, rfl⟩)⟩, hst, hf, fun b hb => .inl hb⟩
  · obtain ⟨he, hst⟩ := h1 g
    exact any_same0 hi g he hst hf
theorem any_1 (h : SAt w s Mo Mu σ) (hi : Inv σ) (hok : OkS σ) (hx : BytesAt w a n c xs) (hk : ky.size ≤ 1000000000000000) (hki : ki = 1 ∨ ki = 2) :
    Calls Try.prog 12 #[.pointer (some ⟨s, 0, none⟩), .agg #[.int .i64 ki, .string ky, .slice a n c, .int .i64 vr, .int .i64 at_, .int .i64 nn, .int .i64 id]] w (AnyD w s Mo Mu σ ki) := by
  have hn : (bs xs).size = n := by rw [bs_sizeS]; exact hx.len
  rcases hki with rfl | rfl
  · exact (doPut h hx hk hok).mono fun e w5 hd => put_any' h hi (.inl rfl) hn hd
  · exact (doPutIf h hx hk hok).mono fun e w5 hd => put_any' h hi (.inr rfl) hn hd
theorem any_3 (h : SAt w s Mo Mu σ) (hi : Inv σ) (hok : OkS σ) (hk : ky.size ≤ 1000000000000000) :
    Calls Try.prog 12 #[.pointer (some ⟨s, 0, none⟩), .agg #[.int .i64 3, .string ky, .slice a n c, .int .i64 vr, .int .i64 at_, .int .i64 nn, .int .i64 id]] w (AnyD w s Mo Mu σ 3) := by
  refine (doGet h hk hok).mono fun e w5 ⟨hf, hst, hq⟩ => ?_
  cases hg : objOf σ ky with
  | none => rw [hg] at hq; exact any_same0 hi (by decide) hq hst hf
  | some o => rw [hg] at hq; obtain ⟨g, c, he, _⟩ := hq; exact any_same hi he hst hf (fun _ e => by omega)
theorem any_4 (h : SAt w s Mo Mu σ) (hi : Inv σ) (hok : OkS σ) (hk : ky.size ≤ 1000000000000000) :
    Calls Try.prog 12 #[.pointer (some ⟨s, 0, none⟩), .agg #[.int .i64 4, .string ky, .slice a n c, .int .i64 vr, .int .i64 at_, .int .i64 nn, .int .i64 id]] w (AnyD w s Mo Mu σ 4) := by
  refine (do_4 h (Q := fun W0 e w1 => PieSays W0 s Mo Mu σ ky at_ nn e w1) (fun W0 h0 hF hz => (piece_any h0 hk (hok.old ky)).mono fun e w1 hq => ⟨?_, hq, Frm.ofBelow hq.2.1⟩)).mono fun e w5 ho => ?_
  · rcases Classical.em (pieE σ ky at_ nn = 0) with g | g
    · obtain ⟨o, g, m, c, _, he, _⟩ := hq.2.2.2 g; rw [he]; exact rep_shape _ _ _ _ _ _ _ _ _ _ _
    · rw [hq.2.2.1 g]; exact rep0_shape _
  · obtain ⟨W0, w1, g1, g2, g3, hq, g5, g6⟩ := ho
    have hst := out_st h g3 hq.1 (fun b hb => .inl hb) g6
    have hf := out_frm g2 g5 g6
    rcases Classical.em (pieE σ ky at_ nn = 0) with g | g
    · obtain ⟨o, g, m, c, _, he, _⟩ := hq.2.2.2 g; exact any_same hi he hst hf (fun _ e => by omega)
    · exact any_same0 hi g (hq.2.2.1 g) hst hf
theorem lst_any {W0 w1 w5 : World} {e : Ending} {L : List ItemV} (h : SAt w s Mo Mu σ) (hi : Inv σ) (hki : ki = 5 ∨ ki = 11) (g2 : Frm (fun b => b = s) w W0) (g3 : w.heap.size + 2 ≤ W0.heap.size) (hq : LstSays W0 s Mo Mu σ L e w1) (g5 : Frm (StF s Mo Mu σ) W0 w1) (g6 : Frm (fun b => b = w.heap.size + 1) w1 w5) : AnyD w s Mo Mu σ ki e w5 := by
  obtain ⟨q1, q2, la, ln, lc, he, _⟩ := hq
  exact any_same hi he (out_st h g3 q1 (fun b hb => .inl hb) g6) (out_frm g2 g5 g6) (fun _ e => by omega)
theorem lst_shape {W0 w1 : World} {e : Ending} {L : List ItemV} (hq : LstSays W0 s Mo Mu σ L e w1) : RepShape e := by
  obtain ⟨_, _, la, ln, lc, he, _⟩ := hq
  rw [he]; exact rep_shape _ _ _ _ _ _ _ _ _ _ _
theorem key_small (hi : Inv σ) : ∀ p ∈ σ.objs, p.1.size ≤ 1000000000000000 := fun p hp => by
  have h1 := (hi.obj p hp).1
  unfold isKeyB at h1
  simp only [Bool.and_eq_true, decide_eq_true_eq] at h1
  omega
def LstD (w : World) (s Mo Mu : Nat) (σ : Sto) (L : List ItemV) (e : Ending) (w5 : World) : Prop := ∃ W0 w1, Frm (fun b => b = s) w W0 ∧ w.heap.size + 2 ≤ W0.heap.size ∧ LstSays W0 s Mo Mu σ L e w1 ∧ Frm (StF s Mo Mu σ) W0 w1 ∧ Frm (fun b => b = w.heap.size + 1) w1 w5
theorem doList (h : SAt w s Mo Mu σ) (hi : Inv σ) (hx : BytesAt w a n c xs) :
    Calls Try.prog 12 #[.pointer (some ⟨s, 0, none⟩), .agg #[.int .i64 5, .string ky, .slice a n c, .int .i64 vr, .int .i64 at_, .int .i64 nn, .int .i64 id]] w (LstD w s Mo Mu σ (pageL (wantK ky (bs xs)) (fun p => itemO p.1 p.2) σ.objs)) :=
  (do_5 h (Q := fun W0 e w1 => LstSays W0 s Mo Mu σ (pageL (wantK ky (bs xs)) (fun p => itemO p.1 p.2) σ.objs) e w1) (fun W0 h0 hF hz => (list_any h0 (h.bytes hF hx) (by have := hi.nob; omega) (key_small hi)).mono fun e w1 hq => ⟨lst_shape hq, hq, Frm.ofBelow hq.2.1⟩)).mono fun e w5 ⟨W0, w1, g1, g2, g3, hq, g5, g6⟩ => ⟨W0, w1, g2, g3, hq, g5, g6⟩
theorem doOpened (h : SAt w s Mo Mu σ) (hi : Inv σ) (hidb : σ.id ≤ 1000000000) :
    Calls Try.prog 12 #[.pointer (some ⟨s, 0, none⟩), .agg #[.int .i64 11, .string ky, .slice a n c, .int .i64 vr, .int .i64 at_, .int .i64 nn, .int .i64 id]] w (LstD w s Mo Mu σ (pageL (fun k => decide (id < k)) (fun p => (⟨p.2.key, p.1, ((psz p.2.parts : Nat) : Int), p.2.born⟩ : ItemV)) σ.ups)) :=
  (do_11 h (Q := fun W0 e w1 => LstSays W0 s Mo Mu σ (pageL (fun k => decide (id < k)) (fun p => (⟨p.2.key, p.1, ((psz p.2.parts : Nat) : Int), p.2.born⟩ : ItemV)) σ.ups) e w1) (fun W0 h0 hF hz => (opened_any h0 (by have := hi.nup; omega) (fun p hp => wf_small (by have := hi.upl p hp; omega)) (fun p hp x hx => wf_small (by have := hi.prt p hp x hx; omega)) (fun p hp => by
      have h1 : psz p.2.parts ≤ totK uSz σ.ups := tot_mem uSz hp
      have h2 := hi.tot
      have h3 := hi.siz
      omega)).mono fun e w1 hq => ⟨lst_shape hq, hq, Frm.ofBelow hq.2.1⟩)).mono fun e w5 ⟨W0, w1, g1, g2, g3, hq, g5, g6⟩ => ⟨W0, w1, g2, g3, hq, g5, g6⟩
theorem any_6 (h : SAt w s Mo Mu σ) (hi : Inv σ) (hok : OkS σ) (hk : ky.size ≤ 1000000000000000) :
    Calls Try.prog 12 #[.pointer (some ⟨s, 0, none⟩), .agg #[.int .i64 6, .string ky, .slice a n c, .int .i64 vr, .int .i64 at_, .int .i64 nn, .int .i64 id]] w (AnyD w s Mo Mu σ 6) := by
  refine (do_6 h (Q := fun W0 e w1 => RemSays W0 s Mo Mu σ ky e w1) (fun W0 h0 hF hz => (remove_any h0 hk (hok.old ky) hok.siz).mono fun e w1 hq => ⟨?_, hq, ?_⟩)).mono fun e w5 ho => ?_
  · unfold RemSays at hq
    cases hg : objOf σ ky with
    | none => rw [hg] at hq; rw [hq.1]; exact rep0_shape _
    | some o => rw [hg] at hq; rw [hq.1]; exact rep0_shape _
  · unfold RemSays at hq
    cases hg : objOf σ ky with
    | none => rw [hg] at hq; exact Frm.ofBelow hq.2.2
    | some o => rw [hg] at hq; exact hq.2.2
  · obtain ⟨W0, w1, g1, g2, g3, hq, g5, g6⟩ := ho
    unfold RemSays at hq
    have hf := out_frm g2 g5 g6
    cases hg : objOf σ ky with
    | none => rw [hg] at hq; exact any_same0 hi (by decide) hq.1 (out_st h g3 hq.2.1 (fun b hb => .inl hb) g6) hf
    | some o =>
      rw [hg] at hq
      exact ⟨0, none, 0, 0, 0, 0, 0, none, 0, 0, false, _, hq.1, ⟨hi.rem (Apt.of h) hg, rfl, ⟨Int.le_refl _, by show σ.ver ≤ σ.ver + 1; omega⟩, by show σ.id ≤ σ.id + 1; omega, fun e => absurd rfl e, fun e => by omega, fun _ e => by omega, .inr (.inl ⟨ky, rfl⟩)⟩, out_st h g3 hq.2.1 (fun b hb => .inl hb) g6, hf, fun b hb => .inl hb⟩
theorem any_7 (h : SAt w s Mo Mu σ) (hi : Inv σ) (hok : OkS σ) :
    Calls Try.prog 12 #[.pointer (some ⟨s, 0, none⟩), .agg #[.int .i64 7, .string ky, .slice a n c, .int .i64 vr, .int .i64 at_, .int .i64 nn, .int .i64 id]] w (AnyD w s Mo Mu σ 7) := by
  refine (doCreate h hok).mono fun e w5 ⟨hf, h1, h2, h3⟩ => ?_
  cases hk : isKeyB ky with
  | false => obtain ⟨he, hst⟩ := h1 hk; exact any_same0 hi (by decide) he hst hf
  | true =>
    rcases Nat.lt_or_ge σ.ups.length 512 with g | g
    · obtain ⟨pb, he, hpb, hst⟩ := h3 hk g
      exact ⟨0, none, 0, 0, 0, _, _, none, 0, 0, false, _, he, ⟨hi.create (Apt.of h) hk g, rfl, ⟨Int.le_refl _, by show σ.ver ≤ σ.ver + 1; omega⟩, Int.le_refl _, fun e => absurd rfl e, fun e => by omega, fun _ e => by omega, .inl rfl⟩, hst, hf, fun b hb => (cre_blk hb).elim .inl (fun e => .inr (by rw [e]; exact hpb))⟩
    · obtain ⟨he, hst⟩ := h2 hk g; exact any_same0 hi (by decide) he hst hf
theorem any_8 (h : SAt w s Mo Mu σ) (hi : Inv σ) (hok : OkS σ) (hx : BytesAt w a n c xs) (hid : (Lit.int .i64 id).wf = true) :
    Calls Try.prog 12 #[.pointer (some ⟨s, 0, none⟩), .agg #[.int .i64 8, .string ky, .slice a n c, .int .i64 vr, .int .i64 at_, .int .i64 nn, .int .i64 id]] w (AnyD w s Mo Mu σ 8) := by
  refine (doPart h hx hid hok).mono fun e w5 ⟨hf, h1, h2⟩ => ?_
  have hn : (bs xs).size = n := by rw [bs_sizeS]; exact hx.len
  rcases Classical.em (partE σ id nn n = 0) with g | g
  · obtain ⟨u, hu, he, hst⟩ := h2 g
    obtain ⟨q1, q2, q3⟩ := prt_ok hu g
    exact ⟨0, none, 0, 0, 0, 0, 0, none, 0, 0, false, _, he, ⟨hi.part (Apt.of h) hu q1 (by rw [hn]; exact q2) (by rw [hn]; exact q3), rfl, ⟨Int.le_refl _, by show σ.ver ≤ σ.ver + 1; omega⟩, by show σ.id ≤ σ.id + 1; omega, fun e => absurd rfl e, fun e => by omega, fun _ e => by omega, .inl rfl⟩, hst, hf, fun b hb => .inl (part_blk hb)⟩
  · obtain ⟨he, hst⟩ := h1 g; exact any_same0 hi g he hst hf
theorem any_9 (h : SAt w s Mo Mu σ) (hi : Inv σ) (hok : OkS σ) (hid : (Lit.int .i64 id).wf = true) :
    Calls Try.prog 12 #[.pointer (some ⟨s, 0, none⟩), .agg #[.int .i64 9, .string ky, .slice a n c, .int .i64 vr, .int .i64 at_, .int .i64 nn, .int .i64 id]] w (AnyD w s Mo Mu σ 9) := by
  refine (doComplete h hid hok).mono fun e w5 ⟨hf, h1, h2⟩ => ?_
  rcases Classical.em (comE σ id nn = 0) with g | g
  · obtain ⟨u, d, hu, hd, he, hst⟩ := h2 g
    exact ⟨0, none, 0, 0, _, _, 0, none, 0, 0, false, _, he, ⟨hi.com (Apt.of h) hu hd g, rfl, ⟨by show σ.ver ≤ σ.ver + 1; omega, Int.le_refl _⟩, by show σ.id ≤ σ.id + 1; omega, fun e => absurd rfl e, fun e => by omega, fun _ _ => ⟨rfl, rfl⟩, .inr (.inr ⟨u.key, _, rfl, rfl⟩)⟩, hst, hf, fun b hb => .inl (StF.drop (StF.make hb))⟩
  · obtain ⟨he, hst⟩ := h1 g; exact any_same0 hi g he hst hf
theorem any_10 (h : SAt w s Mo Mu σ) (hi : Inv σ) (hok : OkS σ) (hid : (Lit.int .i64 id).wf = true) :
    Calls Try.prog 12 #[.pointer (some ⟨s, 0, none⟩), .agg #[.int .i64 10, .string ky, .slice a n c, .int .i64 vr, .int .i64 at_, .int .i64 nn, .int .i64 id]] w (AnyD w s Mo Mu σ 10) := by
  refine (doAbort h hid hok).mono fun e w5 ⟨hf, hq⟩ => ?_
  cases hg : upOf σ id with
  | none => rw [hg] at hq; exact any_same0 hi (by decide) hq.1 hq.2 hf
  | some u =>
    rw [hg] at hq
    exact ⟨0, none, 0, 0, 0, 0, 0, none, 0, 0, false, _, hq.1, ⟨hi.drop (Apt.of h) hg, rfl, ⟨Int.le_refl _, by show σ.ver ≤ σ.ver + 1; omega⟩, by show σ.id ≤ σ.id + 1; omega, fun e => absurd rfl e, fun e => by omega, fun _ e => by omega, .inl rfl⟩, hq.2, hf, fun b hb => .inl hb.drop⟩
/-- Do, of any call -/
theorem doAny (h : SAt w s Mo Mu σ) (hi : Inv σ) (hv : σ.ver ≤ 1000000000) (hidb : σ.id ≤ 1000000000) (hx : BytesAt w a n c xs) (hk : ky.size ≤ 1000000000000000) (hid : (Lit.int .i64 id).wf = true) :
    Calls Try.prog 12 #[.pointer (some ⟨s, 0, none⟩), .agg #[.int .i64 ki, .string ky, .slice a n c, .int .i64 vr, .int .i64 at_, .int .i64 nn, .int .i64 id]] w (AnyD w s Mo Mu σ ki) := by
  have hok := hi.ok hv hidb
  by_cases hb : 1 ≤ ki ∧ ki ≤ 11
  · have hcs : ki = 1 ∨ ki = 2 ∨ ki = 3 ∨ ki = 4 ∨ ki = 5 ∨ ki = 6 ∨ ki = 7 ∨ ki = 8 ∨ ki = 9 ∨ ki = 10 ∨ ki = 11 := by omega
    clear hb
    rcases hcs with rfl | rfl | rfl | rfl | rfl | rfl | rfl | rfl | rfl | rfl | rfl
    · exact any_1 h hi hok hx hk (.inl rfl)
    · exact any_1 h hi hok hx hk (.inr rfl)
    · exact any_3 h hi hok hk
    · exact any_4 h hi hok hk
    · exact (doList h hi hx).mono fun e w5 ⟨W0, w1, g2, g3, hq, g5, g6⟩ => lst_any h hi (.inl rfl) g2 g3 hq g5 g6
    · exact any_6 h hi hok hk
    · exact any_7 h hi hok
    · exact any_8 h hi hok hx hid
    · exact any_9 h hi hok hid
    · exact any_10 h hi hok hid
    · exact (doOpened h hi hidb).mono fun e w5 ⟨W0, w1, g2, g3, hq, g5, g6⟩ => lst_any h hi (.inr rfl) g2 g3 hq g5 g6
  · exact (do_no h hb).mono fun e w5 ⟨W0, w1, g1, g2, g3, hq, g5, g6⟩ => any_same0 hi (by decide) hq.1 (out_st h g3 hq.2 (fun b hb => .inl hb) g6) (out_frm g2 g5 g6)
end
end Go.Proofs.Ytjafagfhkpaciaa
