/- Put together out of XRSp, XRSpWalk. -/
import Derived.Test.YtjbljplgkbnpmaaSp
import Derived.Test.YtjbljplgkbnpmaaRecGathK
import Derived.Test.YtjbljplgkbnpmaaSpWalk
import Derived.Test.YtjbljplgkbnpmaaRSort
import Derived.Test.YtjbljplgkbnpmaaLabRPart
import Derived.Test.YtjbljplgkbnpmaaLabRText
section SecRSpAll0
/- The document's groups, that a call owns: a slice of groups, each with rows of its own. -/
namespace Go.Proofs.Ytjbljplgkbnpmaa
open Go.ChangeShapes Go.WideShapes Go.Deep Go.RowKit LabPlain RecPlain Gath
set_option linter.unusedVariables false

/-! ### a group put in its place -/
theorem ins_perm {α : Type} (l : List α) (k : Nat) (x : α) : (l.take k ++ x :: l.drop k).Perm (l ++ [x]) := by
  have h1 : (l.take k ++ x :: l.drop k).Perm (x :: (l.take k ++ l.drop k)) := List.perm_middle
  rw [List.take_append_drop] at h1
  exact h1.trans (List.perm_append_comm (l₁ := [x]) (l₂ := l))
theorem ins_rising {gs : List GV} {k : Nat} {g : GV} (h : gs.Pairwise fun a b => ltK a.key b.key = true) (hk : k ≤ gs.length) (hlt : ∀ i (hi : i < gs.length), i < k → ltK gs[i].key g.key = true)
    (hge : ∀ hi : k < gs.length, ltK g.key gs[k].key = true) : (gs.take k ++ g :: gs.drop k).Pairwise fun a b => ltK a.key b.key = true := by
  have h1 : (gs.take k ++ gs.drop k).Pairwise fun a b => ltK a.key b.key = true := by rw [List.take_append_drop]; exact h
  rw [List.pairwise_append] at h1 ⊢
  have hall : ∀ y ∈ gs.drop k, ltK g.key y.key = true := by
    intro y hy
    obtain ⟨i, hi, rfl⟩ := List.getElem_of_mem hy
    rw [List.length_drop] at hi
    rw [List.getElem_drop]
    have hkl : k < gs.length := by omega
    by_cases e : i = 0
    · subst e; exact hge hkl
    · exact ltK_trans (hge hkl) (List.pairwise_iff_getElem.1 h k (k + i) hkl (by omega) (by omega))
  refine ⟨h1.1, List.pairwise_cons.2 ⟨hall, h1.2.1⟩, ?_⟩
  intro a ha b hb
  rcases List.mem_cons.1 hb with e | e
  · obtain ⟨i, hi, rfl⟩ := List.getElem_of_mem ha
    rw [List.length_take] at hi
    rw [List.getElem_take, e]
    exact hlt i (by omega) (by omega)
  · exact h1.2.2 a ha b e

/-! ### where they lie -/
theorem gcells_set {a : Option Addr} {c : Nat} {x : RowV} : ∀ (gs : List GV) (j : Nat) (hj : j < gs.length), gcells (gs.set j (gs[j].more a c x)) = (gcells gs).set (j * 3 + 2) (.slice a (gs[j].n + 1) c)
  | y :: l, 0, _ => by simp [gcells, GV.cells, GV.more]
  | y :: l, j + 1, hj => by
    have h := gcells_set (a := a) (c := c) (x := x) l j (by simpa using hj)
    have e : (j + 1) * 3 + 2 = j * 3 + 2 + 3 := by omega
    unfold gcells at h ⊢
    rw [e]
    simp only [List.set_cons_succ, List.flatMap_cons, List.getElem_cons_succ, GV.cells, List.cons_append, List.nil_append]
    rw [h]
structure RGOwn (w : World) (base : Nat) (a : Option Addr) (n c : Nat) (gs : List GV) : Prop where
  out : w.ownsRow base 73 3 (.slice a n c) n (gcells gs)
  len : gs.length = n
  own : ∀ g ∈ gs, w.ownsRow base 62 9 g.v g.n (rcells g.rows) ∧ g.rows.length = g.n
  apart : gs.Pairwise fun g h => g.v.ownBlock = none ∨ g.v.ownBlock ≠ h.v.ownBlock
theorem RGOwn.below {w w' : World} {base : Nat} {a : Option Addr} {n c : Nat} {gs : List GV} (h : RGOwn w base a n c gs) (hb : Below w.heap.size w w') : RGOwn w' base a n c gs :=
  ⟨own_below h.out hb, h.len, fun g hg => ⟨own_below (h.own g hg).1 hb, (h.own g hg).2⟩, h.apart⟩
theorem RGOwn.form {w : World} {base : Nat} {a : Option Addr} {n c : Nat} {gs : List GV} (h : RGOwn w base a n c gs) (hn : 0 < n) :
    ∃ b, a = some ⟨b, 0, none⟩ ∧ base ≤ b ∧ b < w.heap.size ∧ n ≤ c ∧ (∃ cs, w.heap[b]? = some (.cells cs 73 (0, 0))) ∧ ∀ i, i < n → ∀ j u, (gs.getD i grp0).cells[j]? = some u → w.cell? ⟨b, 0 + i * 3 + j, none⟩ = some u := by
  rcases h.out.2 with ⟨e, h0⟩ | ⟨g, cap, cur, e, hg, hh, hnc, hcap, hsz, htake⟩
  · omega
  · cases e
    refine ⟨g, rfl, hg, (Array.getElem?_eq_some_iff.1 hh).1, hnc, ⟨_, hh⟩, fun i hi j u hu => ?_⟩
    have hj : j < 3 := (List.getElem?_eq_some_iff.1 hu).1
    have h2 : (gcells gs)[i * 3 + j]? = some u := by
      unfold gcells
      rw [flat_at GV.cells 3 (fun _ => rfl) grp0 gs i j (by rw [h.len]; exact hi) hj, hu]
    rw [Nat.zero_add, cell_of_row w _ _ _ _ (0, 0) hh, ← h2, ← htake, List.getElem?_take_of_lt (by omega), Array.getElem?_toList]
theorem RGOwn.nil {w : World} {base : Nat} (hb : base ≤ w.heap.size) : RGOwn (w.alloc (.cells #[] 73)) base (some ⟨w.heap.size, 0, none⟩) 0 0 [] :=
  ⟨World.ownsRow_lit w #[] 0 hb (Nat.zero_le _) rfl, rfl, (fun g hg => by cases hg), List.Pairwise.nil⟩
/-- a group more, without rows -/
theorem RGOwn.mono {w : World} {base base' : Nat} {a : Option Addr} {n c : Nat} {gs : List GV} (h : RGOwn w base a n c gs) (hb : base' ≤ base) : RGOwn w base' a n c gs :=
  ⟨h.out.mono hb, h.len, fun g hg => ⟨(h.own g hg).1.mono hb, (h.own g hg).2⟩, h.apart⟩
theorem RGOwn.ins {w w' : World} {base : Nat} {a a' : Option Addr} {n c c' k : Nat} {gs : List GV} {g : GV} (h : 0 < n → RGOwn w base a n c gs) (hl : gs.length = n) (hb : Below w.heap.size w w') (g0 : g.a = none ∧ g.n = 0 ∧ g.c = 0 ∧ g.rows = [])
    (ho : w'.ownsRow base 73 3 (.slice a' (n + 1) c') (n + 1) (gcells (gs.take k ++ g :: gs.drop k))) : RGOwn w' base a' (n + 1) c' (gs.take k ++ g :: gs.drop k) := by
  have hp := ins_perm gs k g
  have hv : g.v = .slice none 0 0 := by unfold GV.v; rw [g0.1, g0.2.1, g0.2.2.1]
  have hn : ∀ y ∈ gs, 0 < n := fun y hy => by have := List.length_pos_of_mem hy; omega
  refine ⟨ho, by rw [hp.length_eq, List.length_append, hl]; rfl, fun y hy => ?_, ?_⟩
  · rcases List.mem_append.1 (hp.mem_iff.1 hy) with e | e
    · have h := h (hn y e)
      exact ⟨own_below (h.own y e).1 hb, (h.own y e).2⟩
    · rw [List.mem_singleton.1 e, hv, g0.2.1, g0.2.2.2]
      exact ⟨World.ownsRow_nil _ _ _ _, rfl⟩
  · refine (hp.pairwise_iff (fun {x y} hab => ?_)).2 ?_
    · rcases hab with e | e
      · cases hb : y.v.ownBlock with
        | none => exact .inl rfl
        | some k => exact .inr (by rw [e]; simp)
      · exact .inr (Ne.symm e)
    · rw [List.pairwise_append]
      refine ⟨?_, List.pairwise_singleton _ _, fun x hx y hy => ?_⟩
      · cases gs with
        | nil => exact List.Pairwise.nil
        | cons y l => exact (h (hn y (List.mem_cons_self ..))).apart
      · rw [List.mem_singleton.1 hy, hv]
        cases hb : x.v.ownBlock with
        | none => exact .inl rfl
        | some k => exact .inr (by simp [Value.ownBlock])
theorem RGOwn.ap {w : World} {base : Nat} {a : Option Addr} {n c : Nat} {gs : List GV} (h : RGOwn w base a n c gs) {i l : Nat} (hi : i < gs.length) (hl : l < gs.length) (hne : i ≠ l) : gs[i].v.ownBlock = none ∨ gs[i].v.ownBlock ≠ gs[l].v.ownBlock := by
  have h1 := List.pairwise_iff_getElem.1 h.apart
  rcases Nat.lt_or_gt_of_ne hne with e | e
  · exact h1 i l hi hl e
  · rcases h1 l i hl hi e with g | g
    · cases hb : gs[i].v.ownBlock with
      | none => exact .inl rfl
      | some k => exact .inr (by rw [g]; simp)
    · exact .inr (Ne.symm g)
/-- a row more in one of them -/
theorem RGOwn.step {wS wA : World} {base b n cp : Nat} {gs : List GV} (h : RGOwn wS base (some ⟨b, 0, none⟩) n cp gs) {j : Nat} (hj : j < gs.length) {g : GV} (hg : gs[j] = g) {x : RowV} {a : Option Addr} {c B : Nat} (hB : wS.heap.size ≤ B)
    (hown : wA.ownsRow base 62 9 (.slice a (g.n + 1) c) (g.n + 1) (rcells g.rows ++ x.cells)) (hgrow : wS.grownBy wA g.v.ownBlock) (hloc : (Value.slice a (g.n + 1) c).ownBlock = g.v.ownBlock ∨ (Value.slice a (g.n + 1) c).ownBlock = some B) :
    RGOwn (wA.setCell ⟨b, j * 3 + 2, none⟩ (.slice a (g.n + 1) c)) base (some ⟨b, 0, none⟩) n cp (gs.set j (g.more a c x)) := by
  have hgm : g ∈ gs := hg ▸ List.getElem_mem hj
  have hgo := h.own g hgm
  have hoA := h.out.kept hgrow (own_ne2 h.out hgo.1 (by decide))
  have hrowne : ∀ {v : Value} {n : Nat} {xs : List Value}, wA.ownsRow base 62 9 v n xs → ∀ d, v.ownBlock = some d → d ≠ b := fun hv d hd e => by
    rcases own_ne2 hoA hv (by decide) with e1 | e1
    · cases e1
    · rw [hd, e] at e1; exact e1 rfl
  have hset : ∀ {v : Value} {n : Nat} {xs : List Value}, wA.ownsRow base 62 9 v n xs → (wA.setCell ⟨b, j * 3 + 2, none⟩ (.slice a (g.n + 1) c)).ownsRow base 62 9 v n xs := fun hv => own_heap hv (fun d hd => Below.heap_setCell _ _ _ _ (hrowne hv d hd))
  have hmem : ∀ y ∈ gs.set j (g.more a c x), y = g.more a c x ∨ ∃ i, ∃ hi : i < gs.length, i ≠ j ∧ y = gs[i] := fun y hy => by
    obtain ⟨i, hi, rfl⟩ := List.getElem_of_mem hy
    rw [List.length_set] at hi
    rw [List.getElem_set]
    split
    · exact .inl rfl
    · rename_i hne
      exact .inr ⟨i, hi, Ne.symm hne, rfl⟩
  have hltS : ∀ y ∈ gs, ∀ d, y.v.ownBlock = some d → d < wS.heap.size := fun y hy d hd => (Array.getElem?_eq_some_iff.1 (own_blk (h.own y hy).1 hd).choose_spec).1
  refine ⟨?_, by rw [List.length_set]; exact h.len, fun y hy => ?_, ?_⟩
  · have e := gcells_set (a := a) (c := c) (x := x) gs j hj
    rw [hg] at e
    rw [e]
    exact (hoA.stored _ _).1
  · rcases hmem y hy with rfl | ⟨i, hi, hne, rfl⟩
    · refine ⟨?_, by show (g.rows ++ [x]).length = g.n + 1; rw [List.length_append, hgo.2]; rfl⟩
      show World.ownsRow _ base 62 9 (.slice a (g.n + 1) c) (g.n + 1) (rcells (g.rows ++ [x]))
      rw [rcells_snoc]; exact hset hown
    · have hm := List.getElem_mem hi
      refine ⟨hset ((h.own _ hm).1.kept hgrow ?_), (h.own _ hm).2⟩
      have := h.ap hi hj hne
      rw [hg] at this; exact this
  · rw [List.pairwise_iff_getElem]
    intro i l hi hl hil
    rw [List.length_set] at hi hl
    rw [List.getElem_set, List.getElem_set]
    by_cases e1 : j = i
    · rw [if_pos e1, if_neg (by omega)]
      have q2 := h.ap hj hl (by omega)
      rw [hg] at q2
      show (Value.slice a (g.n + 1) c).ownBlock = none ∨ (Value.slice a (g.n + 1) c).ownBlock ≠ gs[l].v.ownBlock
      rcases hloc with e | e
      · rw [e]; exact q2
      · refine .inr fun e2 => ?_
        rw [e] at e2
        have := hltS _ (List.getElem_mem hl) B e2.symm
        omega
    · rw [if_neg e1]
      by_cases e3 : j = l
      · rw [if_pos e3]
        have q2 := h.ap hi hj (by omega)
        rw [hg] at q2
        show gs[i].v.ownBlock = none ∨ gs[i].v.ownBlock ≠ (Value.slice a (g.n + 1) c).ownBlock
        rcases hloc with e | e
        · rw [e]; exact q2
        · cases hb : gs[i].v.ownBlock with
          | none => exact .inl rfl
          | some k =>
            refine .inr fun e2 => ?_
            rw [e] at e2
            have := hltS _ (List.getElem_mem hi) k hb
            have := Option.some.inj e2
            omega
      · rw [if_neg e3]
        exact h.ap hi hl (by omega)

theorem RGOwn.room {w : World} {base b n c : Nat} {gs : List GV} (h : RGOwn w base (some ⟨b, 0, none⟩) n c gs) : n ≤ c ∧ c ≤ 9223372036854775807 := by
  rcases h.out.2 with ⟨e, h0⟩ | ⟨g, cap, cur, e, hg, hh, hnc, hcap, hsz, htake⟩
  · cases e
  · cases e
    unfold maxLen at hcap
    exact ⟨hnc, hcap⟩
theorem gcells_app (l m : List GV) : gcells (l ++ m) = gcells l ++ gcells m := by unfold gcells; simp
theorem gcells_all (l : List GV) : ∀ u ∈ gcells l, u.oneCell' = true := by
  intro u hu
  unfold gcells at hu
  obtain ⟨x, _, hx⟩ := List.mem_flatMap.1 hu
  exact gcells_one x u hx
theorem RGOwn.front {w : World} {base b n c : Nat} {gs : List GV} (h : RGOwn w base (some ⟨b, 0, none⟩) n c gs) (i : Nat) : ∀ j u, (gcells (gs.take i))[j]? = some u → w.cell? ((⟨b, 0, none⟩ : Addr).add j) = some u := by
  intro j u hu
  refine h.out.cells rfl j u ?_
  rw [← List.take_append_drop i gs, gcells_app, List.getElem?_append_left (List.getElem?_eq_some_iff.1 hu).1]
  exact hu
theorem RGOwn.back {w : World} {base b n c : Nat} {gs : List GV} (h : RGOwn w base (some ⟨b, 0, none⟩) n c gs) {i : Nat} (hi : i ≤ n) : ∀ j u, (gcells (gs.drop i))[j]? = some u → w.cell? ((⟨b, i * 3, none⟩ : Addr).add j) = some u := by
  intro j u hu
  have h2 := h.out.cells rfl (i * 3 + j) u (by
    have e : gcells gs = gcells (gs.take i) ++ gcells (gs.drop i) := by rw [← gcells_app, List.take_append_drop]
    have hl : (gcells (gs.take i)).length = i * 3 := by rw [gcells_len, List.length_take, h.len, Nat.min_eq_left hi]
    rw [e, List.getElem?_append_right (by omega), hl, show i * 3 + j - i * 3 = j by omega]
    exact hu)
  rw [Addr.add_mid] at h2 ⊢
  rw [Nat.zero_add] at h2
  exact h2

/-! ### the statement `out[n].Rows = append(out[n].Rows, x)`, its operations in any order -/
def RsF (b j n cp : Nat) (g : GV) (x : RowV) : Nat → Value → Prop
  | 0, v => v = .slice (some ⟨b, 0, none⟩) n cp
  | 1, v => v = .int .i64 (j : Int)
  | 2, v => v = .slice (some ⟨b, 0, none⟩) n cp
  | 3, v => v = .int .i64 (j : Int)
  | 4, v => v = .pointer (some ⟨b, j * 3, none⟩)
  | 5, v => v = .pointer (some ⟨b, j * 3 + 2, none⟩)
  | 6, v => v = .slice g.a g.n g.c
  | 7, v => v = .agg #[.int .i64 x.r.kind, .int .i64 x.r.time, .slice x.r.la x.r.ln x.r.lc, .string x.r.text, .int .i64 x.r.value, .bool x.r.null, .int .i64 x.who, .int .i64 x.sq, .int .i64 x.pl]
  | 10, v => v = .pointer (some ⟨b, j * 3, none⟩)
  | 11, v => v = .pointer (some ⟨b, j * 3 + 2, none⟩)
  | _, _ => True
structure RsR (wS : World) (base b j n cp : Nat) (g : GV) (x : RowV) (L : Nat → Bool) (V : Nat → Value) (w : World) : Prop where
  val : ∀ i, L i = true → RsF b j n cp g x i (V i)
  c9 : L 9 = true → L 6 = true ∧ L 8 = true
  c12 : L 12 = true → L 9 = true
  sA : L 9 = false → StA wS x (L 8) (V 8) w
  sB : L 9 = true → L 12 = false → StB wS base g x (V 9) w
  sC : L 12 = true → ∃ wA v, StB wS base g x v wA ∧ w = wA.setCell ⟨b, j * 3 + 2, none⟩ v
section
variable {wS w : World} {base b j n cp : Nat} {g : GV} {x : RowV} {L : Nat → Bool} {V : Nat → Value}
theorem RsR.start (V : Nat → Value) : RsR wS base b j n cp g x (fun _ => false) V wS.drew :=
  ⟨fun _ h => Bool.noConfusion h, fun h => Bool.noConfusion h, fun h => Bool.noConfusion h, fun _ => ⟨(Below.refl _ _).drew, fun h => Bool.noConfusion h⟩, fun h => Bool.noConfusion h, fun h => Bool.noConfusion h⟩
theorem RsR.no9 (h : RsR wS base b j n cp g x L V w) (h8 : L 6 = false ∨ L 8 = false) : L 9 = false := by
  cases e : L 9 with
  | false => rfl
  | true =>
    have := h.c9 e
    rcases h8 with h8 | h8
    · rw [this.1] at h8; cases h8
    · rw [this.2] at h8; cases h8
theorem RsR.no12 (h : RsR wS base b j n cp g x L V w) (h8 : L 9 = false) : L 12 = false := by
  cases e : L 12 with
  | false => rfl
  | true => rw [h.c12 e] at h8; cases h8
theorem RsR.keep (h : RsR wS base b j n cp g x L V w) {d : Nat} (hb : d < wS.heap.size) (h1 : some d ≠ g.v.ownBlock) (h2 : d ≠ b) : w.heap[d]? = wS.heap[d]? := by
  cases e : L 9 with
  | false => exact (h.sA e).1.block d hb
  | true =>
    cases e2 : L 12 with
    | false =>
      obtain ⟨a, c, B, _, _, hg, _⟩ := h.sB e e2
      exact hg.block d hb h1
    | true =>
      obtain ⟨wA, v, ⟨a, c, B, _, _, hg, _⟩, rfl⟩ := h.sC e2
      rw [Below.heap_setCell _ _ _ _ h2]
      exact hg.block d hb h1
theorem RsR.vals (h : RsR wS base b j n cp g x L V w) {i : Nat} {u : Value} (hv : RsF b j n cp g x i u) : ∀ m, (L m || decide (m = i)) = true → RsF b j n cp g x m (upd V i u m) := by
  intro m hm
  unfold upd
  by_cases e : m = i
  · subst e; simp; exact hv
  · simp [e] at hm ⊢
    exact h.val m hm
theorem RsR.put (h : RsR wS base b j n cp g x L V w) (i : Nat) (u : Value) (hj : (decide (8 = i) || decide (9 = i) || decide (12 = i)) = false) (hv : RsF b j n cp g x i u) : RsR wS base b j n cp g x (fun m => L m || decide (m = i)) (upd V i u) w := by
  simp only [Bool.or_eq_false_iff, decide_eq_false_iff_not] at hj
  have e10 : upd V i u 8 = V 8 := by unfold upd; rw [if_neg hj.1.1]
  have e11 : upd V i u 9 = V 9 := by unfold upd; rw [if_neg hj.1.2]
  refine ⟨h.vals hv, ?_, ?_, ?_, ?_, ?_⟩
  · simp only [decide_eq_false hj.1.2, decide_eq_false hj.1.1, Bool.or_false]
    intro e
    have := h.c9 e
    simp [this.1, this.2]
  · simp only [decide_eq_false hj.1.2, decide_eq_false hj.2, Bool.or_false]
    exact h.c12
  · simp only [decide_eq_false hj.1.2, decide_eq_false hj.1.1, Bool.or_false, e10]
    exact h.sA
  · simp only [decide_eq_false hj.1.2, decide_eq_false hj.2, Bool.or_false, e11]
    exact h.sB
  · simp only [decide_eq_false hj.2, Bool.or_false]
    exact h.sC
theorem RsR.put8 (h : RsR wS base b j n cp g x L V w) (h8 : L 8 = false) : RsR wS base b j n cp g x (fun m => L m || decide (m = 8)) (upd V 8 (.slice (some ⟨w.heap.size, 0, none⟩) 1 1)) (w.alloc (.cells #[.int .i64 x.r.kind, .int .i64 x.r.time, .slice x.r.la x.r.ln x.r.lc, .string x.r.text, .int .i64 x.r.value, .bool x.r.null, .int .i64 x.who, .int .i64 x.sq, .int .i64 x.pl] 62)) := by
  have h9 := h.no9 (.inr h8)
  have h12 := h.no12 h9
  refine ⟨h.vals trivial, ?_, ?_, ?_, ?_, ?_⟩
  · intro e; simp [h9] at e
  · intro e; simp [h12] at e
  · intro _
    refine ⟨(h.sA h9).1.alloc (h.sA h9).1.size _, fun _ => ⟨w.heap.size, by simp [upd], row_src w x 62⟩⟩
  · intro e; simp [h9] at e
  · intro e; simp [h12] at e
theorem RsR.put9 (h : RsR wS base b j n cp g x L V w) (h9 : L 9 = false) (h6 : L 6 = true) (h8 : L 8 = true) {wA : World} {v : Value} (hv : StB wS base g x v wA) : RsR wS base b j n cp g x (fun m => L m || decide (m = 9)) (upd V 9 v) wA := by
  have h12 := h.no12 h9
  refine ⟨h.vals trivial, fun _ => by simp [h6, h8], ?_, ?_, ?_, ?_⟩
  · intro e; simp
  · intro e; simp at e
  · intro _ _
    simp [upd]; exact hv
  · intro e; simp [h12] at e
theorem RsR.put12 (h : RsR wS base b j n cp g x L V w) (h9 : L 9 = true) (h12 : L 12 = false) (u : Value) : RsR wS base b j n cp g x (fun m => L m || decide (m = 12)) (upd V 12 u) (w.setCell ⟨b, j * 3 + 2, none⟩ (V 9)) := by
  refine ⟨h.vals trivial, fun _ => by simp [h.c9 h9], fun _ => by simp [h9], ?_, ?_, ?_⟩
  · intro e; simp [h9] at e
  · intro _ e; simp at e
  · intro _
    exact ⟨w, V 9, h.sB h9 h12, rfl⟩
end
/-- the document's split, behind k rows -/
structure RsI (w w3 wr : World) (k m : Nat) (a : Option Addr) (cp : Nat) (kf : RowV → Pl) (rs : List RowV) (gs : List GV) : Prop where
  nn : ∃ b, a = some ⟨b, 0, none⟩
  own : RGOwn wr w.heap.size a m cp gs
  own3 : 0 < m → RGOwn wr w3.heap.size a m cp gs
  lek : m ≤ k
  inv : Gath.Inv kf (gs.map GV.pair) (rs.take k)
  up : gs.Pairwise fun a b => ltK a.key b.key = true
  bel : Below w.heap.size w wr
  bel3 : Below w3.heap.size w3 wr
  few : ∀ g ∈ gs, g.n ≤ k
theorem below_row {B : Nat} {w a b : World} (h : Below B w a) {row : Option Nat} (hg : a.grownBy b row) (hB : B ≤ a.heap.size) (hr : ∀ k, row = some k → B ≤ k) : Below B w b :=
  ⟨hg.os.trans h.os, hg.tape.trans h.tape, hg.output.trans h.output, Nat.le_trans h.size hg.size, fun k hk => (hg.block k (Nat.lt_of_lt_of_le hk hB) (fun e => by have := hr k e.symm; omega)).trans (h.block k hk)⟩
theorem set_up {gs : List GV} {j : Nat} {g' : GV} (h : gs.Pairwise fun a b => ltK a.key b.key = true) (hj : j < gs.length) (hk : g'.key = gs[j].key) : (gs.set j g').Pairwise fun a b => ltK a.key b.key = true := by
  have e : (gs.set j g').map GV.key = gs.map GV.key := by
    rw [List.map_set, hk]
    have e2 : gs[j].key = (gs.map GV.key)[j]'(by rw [List.length_map]; exact hj) := by rw [List.getElem_map]
    rw [e2, List.set_getElem_self]
  have h1 : ∀ L : List GV, (L.Pairwise fun a b => ltK a.key b.key = true) ↔ (L.map GV.key).Pairwise fun a b => ltK a b = true := fun L => by rw [List.pairwise_map]
  rw [h1, e, ← h1]
  exact h
theorem RsI.next {w w3 wS wA : World} {k j bs mS cpS B : Nat} {kf : RowV → Pl} {rs : List RowV} {GS : List GV} {g : GV} {x : RowV} {a : Option Addr} {c : Nat} (h : RGOwn wS w3.heap.size (some ⟨bs, 0, none⟩) mS cpS GS) (hj : j < GS.length) (hg : GS[j] = g)
    (h3 : w.heap.size ≤ w3.heap.size) (hbel : Below w.heap.size w wS) (hbel3 : Below w3.heap.size w3 wS) (few : ∀ g ∈ GS, g.n ≤ k) (hm : mS ≤ k + 1) (up : GS.Pairwise fun a b => ltK a.key b.key = true) (hB : wS.heap.size ≤ B)
    (hown : wA.ownsRow w3.heap.size 62 9 (.slice a (g.n + 1) c) (g.n + 1) (rcells g.rows ++ x.cells)) (hgrow : wS.grownBy wA g.v.ownBlock) (hloc : (Value.slice a (g.n + 1) c).ownBlock = g.v.ownBlock ∨ (Value.slice a (g.n + 1) c).ownBlock = some B)
    (hinv : Gath.Inv kf ((GS.set j (g.more a c x)).map GV.pair) (rs.take (k + 1))) :
    RsI w w3 (wA.setCell ⟨bs, j * 3 + 2, none⟩ (.slice a (g.n + 1) c)) (k + 1) mS (some ⟨bs, 0, none⟩) cpS kf rs (GS.set j (g.more a c x)) := by
  have hgm : g ∈ GS := hg ▸ List.getElem_mem hj
  have hblt : ∀ b, g.v.ownBlock = some b → w3.heap.size ≤ b := fun b hb => ((h.own g hgm).1.lt b hb).1
  have hst := h.step hj hg hB hown hgrow hloc
  obtain ⟨b2, e2, hb2, _⟩ := h.form (by rw [← h.len]; omega)
  cases e2
  refine ⟨⟨_, rfl⟩, hst.mono h3, fun _ => hst, hm, hinv, set_up up hj (by rw [hg]; rfl), ?_, ?_, ?_⟩
  · exact (below_row hbel hgrow hbel.size (fun b hb => Nat.le_trans h3 (hblt b hb))).setCell (by show w.heap.size ≤ bs; omega) _
  · exact (below_row hbel3 hgrow hbel3.size hblt).setCell hb2 _
  · intro y hy
    obtain ⟨i, hi, rfl⟩ := List.getElem_of_mem hy
    rw [List.getElem_set]
    split
    · show g.n + 1 ≤ k + 1
      have := few g hgm; omega
    · have := few _ (List.getElem_mem (by rw [List.length_set] at hi; exact hi)); omega
theorem RGOwn.at' {w : World} {base : Nat} {a : Option Addr} {n c : Nat} {l : List GV} (h : RGOwn w base a n c l) (hr : ∀ g ∈ l, RowsAt w g.a g.n g.c g.rows) : GrpsAt w a n c l := by
  have hl := h.len
  rcases h.out.2 with ⟨he, h0⟩ | ⟨g, cap, cur, he, hg, hh, hnc, hcap, hsz, htake⟩
  · cases he
    obtain rfl : l = [] := List.eq_nil_of_length_eq_zero hl
    exact ⟨rfl, Nat.le_refl _, by omega, (fun _ => rfl), (fun x hx => by cases hx), fun h => absurd h (Nat.lt_irrefl 0)⟩
  · cases he
    refine ⟨hl, hnc, by unfold maxLen at hcap; exact hcap, (fun e => by cases e), hr, fun hp => ⟨g, 0, rfl, (Array.getElem?_eq_some_iff.1 hh).1, fun i hi j u hu => ?_⟩⟩
    have hj : j < 3 := (List.getElem?_eq_some_iff.1 hu).1
    have h2 : (gcells l)[i * 3 + j]? = some u := by
      unfold gcells
      rw [flat_at GV.cells 3 (fun _ => rfl) grp0 l i j (by omega) hj, hu]
    rw [Nat.zero_add, cell_of_row w _ _ _ _ (0, 0) hh, ← h2, ← htake, List.getElem?_take_of_lt (by omega), Array.getElem?_toList]
theorem gcells_ins (l r : List GV) (g : GV) : gcells (l ++ g :: r) = gcells l ++ g.cells ++ gcells r := by unfold gcells; simp
theorem ins_at {gs : List GV} {i : Nat} {g : GV} (hi : i ≤ gs.length) : ∃ hj : i < (gs.take i ++ g :: gs.drop i).length, (gs.take i ++ g :: gs.drop i)[i] = g := by
  have hl : (gs.take i).length = i := by rw [List.length_take, Nat.min_eq_left hi]
  refine ⟨by rw [List.length_append, hl]; simp, ?_⟩
  rw [List.getElem_append_right (by omega)]
  simp [hl]
theorem ins_set {gs : List GV} {i : Nat} {g g' : GV} (hi : i ≤ gs.length) : (gs.take i ++ g :: gs.drop i).set i g' = gs.take i ++ g' :: gs.drop i := by
  have hl : (gs.take i).length = i := by rw [List.length_take, Nat.min_eq_left hi]
  rw [List.set_append_right _ _ (by omega), hl, Nat.sub_self]
  rfl
theorem ins_inv {kf : RowV → Pl} {gs : List GV} {xs : List RowV} {i : Nat} {g : GV} {x : RowV} (hinv : Gath.Inv kf (gs.map GV.pair) xs) (hi : i ≤ gs.length) (hup : (gs.take i ++ g :: gs.drop i).Pairwise fun a b => ltK a.key b.key = true) (hk : kf x = g.key) (hg : g.rows = []) :
    ∀ a9 c9, Gath.Inv kf (((gs.take i ++ g :: gs.drop i).set i (g.more a9 c9 x)).map GV.pair) (xs ++ [x]) := by
  intro a9 c9
  have hne : ∀ y ∈ gs, y.key ≠ g.key := by
    have h1 : (gs.take i ++ g :: gs.drop i).Pairwise fun a b => a.key ≠ b.key := hup.imp (fun {a b} h e => by rw [e, ltK_irrefl] at h; cases h)
    have h2 := ((ins_perm gs i g).pairwise_iff (fun {a b} (h : a.key ≠ b.key) => h.symm)).1 h1
    rw [List.pairwise_append] at h2
    exact fun y hy => h2.2.2 y hy g (List.mem_singleton.2 rfl)
  have h3 := hinv.new (x := x) (fun p hp => by
    obtain ⟨y, hy, rfl⟩ := List.mem_map.1 hp
    rw [hk]; exact hne y hy)
  refine h3.perm ?_
  rw [ins_set hi]
  have h4 := (ins_perm gs i (g.more a9 c9 x)).map GV.pair
  have e5 : (gs ++ [g.more a9 c9 x]).map GV.pair = gs.map GV.pair ++ [g.more a9 c9 x].map GV.pair := List.map_append ..
  rw [e5] at h4
  have e : [g.more a9 c9 x].map GV.pair = [(kf x, [x])] := by
    show [((g.more a9 c9 x).key, g.rows ++ [x])] = _
    rw [hg, hk]; rfl
  rw [e] at h4
  exact h4
theorem ins_few {gs : List GV} {i k : Nat} {g : GV} (h : ∀ y ∈ gs, y.n ≤ k) (hg : g.n = 0) : ∀ y ∈ gs.take i ++ g :: gs.drop i, y.n ≤ k := by
  intro y hy
  rcases List.mem_append.1 ((ins_perm gs i g).mem_iff.1 hy) with e | e
  · exact h y e
  · rw [List.mem_singleton.1 e, hg]; exact Nat.zero_le _
end Go.Proofs.Ytjbljplgkbnpmaa
end SecRSpAll0
section SecRSpAll1
/- The document's Split, walked. Written by genrspwalk.py. -/
namespace Go.Proofs.Ytjbljplgkbnpmaa
open Go.ChangeShapes Go.WideShapes Go.Deep Go.RowKit LabPlain RecPlain Gath Stab
set_option linter.unusedVariables false

theorem rgroup_info : (Try.prog.info? 73).map (fun i => (i.zero, i.size, i.bytes)) = some (some (.agg #[.int .i64 0, .string ByteArray.empty, .slice none 0 0]), 3, 48) := by kernel_rfl
theorem mem_stable {l rs : List RowV} {n : Nat} (h : Stable ltR (atR l) (atR rs) n) (hl : l.length = n) (hr : rs.length = n) : ∀ x ∈ rs, x ∈ l := by
  intro x hx
  obtain ⟨i, hi, rfl⟩ := List.getElem_of_mem hx
  obtain ⟨t, h1, h2, h3⟩ := h
  obtain ⟨k, hk, e⟩ := (h3 (t i)).1 ⟨i, Nat.zero_le _, by omega, rfl⟩
  have e2 : rs[i] = (t i).1 := by rw [h1 i (by omega)]; simp [atR, hi]
  rw [e2, show (t i).1 = atR l k from by rw [e]]
  have : k < l.length := by omega
  show l.getD k row0 ∈ l
  simp [this]
/-- what the document's split answers -/
structure RSplitOut (w w' : World) (a' : Option Addr) (n' c' : Nat) (win : Int) (ss : List ByteArray) (l rs : List RowV) (gs : List GV) (n : Nat) : Prop where
  at' : GrpsAt w' a' n' c' gs
  inv : Gath.Inv (plS win ss) (gs.map GV.pair) rs
  up : gs.Pairwise fun a b => ltK a.key b.key = true
  len : rs.length = n
  stab : Stable ltR (atR l) (atR rs) n
  bel : Below w.heap.size w w'
set_option maxRecDepth 100000 in
set_option maxHeartbeats 4000000 in
theorem rsplit_any {w : World} {a b : Option Addr} {n c m d : Nat} {l : List RowV} {ss : List ByteArray} {win : Int} (h : RowsAt w a n c l) (hn : n ≤ 1000) (h' : StrsAt w b m d ss) (hw1 : 1 ≤ win) (hw2 : win ≤ 9223372036854775807) (hset : ∀ x ∈ l, isSet x.r.labs = true) :
    Calls Try.prog 49 #[.slice a n c, .int .i64 win, .slice b m d] w fun e w' => ∃ a' n' c' rs gs, e = .returned (.slice a' n' c') ∧ RSplitOut w w' a' n' c' win ss l rs gs n := by
  obtain ⟨i0, hi, hz0, hz1, hz2⟩ := info_parts row_info
  obtain ⟨k0, pi, pz0, pz1, pz2⟩ := info_parts rgroup_info
  have HW1 := Lib.hid hw1
  have HW2 := Lib.hid hw2
  have hwi : ¬ win < 1 := by omega
  have hw0 : ¬ win = 0 := by omega
  have HH := Lib.hid h
  have HS := Lib.hid h'
  have HL := Lib.hid h.len
  have HSET := Lib.hid hset
  have hcap := h.cap
  have hcm := h.capm
  clear h h' hw1 hw2 hset
  go_enter Try.func49, Try.ntmps49
  obtain ⟨w0, hw0'⟩ : ∃ w0, w0 = w.alloc (.cells #[] 73) := ⟨_, rfl⟩
  obtain ⟨b0, hb0'⟩ : ∃ b0, b0 = w.heap.size := ⟨_, rfl⟩
  have HB0 := Lib.hid (show Below w.heap.size w w0 from by rw [hw0']; exact (Below.refl _ _).alloc (Nat.le_refl _) _)
  have HN0 := Lib.hid (show RGOwn w0 w.heap.size (some ⟨b0, 0, none⟩) 0 0 [] from by rw [hw0', hb0']; exact RGOwn.nil (Nat.le_refl _))
  go_wp2_with fail
  rw [← hw0', ← hb0']
  have HB0E := Lib.hid hb0'
  clear hw0' hb0'
  refine (rsort_any (HH.out.kept HB0.out) (by omega)).mono ?_
  rintro e w3 ⟨a3, c3, rs, rfl, hat3, hst, hb3⟩
  have HAT := Lib.hid hat3
  have HST := Lib.hid hst
  have HRL := Lib.hid hat3.len
  have HRS := Lib.hid (fun x hx => HSET.out x (mem_stable hst HL.out hat3.len x hx))
  have HB3 := Lib.hid (HB0.out.trans (hb3.mono HB0.out.size))
  have HI0 := Lib.hid (show RsI w w3 w3 0 0 (some ⟨b0, 0, none⟩) 0 (plS win ss) rs [] from ⟨⟨_, rfl⟩, HN0.out.below hb3, (fun h => absurd h (Nat.lt_irrefl 0)), Nat.le_refl _, Gath.Inv.nil _, List.Pairwise.nil, HB3.out, Below.refl _ _, (fun g hg => by cases hg)⟩)
  have hcap3 := hat3.cap
  have hcm3 := hat3.capm
  clear hat3 hst hb3
  go_wp2_with fail
  go_loopw [7, 18] (fun s7 s18 wr => ∃ (k m cp : Nat) (a : Option Addr) (gs : List GV), k ≤ n ∧ s18 = .int .i64 (k : Int) ∧ s7 = .slice a m cp ∧ Hid (RsI w w3 wr k m a cp (plS win ss) rs gs)) (fun _ s18 _ => n - (intOf s18).toNat)
  case atStart => exact ⟨0, 0, 0, _, [], by omega, rfl, rfl, HI0⟩
  case round =>
    clear HI0
    obtain ⟨k, m', cp, ag, gs, hk, rfl, rfl, HI⟩ := hrel
    rename World => wr
    by_cases hkn : k < n
    · have hkni : (k : Int) < (n : Int) := by omega
      have hkp := HAT.out.kept HI.out.bel3
      obtain ⟨b1, off, rfl, hlt, hcell⟩ := hkp.cells (by omega)
      have hkl : k < rs.length := by rw [HRL.out]; exact hkn
      obtain ⟨x, hx⟩ : ∃ x, x = rs.getD k row0 := ⟨_, rfl⟩
      obtain ⟨d0, d1, d2, d3, d4, d5, d6, d7, d8⟩ := RowsAt.nine hcell hkn hx
      have hxm : x ∈ rs := by rw [hx]; exact row_mem hkl
      have hlab := hkp.labs x hxm
      have hfit := hkp.fits x hxm
      have hset := HRS.out x hxm
      have hsz := set_len hset
      obtain ⟨wx, hwx⟩ : ∃ wx, wx = wr.alloc (.cells #[.int .i64 x.r.kind, .int .i64 x.r.time, .slice x.r.la x.r.ln x.r.lc, .string x.r.text, .int .i64 x.r.value, .bool x.r.null, .int .i64 x.who, .int .i64 x.sq, .int .i64 x.pl] 62) := ⟨_, rfl⟩
      obtain ⟨bx, hbx⟩ : ∃ bx, bx = wr.heap.size := ⟨_, rfl⟩
      have hbwx : Below wr.heap.size wr wx := by rw [hwx]; exact (Below.refl _ _).alloc (Nat.le_refl _) _
      have hxblk : wx.heap[bx]? = some (.cells #[.int .i64 x.r.kind, .int .i64 x.r.time, .slice x.r.la x.r.ln x.r.lc, .string x.r.text, .int .i64 x.r.value, .bool x.r.null, .int .i64 x.who, .int .i64 x.sq, .int .i64 x.pl] 62 (0, 0)) := by rw [hwx, hbx]; exact heap_alloc_new wr _
      have HXB := Lib.hid hxblk
      have HBXL := Lib.hid (Array.getElem?_eq_some_iff.1 hxblk).1
      have hwwx : Below w.heap.size w wx := HI.out.bel.trans (hbwx.mono HI.out.bel.size)
      have HPART := Lib.hid (show ∀ w9, Below wx.heap.size wx w9 → Calls Try.prog 27 #[.slice x.r.la x.r.ln x.r.lc, .slice b m d] w9 fun e w' => ∃ ap cpp, e = .returned (.slice ap (partTo x.r.labs ss x.r.labs.length).length cpp) ∧ LabsAt w' ap (partTo x.r.labs ss x.r.labs.length).length cpp (partTo x.r.labs ss x.r.labs.length) ∧ Below w9.heap.size w9 w' from fun w9 hb9 => by
        have h1 := rpart_any ((hlab.kept hbwx).kept hb9) ((HS.out.kept hwwx).kept hb9) (by rw [← hlab.len]; omega)
        rw [← hlab.len] at h1 ⊢
        exact h1)
      have HISP := Lib.hid (part_set hset ss)
      obtain ⟨pt, hpt⟩ : ∃ pt, pt = ptext x.r.labs ss := ⟨_, rfl⟩
      obtain ⟨q, hq⟩ : ∃ q, x.r.time.tdiv win = q := ⟨_, rfl⟩
      have HPTX := Lib.hid (show textOf (partTo x.r.labs ss x.r.labs.length) = pt from by rw [hpt]; unfold ptext; rw [if_pos (part_set hset ss)])
      have hqw : IntKind.i64.wrap q = q := by
        have h1 := tdiv_fits hfit.1.2.1 HW1.out
        rw [hq] at h1
        exact wrap_id h1.1 h1.2
      have HKEY := Lib.hid (show plS win ss x = (q, pt) from by unfold plS; rw [hq, hpt])
      have SPM := Lib.hid (show ∀ (w w' : World), Below w.heap.size w w' → ∀ u, (fun (u : Value) (w : World) => ∃ ap cpp, u = .slice ap (partTo x.r.labs ss x.r.labs.length).length cpp ∧ LabsAt w ap (partTo x.r.labs ss x.r.labs.length).length cpp (partTo x.r.labs ss x.r.labs.length)) u w → (fun (u : Value) (w : World) => ∃ ap cpp, u = .slice ap (partTo x.r.labs ss x.r.labs.length).length cpp ∧ LabsAt w ap (partTo x.r.labs ss x.r.labs.length).length cpp (partTo x.r.labs ss x.r.labs.length)) u w' from fun w w' hb u ⟨ap, cpp, e1, e2⟩ => ⟨ap, cpp, e1, e2.kept hb⟩)
      have HWX := Lib.hid hwx
      have HBXE := Lib.hid hbx
      have HX := Lib.hid hx
      have HBWX := Lib.hid hbwx
      clear hkp hcell hlt hx hxm hkl hlab hfit hset hsz hpt hwx hbx hbwx hxblk hwwx
      go_wp2_with fail
      rw [← HWX.out, ← HBXE.out]
      refine wp_region_fill (by kernel_rfl) (by kernel_rfl) (by kernel_rfl) (Below wx.heap.size wx) (FV (fun j => match j with | 0 => some (.pointer (some ⟨bx, 0, none⟩)) | 1 => some (.pointer (some ⟨bx, 1, none⟩)) | 2 => some (.int .i64 x.r.time) | 3 => some (.int .i64 win) | 4 => some (.int .i64 q) | 5 => some (.pointer (some ⟨bx, 0, none⟩)) | 6 => some (.pointer (some ⟨bx, 2, none⟩)) | 7 => some (.slice x.r.la x.r.ln x.r.lc) | 8 => some (.slice b m d) | 9 => none | 10 => some (.string pt) | 11 => some (.int .i64 q) | 12 => some (.string pt) | _ => none) (fun (u : Value) (w : World) => ∃ ap cpp, u = .slice ap (partTo x.r.labs ss x.r.labs.length).length cpp ∧ LabsAt w ap (partTo x.r.labs ss x.r.labs.length).length cpp (partTo x.r.labs ss x.r.labs.length))) (Below.refl _ _).drew ?_ ?_
      · intro i9 o ho V w9 K hJ hdep hK
        have HJ := Lib.hid hJ
        simp only [fill, slotOf, List.size_toArray, List.length_cons, List.length_nil, Nat.reduceAdd, List.getElem?_toArray, List.getElem?_cons_zero, List.getElem?_cons_succ, Option.bind_some, Act.put, List.setIfInBounds_toArray, List.set_cons_zero, List.set_cons_succ] at hK ⊢
        have hin : i9 < 13 := (Array.getElem?_eq_some_iff.1 ho).1
        have hcs : i9 = 0 ∨ i9 = 1 ∨ i9 = 2 ∨ i9 = 3 ∨ i9 = 4 ∨ i9 = 5 ∨ i9 = 6 ∨ i9 = 7 ∨ i9 = 8 ∨ i9 = 9 ∨ i9 = 10 ∨ i9 = 11 ∨ i9 = 12 := by omega
        clear hin
        rcases hcs with rfl | rfl | rfl | rfl | rfl | rfl | rfl | rfl | rfl | rfl | rfl | rfl | rfl
        · obtain rfl := Option.some.inj ho.symm
          clear hdep ho hJ
          try simp only [fill, slotOf, List.size_toArray, List.length_cons, List.length_nil, Nat.reduceAdd, List.getElem?_toArray, List.getElem?_cons_zero, List.getElem?_cons_succ, Option.bind_some, Act.put, List.setIfInBounds_toArray, List.set_cons_zero, List.set_cons_succ] at hK ⊢
          go_simp
          exact hK (.pointer (some ⟨bx, 0, none⟩)) _ HJ.out rfl (fun j y h => h) _ rfl
        · obtain rfl := Option.some.inj ho.symm
          have d0 : V 0 = .pointer (some ⟨bx, 0, none⟩) := hdep ⟨0, .data⟩ (by simp) rfl
          clear hdep ho hJ
          try simp only [fill, slotOf, List.size_toArray, List.length_cons, List.length_nil, Nat.reduceAdd, List.getElem?_toArray, List.getElem?_cons_zero, List.getElem?_cons_succ, Option.bind_some, Act.put, List.setIfInBounds_toArray, List.set_cons_zero, List.set_cons_succ] at hK ⊢
          rw [d0] at hK ⊢
          go_simp
          exact hK (.pointer (some ⟨bx, 1, none⟩)) _ HJ.out rfl (fun j y h => h) _ rfl
        · obtain rfl := Option.some.inj ho.symm
          have d1 : V 1 = .pointer (some ⟨bx, 1, none⟩) := hdep ⟨1, .data⟩ (by simp) rfl
          have e1 : w9.cell? ⟨bx, 1, none⟩ = some (.int .i64 x.r.time) := cell_blk ((hJ.block bx HBXL.out).trans HXB.out) rfl
          clear hdep ho hJ
          try simp only [fill, slotOf, List.size_toArray, List.length_cons, List.length_nil, Nat.reduceAdd, List.getElem?_toArray, List.getElem?_cons_zero, List.getElem?_cons_succ, Option.bind_some, Act.put, List.setIfInBounds_toArray, List.set_cons_zero, List.set_cons_succ] at hK ⊢
          rw [d1] at hK ⊢
          go_simp
          exact hK (.int .i64 x.r.time) _ HJ.out rfl (fun j y h => h) _ rfl
        · obtain rfl := Option.some.inj ho.symm
          clear hdep ho hJ
          try simp only [fill, slotOf, List.size_toArray, List.length_cons, List.length_nil, Nat.reduceAdd, List.getElem?_toArray, List.getElem?_cons_zero, List.getElem?_cons_succ, Option.bind_some, Act.put, List.setIfInBounds_toArray, List.set_cons_zero, List.set_cons_succ] at hK ⊢
          go_simp
          exact hK (.int .i64 win) _ HJ.out rfl (fun j y h => h) _ rfl
        · obtain rfl := Option.some.inj ho.symm
          have d2 : V 2 = .int .i64 x.r.time := hdep ⟨2, .data⟩ (by simp) rfl
          have d3 : V 3 = .int .i64 win := hdep ⟨3, .data⟩ (by simp) rfl
          clear hdep ho hJ
          try simp only [fill, slotOf, List.size_toArray, List.length_cons, List.length_nil, Nat.reduceAdd, List.getElem?_toArray, List.getElem?_cons_zero, List.getElem?_cons_succ, Option.bind_some, Act.put, List.setIfInBounds_toArray, List.set_cons_zero, List.set_cons_succ] at hK ⊢
          rw [d2, d3] at hK ⊢
          go_simp
          refine hK (.int .i64 q) _ HJ.out rfl (fun j y h => h) _ ?_
          first | rfl | (rw [hqw]; rfl) | (simp only [hqw]; rfl)
        · obtain rfl := Option.some.inj ho.symm
          clear hdep ho hJ
          try simp only [fill, slotOf, List.size_toArray, List.length_cons, List.length_nil, Nat.reduceAdd, List.getElem?_toArray, List.getElem?_cons_zero, List.getElem?_cons_succ, Option.bind_some, Act.put, List.setIfInBounds_toArray, List.set_cons_zero, List.set_cons_succ] at hK ⊢
          go_simp
          exact hK (.pointer (some ⟨bx, 0, none⟩)) _ HJ.out rfl (fun j y h => h) _ rfl
        · obtain rfl := Option.some.inj ho.symm
          have d5 : V 5 = .pointer (some ⟨bx, 0, none⟩) := hdep ⟨5, .data⟩ (by simp) rfl
          clear hdep ho hJ
          try simp only [fill, slotOf, List.size_toArray, List.length_cons, List.length_nil, Nat.reduceAdd, List.getElem?_toArray, List.getElem?_cons_zero, List.getElem?_cons_succ, Option.bind_some, Act.put, List.setIfInBounds_toArray, List.set_cons_zero, List.set_cons_succ] at hK ⊢
          rw [d5] at hK ⊢
          go_simp
          exact hK (.pointer (some ⟨bx, 2, none⟩)) _ HJ.out rfl (fun j y h => h) _ rfl
        · obtain rfl := Option.some.inj ho.symm
          have d6 : V 6 = .pointer (some ⟨bx, 2, none⟩) := hdep ⟨6, .data⟩ (by simp) rfl
          have e1 : w9.cell? ⟨bx, 2, none⟩ = some (.slice x.r.la x.r.ln x.r.lc) := cell_blk ((hJ.block bx HBXL.out).trans HXB.out) rfl
          clear hdep ho hJ
          try simp only [fill, slotOf, List.size_toArray, List.length_cons, List.length_nil, Nat.reduceAdd, List.getElem?_toArray, List.getElem?_cons_zero, List.getElem?_cons_succ, Option.bind_some, Act.put, List.setIfInBounds_toArray, List.set_cons_zero, List.set_cons_succ] at hK ⊢
          rw [d6] at hK ⊢
          go_simp
          exact hK (.slice x.r.la x.r.ln x.r.lc) _ HJ.out rfl (fun j y h => h) _ rfl
        · obtain rfl := Option.some.inj ho.symm
          clear hdep ho hJ
          try simp only [fill, slotOf, List.size_toArray, List.length_cons, List.length_nil, Nat.reduceAdd, List.getElem?_toArray, List.getElem?_cons_zero, List.getElem?_cons_succ, Option.bind_some, Act.put, List.setIfInBounds_toArray, List.set_cons_zero, List.set_cons_succ] at hK ⊢
          go_simp
          exact hK (.slice b m d) _ HJ.out rfl (fun j y h => h) _ rfl
        · obtain rfl := Option.some.inj ho.symm
          have d7 : V 7 = .slice x.r.la x.r.ln x.r.lc := hdep ⟨7, .data⟩ (by simp) rfl
          have d8 : V 8 = .slice b m d := hdep ⟨8, .data⟩ (by simp) rfl
          clear hdep ho hJ
          try simp only [fill, slotOf, List.size_toArray, List.length_cons, List.length_nil, Nat.reduceAdd, List.getElem?_toArray, List.getElem?_cons_zero, List.getElem?_cons_succ, Option.bind_some, Act.put, List.setIfInBounds_toArray, List.set_cons_zero, List.set_cons_succ] at hK ⊢
          rw [d7, d8] at hK ⊢
          go_simp
          refine (HPART.out w9 HJ.out).mono ?_
          rintro e w8 ⟨ap, cpp, rfl, hlp, hb8⟩
          exact hK (.slice ap (partTo x.r.labs ss x.r.labs.length).length cpp) _ (HJ.out.trans (hb8.mono HJ.out.size)) ⟨ap, cpp, rfl, hlp⟩ (FV.mono (SPM.out _ _ hb8)) _ rfl
        · have hoo := Option.some.inj ho.symm
          obtain ⟨ap, cpp, eV, hlp⟩ : ∃ ap cpp, V 9 = .slice ap (partTo x.r.labs ss x.r.labs.length).length cpp ∧ LabsAt w9 ap (partTo x.r.labs ss x.r.labs.length).length cpp (partTo x.r.labs ss x.r.labs.length) := hdep ⟨9, .data⟩ (by rw [hoo]; simp) rfl
          have HTX := rtext_any hlp HISP.out
          rw [HPTX.out] at HTX
          have HTX := Lib.hid HTX
          subst hoo
          clear hdep ho hJ hlp
          try simp only [fill, slotOf, List.size_toArray, List.length_cons, List.length_nil, Nat.reduceAdd, List.getElem?_toArray, List.getElem?_cons_zero, List.getElem?_cons_succ, Option.bind_some, Act.put, List.setIfInBounds_toArray, List.set_cons_zero, List.set_cons_succ] at hK ⊢
          rw [eV] at hK ⊢
          go_simp
          refine (HTX.out).mono ?_
          rintro e w8 ⟨rfl, hb8⟩
          exact hK (.string pt) _ (HJ.out.trans (hb8.mono HJ.out.size)) rfl (FV.mono (SPM.out _ _ hb8)) _ rfl
        · obtain rfl := Option.some.inj ho.symm
          have d4 : V 4 = .int .i64 q := hdep ⟨4, .data⟩ (by simp) rfl
          clear hdep ho hJ
          try simp only [fill, slotOf, List.size_toArray, List.length_cons, List.length_nil, Nat.reduceAdd, List.getElem?_toArray, List.getElem?_cons_zero, List.getElem?_cons_succ, Option.bind_some, Act.put, List.setIfInBounds_toArray, List.set_cons_zero, List.set_cons_succ] at hK ⊢
          rw [d4] at hK ⊢
          go_simp
          exact hK (.int .i64 q) _ HJ.out rfl (fun j y h => h) _ rfl
        · obtain rfl := Option.some.inj ho.symm
          have d10 : V 10 = .string pt := hdep ⟨10, .data⟩ (by simp) rfl
          clear hdep ho hJ
          try simp only [fill, slotOf, List.size_toArray, List.length_cons, List.length_nil, Nat.reduceAdd, List.getElem?_toArray, List.getElem?_cons_zero, List.getElem?_cons_succ, Option.bind_some, Act.put, List.setIfInBounds_toArray, List.set_cons_zero, List.set_cons_succ] at hK ⊢
          rw [d10] at hK ⊢
          go_simp
          exact hK (.string pt) _ HJ.out rfl (fun j y h => h) _ rfl
      · intro V w9 hJ hall
        have dL : V 12 = .string pt := hall 12 (by decide)
        have k11 : V 11 = .int .i64 q := hall 11 (by decide)
        have HJ9 := Lib.hid hJ
        clear hall hJ
        simp only [fill, slotOf, List.size_toArray, List.length_cons, List.length_nil, Nat.reduceAdd, List.getElem?_toArray, List.getElem?_cons_zero, List.getElem?_cons_succ, Option.bind_some, Act.put, List.setIfInBounds_toArray, List.set_cons_zero, List.set_cons_succ]
        rw [dL, k11]
        clear dL k11
        obtain ⟨w5, hw5⟩ : ∃ w5, w5 = w9 := ⟨_, rfl⟩
        have HB5 := Lib.hid (HBWX.out.trans (HJ9.out.mono HBWX.out.size))
        have HX5 := Lib.hid ((HJ9.out.block bx HBXL.out).trans HXB.out)
        clear hw5 w5
        go_wp2_with fail
        go_loopw [12] (fun s12 wq => ∃ i : Nat, i ≤ m' ∧ s12 = .int .i64 (i : Int) ∧ wq = w9 ∧ Hid (∀ j, j < i → ltK (gs.getD j grp0).key (q, pt) = true)) (fun s12 _ => m' - (intOf s12).toNat)
        case atStart => exact ⟨0, by omega, rfl, rfl, Lib.hid (fun j hj => absurd hj (Nat.not_lt_zero _))⟩
        case round =>
          obtain ⟨i, him, rfl, hwq, HLT⟩ := hrel
          rename World => wq
          subst hwq
          have HG9 := Lib.hid (HI.out.own.below HB5.out)
          have hmk : m' ≤ k := HI.out.lek
          have HML := Lib.hid (show m' = gs.length from HI.out.own.len.symm)
          by_cases c1 : i < m'
          · have c1i : (i : Int) < (m' : Int) := by omega
            have hmi : ((i : Int) == (m' : Int)) = false := by rw [beq_eq_false_iff_ne]; omega
            obtain ⟨bo, rfl, hbl, hbs, hmc, _, hgc⟩ := HG9.out.form (by omega)
            obtain ⟨g, hg⟩ : ∃ g, g = gs.getD i grp0 := ⟨_, rfl⟩
            obtain ⟨z0, z1, z2⟩ := GrpsAt.three hgc c1 hg
            obtain ⟨gp, gw, gpt, ga, gn, gc, grs⟩ := g
            simp only [Nat.zero_add] at z0 z1 z2
            have HGE := Lib.hid hg
            have HMC := Lib.hid hmc
            clear hg hgc hbl hbs
            by_cases c2 : gw < q
            · have HLT2 := Lib.hid (show ∀ j, j < i + 1 → ltK (gs.getD j grp0).key (q, pt) = true from fun j hj => by
                rcases Nat.lt_or_ge j i with e | e
                · exact HLT.out j e
                · obtain rfl : j = i := by omega
                  rw [← HGE.out]; unfold ltK GV.key; simp [c2])
              clear z1 z2 hmi
              go_wp2_with fail
              go_roundw
              case rel => exact ⟨i + 1, by omega, by go_num, trivial, HLT2⟩
              case measure => simp [intOf]; omega
            · by_cases c3 : gw = q
              · obtain rfl : q = gw := c3.symm
                have cqq : (q == q) = true := by simp
                have cqn : (q != q) = false := by simp
                by_cases c4 : ltB gpt pt = true
                · have HLT2 := Lib.hid (show ∀ j, j < i + 1 → ltK (gs.getD j grp0).key (q, pt) = true from fun j hj => by
                    rcases Nat.lt_or_ge j i with e | e
                    · exact HLT.out j e
                    · obtain rfl : j = i := by omega
                      rw [← HGE.out]; unfold ltK GV.key; simp [c4])
                  have h0 : Op.bytesLess gpt.toList pt.toList = true := c4
                  clear c4 z2 hmi
                  go_wp2_with fail
                  go_roundw
                  case rel => exact ⟨i + 1, by omega, by go_num, trivial, HLT2⟩
                  case measure => simp [intOf]; omega
                · have h0 : Op.bytesLess gpt.toList pt.toList = false := by
                    have h1 : ltB gpt pt = false := Bool.eq_false_iff.2 c4
                    exact h1
                  by_cases c5 : gpt = pt
                  · obtain rfl : pt = gpt := c5.symm
                    have cpp0 : (pt.toList == pt.toList) = true := by simp
                    clear c4
                    have HRG := Lib.hid ((HI.out.own3 (by omega)).below HB5.out)
                    have HFEW := Lib.hid HI.out.few
                    have HXS := HX5
                    have HB3S := Lib.hid (Nat.le_trans HI.out.bel3.size HB5.out.size)
                    have HG := Lib.hid (show ∃ hj : i < gs.length, gs[i] = (⟨gp, q, pt, ga, gn, gc, grs⟩ : GV) from ⟨by rw [← HML.out]; exact c1, by rw [HGE.out]; simp [show i < gs.length from by rw [← HML.out]; exact c1]⟩)
                    have HBXN := Lib.hid (show some bx ≠ (GV.v ⟨gp, q, pt, ga, gn, gc, grs⟩).ownBlock from fun e => by
                      have h2 := ((HI.out.own.own ⟨gp, q, pt, ga, gn, gc, grs⟩ (by rw [← HG.out.2]; exact List.getElem_mem _)).1.lt bx e.symm).2
                      rw [HBXE.out] at h2; omega)
                    have HBELS := Lib.hid (HI.out.bel.trans (HB5.out.mono HI.out.bel.size))
                    have HBEL3S := Lib.hid (HI.out.bel3.trans (HB5.out.mono HI.out.bel3.size))
                    have HUPS := Lib.hid HI.out.up
                    have HMKS := Lib.hid (show m' ≤ k + 1 from by omega)
                    have HINVS := Lib.hid (show ∀ a9 c9, Gath.Inv (plS win ss) ((gs.set i (GV.more ⟨gp, q, pt, ga, gn, gc, grs⟩ a9 c9 x)).map GV.pair) (rs.take (k + 1)) from fun a9 c9 => by
                      obtain ⟨hj, he⟩ := HG.out
                      have hgp : (gs.map GV.pair)[i]? = some (GV.pair ⟨gp, q, pt, ga, gn, gc, grs⟩) := by rw [List.getElem?_map, List.getElem?_eq_getElem hj, he]; rfl
                      have h2 := HI.out.inv.old hgp (x := x) (by rw [HKEY.out]; rfl)
                      rw [List.map_set]
                      rw [take_snoc (by rw [HRL.out]; exact hkn) HX.out]
                      exact h2)
                    go_wp2_with fail
                    obtain ⟨g, hgE⟩ : ∃ g : GV, g = ⟨gp, q, pt, ga, gn, gc, grs⟩ := ⟨_, rfl⟩
                    rw [← hgE] at HG HBXN HINVS
                    have HGQ := Lib.hid hgE
                    obtain ⟨GS, hGS⟩ : ∃ GS, GS = gs := ⟨_, rfl⟩
                    rw [← hGS] at HRG HG HFEW HUPS HINVS
                    have HGS := Lib.hid hGS
                    obtain ⟨wS, hwS⟩ : ∃ wS, wS = wq := ⟨_, rfl⟩
                    rw [← hwS] at HRG HXS HB3S HBELS HBEL3S
                    obtain ⟨mS, hmS⟩ : ∃ mS, mS = m' := ⟨_, rfl⟩
                    obtain ⟨cpS, hcpS⟩ : ∃ cpS, cpS = cp := ⟨_, rfl⟩
                    obtain ⟨bs, hbs⟩ : ∃ bs, bs = bo := ⟨_, rfl⟩
                    rw [← hmS, ← hcpS, ← hbs] at HRG
                    rw [← hmS] at HMKS
                    rw [← hwS, ← hmS, ← hcpS, ← hbs]
                    have hiS : i < mS := by omega
                    have HWS := Lib.hid hwS
                    have HMS := Lib.hid hmS
                    have HCS := Lib.hid hcpS
                    have HBS := Lib.hid hbs
                    have hms : mS ≤ 1001 := by omega
                    clear hgE hGS hwS hmS hcpS hbs z0 z1 z2
                    have hgm : g ∈ GS := by rw [← HG.out.2]; exact List.getElem_mem _
                    have hgo := (HRG.out.own g hgm).1
                    obtain ⟨bq, hbq, hbl3, hbls, hmc3, hkind, hgc3⟩ := HRG.out.form (by omega)
                    obtain rfl : bs = bq := by cases hbq; rfl
                    obtain ⟨csq, hcsq⟩ := hkind
                    have hbsn : some bs ≠ g.v.ownBlock := fun e => by
                      obtain ⟨cs, hcs⟩ := own_blk hgo e.symm
                      rw [hcsq] at hcs
                      have h2 := (Obj.cells.injEq .. ▸ Option.some.inj hcs)
                      have h3 : (73 : TypeId) = 62 := h2.2.1
                      exact absurd h3 (by decide)
                    have hbxs : bx ≠ bs := fun e => by
                      have h1 := HXS.out
                      rw [e, hcsq] at h1
                      have h2 := (Obj.cells.injEq .. ▸ Option.some.inj h1)
                      have h3 : (73 : TypeId) = 62 := h2.2.1
                      exact absurd h3 (by decide)
                    have hgd : GS.getD i grp0 = g := by
                      obtain ⟨hj, e⟩ := HG.out
                      rw [← e]; simp [hj]
                    have hcg : wS.cell? ⟨bs, i * 3 + 2, none⟩ = some (.slice g.a g.n g.c) := by
                      have h1 := hgc3 i hiS 2 (.slice g.a g.n g.c) (by rw [hgd]; rfl)
                      rw [Nat.zero_add] at h1
                      exact h1
                    have lx : bx < wS.heap.size := (Array.getElem?_eq_some_iff.1 HXS.out).1
                    have HAX := Lib.hid (show ∀ L7 V7 w9, RsR wS w3.heap.size bs i mS cpS g x L7 V7 w9 → w9.heap[bx]? = some (.cells #[.int .i64 x.r.kind, .int .i64 x.r.time, .slice x.r.la x.r.ln x.r.lc, .string x.r.text, .int .i64 x.r.value, .bool x.r.null, .int .i64 x.who, .int .i64 x.sq, .int .i64 x.pl] 62 (0, 0)) from fun L7 V7 w9 h => (h.keep lx HBXN.out hbxs).trans HXS.out)
                    have HGO := Lib.hid hgo
                    have HLP := Lib.hid hbls
                    have HCG := Lib.hid hcg
                    have HTYP := Lib.hid hbsn
                    have HCSQ := Lib.hid hcsq
                    have hgn : g.n ≤ 1000 := by have := HFEW.out g hgm; omega
                    have hiSi : (i : Int) < (mS : Int) := by omega
                    have HBASE := HB3S
                    clear hgm hgo hbq hbl3 hbls hmc3 hgc3 hcsq hbsn hbxs hgd hcg lx
                    refine wp_region_inv (by kernel_rfl) (by kernel_rfl) (by kernel_rfl) (RsR wS w3.heap.size bs i mS cpS g x) (fun V => RsR.start V) ?_ ?_
                    · intro j9 o ho L9 V w9 K hI hL hdep hK
                      have HI9 := Lib.hid hI
                      have hin : j9 < 13 := (Array.getElem?_eq_some_iff.1 ho).1
                      have hcs : j9 = 0 ∨ j9 = 1 ∨ j9 = 2 ∨ j9 = 3 ∨ j9 = 4 ∨ j9 = 5 ∨ j9 = 6 ∨ j9 = 7 ∨ j9 = 8 ∨ j9 = 9 ∨ j9 = 10 ∨ j9 = 11 ∨ j9 = 12 := by omega
                      clear hin
                      rcases hcs with rfl | rfl | rfl | rfl | rfl | rfl | rfl | rfl | rfl | rfl | rfl | rfl | rfl
                      · obtain rfl := Option.some.inj ho.symm
                        clear hdep ho hI hL 
                        try simp only [fill, slotOf, List.size_toArray, List.length_cons, List.length_nil, Nat.reduceAdd, List.getElem?_toArray, List.getElem?_cons_zero, List.getElem?_cons_succ, Option.bind_some, Act.put, List.setIfInBounds_toArray, List.set_cons_zero, List.set_cons_succ] at hK ⊢
                        go_simp
                        exact hK (.slice (some ⟨bs, 0, none⟩) mS cpS) _ (HI9.out.put 0 _ (by decide) rfl) _ rfl
                      · obtain rfl := Option.some.inj ho.symm
                        clear hdep ho hI hL 
                        try simp only [fill, slotOf, List.size_toArray, List.length_cons, List.length_nil, Nat.reduceAdd, List.getElem?_toArray, List.getElem?_cons_zero, List.getElem?_cons_succ, Option.bind_some, Act.put, List.setIfInBounds_toArray, List.set_cons_zero, List.set_cons_succ] at hK ⊢
                        go_simp
                        exact hK (.int .i64 (i : Int)) _ (HI9.out.put 1 _ (by decide) rfl) _ rfl
                      · obtain rfl := Option.some.inj ho.symm
                        clear hdep ho hI hL 
                        try simp only [fill, slotOf, List.size_toArray, List.length_cons, List.length_nil, Nat.reduceAdd, List.getElem?_toArray, List.getElem?_cons_zero, List.getElem?_cons_succ, Option.bind_some, Act.put, List.setIfInBounds_toArray, List.set_cons_zero, List.set_cons_succ] at hK ⊢
                        go_simp
                        exact hK (.slice (some ⟨bs, 0, none⟩) mS cpS) _ (HI9.out.put 2 _ (by decide) rfl) _ rfl
                      · obtain rfl := Option.some.inj ho.symm
                        clear hdep ho hI hL 
                        try simp only [fill, slotOf, List.size_toArray, List.length_cons, List.length_nil, Nat.reduceAdd, List.getElem?_toArray, List.getElem?_cons_zero, List.getElem?_cons_succ, Option.bind_some, Act.put, List.setIfInBounds_toArray, List.set_cons_zero, List.set_cons_succ] at hK ⊢
                        go_simp
                        exact hK (.int .i64 (i : Int)) _ (HI9.out.put 3 _ (by decide) rfl) _ rfl
                      · obtain rfl := Option.some.inj ho.symm
                        have d2 : V 2 = .slice (some ⟨bs, 0, none⟩) mS cpS := hI.val 2 (hdep ⟨2, .data⟩ (by simp) rfl)
                        have d3 : V 3 = .int .i64 (i : Int) := hI.val 3 (hdep ⟨3, .data⟩ (by simp) rfl)
                        clear hdep ho hI hL 
                        try simp only [fill, slotOf, List.size_toArray, List.length_cons, List.length_nil, Nat.reduceAdd, List.getElem?_toArray, List.getElem?_cons_zero, List.getElem?_cons_succ, Option.bind_some, Act.put, List.setIfInBounds_toArray, List.set_cons_zero, List.set_cons_succ] at hK ⊢
                        rw [d2, d3] at hK ⊢
                        go_simp
                        exact hK (.pointer (some ⟨bs, i * 3, none⟩)) _ (HI9.out.put 4 _ (by decide) rfl) _ rfl
                      · obtain rfl := Option.some.inj ho.symm
                        have d4 : V 4 = .pointer (some ⟨bs, i * 3, none⟩) := hI.val 4 (hdep ⟨4, .data⟩ (by simp) rfl)
                        clear hdep ho hI hL 
                        try simp only [fill, slotOf, List.size_toArray, List.length_cons, List.length_nil, Nat.reduceAdd, List.getElem?_toArray, List.getElem?_cons_zero, List.getElem?_cons_succ, Option.bind_some, Act.put, List.setIfInBounds_toArray, List.set_cons_zero, List.set_cons_succ] at hK ⊢
                        rw [d4] at hK ⊢
                        go_simp
                        exact hK (.pointer (some ⟨bs, i * 3 + 2, none⟩)) _ (HI9.out.put 5 _ (by decide) rfl) _ rfl
                      · obtain rfl := Option.some.inj ho.symm
                        have d5 : V 5 = .pointer (some ⟨bs, i * 3 + 2, none⟩) := hI.val 5 (hdep ⟨5, .data⟩ (by simp) rfl)
                        have cc : w9.cell? ⟨bs, i * 3 + 2, none⟩ = some (.slice g.a g.n g.c) := ((hI.sA (hI.no9 (.inl hL))).1.cell (p := ⟨bs, i * 3 + 2, none⟩) HLP.out).trans HCG.out
                        clear hdep ho hI hL 
                        try simp only [fill, slotOf, List.size_toArray, List.length_cons, List.length_nil, Nat.reduceAdd, List.getElem?_toArray, List.getElem?_cons_zero, List.getElem?_cons_succ, Option.bind_some, Act.put, List.setIfInBounds_toArray, List.set_cons_zero, List.set_cons_succ] at hK ⊢
                        rw [d5] at hK ⊢
                        go_simp
                        exact hK (.slice g.a g.n g.c) _ (HI9.out.put 6 _ (by decide) rfl) _ rfl
                      · obtain rfl := Option.some.inj ho.symm
                        have hxb := HAX.out _ _ _ hI
                        have s0 : w9.cell? ⟨bx, 0, none⟩ = some (.int .i64 x.r.kind) := cell_blk hxb rfl
                        have s1 : w9.cell? ⟨bx, 1, none⟩ = some (.int .i64 x.r.time) := cell_blk hxb rfl
                        have s2 : w9.cell? ⟨bx, 2, none⟩ = some (.slice x.r.la x.r.ln x.r.lc) := cell_blk hxb rfl
                        have s3 : w9.cell? ⟨bx, 3, none⟩ = some (.string x.r.text) := cell_blk hxb rfl
                        have s4 : w9.cell? ⟨bx, 4, none⟩ = some (.int .i64 x.r.value) := cell_blk hxb rfl
                        have s5 : w9.cell? ⟨bx, 5, none⟩ = some (.bool x.r.null) := cell_blk hxb rfl
                        have s6 : w9.cell? ⟨bx, 6, none⟩ = some (.int .i64 x.who) := cell_blk hxb rfl
                        have s7 : w9.cell? ⟨bx, 7, none⟩ = some (.int .i64 x.sq) := cell_blk hxb rfl
                        have s8 : w9.cell? ⟨bx, 8, none⟩ = some (.int .i64 x.pl) := cell_blk hxb rfl
                        clear hdep ho hI hL hxb
                        try simp only [fill, slotOf, List.size_toArray, List.length_cons, List.length_nil, Nat.reduceAdd, List.getElem?_toArray, List.getElem?_cons_zero, List.getElem?_cons_succ, Option.bind_some, Act.put, List.setIfInBounds_toArray, List.set_cons_zero, List.set_cons_succ] at hK ⊢
                        go_simp
                        exact hK (.agg #[.int .i64 x.r.kind, .int .i64 x.r.time, .slice x.r.la x.r.ln x.r.lc, .string x.r.text, .int .i64 x.r.value, .bool x.r.null, .int .i64 x.who, .int .i64 x.sq, .int .i64 x.pl]) _ (HI9.out.put 7 _ (by decide) rfl) _ rfl
                      · obtain rfl := Option.some.inj ho.symm
                        have d7 : V 7 = .agg #[.int .i64 x.r.kind, .int .i64 x.r.time, .slice x.r.la x.r.ln x.r.lc, .string x.r.text, .int .i64 x.r.value, .bool x.r.null, .int .i64 x.who, .int .i64 x.sq, .int .i64 x.pl] := hI.val 7 (hdep ⟨7, .data⟩ (by simp) rfl)
                        have HI4 := Lib.hid (hI.put8 hL)
                        clear hdep ho hI hL 
                        try simp only [fill, slotOf, List.size_toArray, List.length_cons, List.length_nil, Nat.reduceAdd, List.getElem?_toArray, List.getElem?_cons_zero, List.getElem?_cons_succ, Option.bind_some, Act.put, List.setIfInBounds_toArray, List.set_cons_zero, List.set_cons_succ] at hK ⊢
                        rw [d7] at hK ⊢
                        go_simp
                        exact hK (.slice (some ⟨w9.heap.size, 0, none⟩) 1 1) _ HI4.out _ rfl
                      · have hoo := Option.some.inj ho.symm
                        have d6 : V 6 = .slice g.a g.n g.c := hI.val 6 (hdep ⟨6, .data⟩ (by rw [hoo]; simp) rfl)
                        have l6 := hdep ⟨6, .data⟩ (by rw [hoo]; simp) rfl
                        have l8 := hdep ⟨8, .data⟩ (by rw [hoo]; simp) rfl
                        have hA := hI.sA hL
                        obtain ⟨bb, d8, hbb⟩ := hA.2 l8
                        have HOW := Lib.hid (own_below HGO.out hA.1)
                        have HBB := Lib.hid hbb
                        have HAB := Lib.hid hA.1
                        have hs9 := hA.1.size
                        have HL9 := Lib.hid hL
                        subst hoo
                        clear hdep ho hI hL hA hbb
                        try simp only [fill, slotOf, List.size_toArray, List.length_cons, List.length_nil, Nat.reduceAdd, List.getElem?_toArray, List.getElem?_cons_zero, List.getElem?_cons_succ, Option.bind_some, Act.put, List.setIfInBounds_toArray, List.set_cons_zero, List.set_cons_succ] at hK ⊢
                        rw [d6, d8] at hK ⊢
                        refine step_append_own_b (by first | rfl | kernel_rfl) (.tmp 110) (.tmp 112) 58 rfl w3.heap.size 62 i0 _ 9 96 Try.underlying58 hi hz0 hz1 hz2 rfl (by decide) (.slice g.a g.n g.c) g.n (rcells g.rows) (by rfl) HOW.out ⟨bb, 0, none⟩ 1 1 (RowV.cells x) (by rfl) rfl HBB.out (rcells_one _) (by unfold maxLen; omega) (by omega) (Nat.le_trans HBASE.out hs9) ?_
                        intro vN wA hownA hgrowA hlocA
                        obtain ⟨gN, cN, rfl⟩ := own_some2 hownA (by omega)
                        exact hK (.slice (some ⟨gN, 0, none⟩) (g.n + 1) cN) _ (HI9.out.put9 HL9.out l6 l8 ⟨_, _, w9.heap.size, rfl, hownA, grown_low HAB.out hgrowA, hlocA, hs9⟩) _ rfl
                      · obtain rfl := Option.some.inj ho.symm
                        have d0 : V 0 = .slice (some ⟨bs, 0, none⟩) mS cpS := hI.val 0 (hdep ⟨0, .data⟩ (by simp) rfl)
                        have d1 : V 1 = .int .i64 (i : Int) := hI.val 1 (hdep ⟨1, .data⟩ (by simp) rfl)
                        clear hdep ho hI hL 
                        try simp only [fill, slotOf, List.size_toArray, List.length_cons, List.length_nil, Nat.reduceAdd, List.getElem?_toArray, List.getElem?_cons_zero, List.getElem?_cons_succ, Option.bind_some, Act.put, List.setIfInBounds_toArray, List.set_cons_zero, List.set_cons_succ] at hK ⊢
                        rw [d0, d1] at hK ⊢
                        go_simp
                        exact hK (.pointer (some ⟨bs, i * 3, none⟩)) _ (HI9.out.put 10 _ (by decide) rfl) _ rfl
                      · obtain rfl := Option.some.inj ho.symm
                        have d10 : V 10 = .pointer (some ⟨bs, i * 3, none⟩) := hI.val 10 (hdep ⟨10, .data⟩ (by simp) rfl)
                        clear hdep ho hI hL 
                        try simp only [fill, slotOf, List.size_toArray, List.length_cons, List.length_nil, Nat.reduceAdd, List.getElem?_toArray, List.getElem?_cons_zero, List.getElem?_cons_succ, Option.bind_some, Act.put, List.setIfInBounds_toArray, List.set_cons_zero, List.set_cons_succ] at hK ⊢
                        rw [d10] at hK ⊢
                        go_simp
                        exact hK (.pointer (some ⟨bs, i * 3 + 2, none⟩)) _ (HI9.out.put 11 _ (by decide) rfl) _ rfl
                      · have hoo := Option.some.inj ho.symm
                        have d11 : V 11 = .pointer (some ⟨bs, i * 3 + 2, none⟩) := hI.val 11 (hdep ⟨11, .data⟩ (by rw [hoo]; simp) rfl)
                        have l9 := hdep ⟨9, .data⟩ (by rw [hoo]; simp) rfl
                        have hB := hI.sB l9 hL
                        obtain ⟨aN, cN, BN, d9, ho11, hg11, hlo11, hB11⟩ := hB
                        have hblk9 := (hg11.block bs HLP.out HTYP.out).trans HCSQ.out
                        have cc : w9.cell? ⟨bs, i * 3 + 2, none⟩ = some (.slice g.a g.n g.c) := by rw [← HCG.out]; unfold World.cell?; simp only [hblk9, HCSQ.out]
                        have ff : w9.frozen? ⟨bs, i * 3 + 2, none⟩ = false := by simp [World.frozen?, hblk9]
                        have HI4 := Lib.hid (hI.put12 l9 hL undef)
                        rw [d9] at HI4
                        subst hoo
                        clear hdep ho hI hL ho11 hg11 hlo11 hB11 hblk9 l9
                        try simp only [fill, slotOf, List.size_toArray, List.length_cons, List.length_nil, Nat.reduceAdd, List.getElem?_toArray, List.getElem?_cons_zero, List.getElem?_cons_succ, Option.bind_some, Act.put, List.setIfInBounds_toArray, List.set_cons_zero, List.set_cons_succ] at hK ⊢
                        rw [d11, d9] at hK ⊢
                        go_simp
                        exact hK (undef) _ HI4.out _ rfl
                    · intro L9 V w9 hI hall
                      obtain ⟨wA, vN, hStB, hw9⟩ := hI.sC (hall 12 (by decide))
                      obtain ⟨aN, cN, BN, rfl, ho11, hg11, hlo11, hB11⟩ := hStB
                      have HW9 := Lib.hid hw9
                      have HO11 := Lib.hid ho11
                      have HG11 := Lib.hid hg11
                      have HL11 := Lib.hid hlo11
                      have HB11 := Lib.hid hB11
                      clear hall hI hw9 ho11 hg11 hlo11 hB11
                      simp only [fill, slotOf, List.size_toArray, List.length_cons, List.length_nil, Nat.reduceAdd, List.getElem?_toArray, List.getElem?_cons_zero, List.getElem?_cons_succ, Option.bind_some, Act.put, List.setIfInBounds_toArray, List.set_cons_zero, List.set_cons_succ]
                      have hnx := RsI.next HRG.out HG.out.1 HG.out.2 HB3.out.size HBELS.out HBEL3S.out HFEW.out HMKS.out HUPS.out HB11.out HO11.out HG11.out HL11.out (HINVS.out aN cN)
                      rw [← HW9.out] at hnx
                      have HNX := Lib.hid hnx
                      clear hnx
                      go_wp2_with fail
                      go_roundw
                      case rel => exact ⟨k + 1, mS, cpS, _, _, by omega, by go_num, rfl, HNX⟩
                      case measure => simp [intOf]; omega
                  · have cpp0 : (gpt.toList == pt.toList) = false := by
                      rw [beq_eq_false_iff_ne]
                      exact fun e => c5 (ByteArray.ext (Array.toList_inj.1 (by rw [← ByteArray.toList_eq, ← ByteArray.toList_eq]; exact e)))
                    have HGT := Lib.hid (show ltK (q, pt) (q, gpt) = true from ltK_total (fun e => c5 (Prod.mk.inj e).2) (by unfold ltK; simp [Bool.eq_false_iff.2 c4]))
                    clear c4 c5
                    have HS0 := Lib.hid (HG9.out.out)
                    have hwn : wq.heap.size + 1 = (wq.alloc (.cells #[] 73)).heap.size := by show _ = (wq.heap.push _).size; rw [Array.size_push]
                    have HO1 := Lib.hid (World.ownsRow_lit (base := wq.heap.size) (e := 73) (size := 3) wq #[] 0 (Nat.le_refl _) (by unfold maxLen; omega) rfl)
                    have hro := HG9.out.room
                    have hro1 := hro.1
                    have hro2 := hro.2
                    have hic : i ≤ cp := Nat.le_trans him hro1
                    clear hro
                    have HSF := Lib.hid (show ∀ j u, (gcells (gs.take i))[j]? = some u → (wq.alloc (.cells #[] 73)).cell? ((⟨bo, 0, none⟩ : Addr).add j) = some u from (HG9.out.below ((Below.refl _ _).alloc (Nat.le_refl _) _)).front i)
                    have HTL := Lib.hid (show (gcells (gs.take i)).length = i * 3 from by rw [gcells_len, List.length_take, ← HML.out, Nat.min_eq_left (by omega)])
                    clear hwn
                    go_wp2_with (at_builtin; refine wpList_append_own_at _ rfl (.tmp 88) (.tmp 91) 69 rfl wq.heap.size 73 k0 _ 3 48 Try.underlying69 pi pz0 pz1 pz2 rfl (by decide) _ 0 [] rfl HO1.out ⟨bo, 0, none⟩ i cp (gcells (gs.take i)) rfl HTL.out HSF.out (gcells_all _) (by unfold maxLen; omega) (by omega) (by simp) ?_)
                    intro v1 wA1 ho1 hg1 hl1 _
                    have HBA1 := Lib.hid (show Below wq.heap.size wq wA1 from below_own ((Below.refl wq.heap.size wq).alloc (Nat.le_refl _) _) HO1.out hg1 (Nat.le_refl _) (by simp))
                    have HO2 := Lib.hid (ho1.alloc (.cells #[.int .i64 q, .string pt, .slice none 0 0] 73))
                    have HSR2 := Lib.hid (grp_src wA1 ⟨0, q, pt, none, 0, 0, []⟩ 73)
                    have hsA := HBA1.out.size
                    have HSA := Lib.hid hsA
                    have HBB1 := Lib.hid (HBA1.out.alloc hsA (.cells #[.int .i64 q, .string pt, .slice none 0 0] 73))
                    clear ho1 hg1 hl1 hsA
                    go_wp2_with (at_builtin; refine wpList_append_own_at _ rfl (.tmp 93) (.tmp 97) 69 rfl wq.heap.size 73 k0 _ 3 48 Try.underlying69 pi pz0 pz1 pz2 rfl (by decide) _ i _ rfl HO2.out ⟨wA1.heap.size, 0, none⟩ 1 1 (GV.cells ⟨0, q, pt, none, 0, 0, []⟩) rfl rfl HSR2.out (gcells_one _) (by unfold maxLen; omega) (by omega) (Nat.le_trans HSA.out (by simp)) ?_)
                    intro v2 wA2 ho2 hg2 _ _
                    have HBA2 := Lib.hid (show Below wq.heap.size wq wA2 from below_own HBB1.out HO2.out hg2 (Nat.le_refl _) (Nat.le_trans HSA.out (by simp)))
                    have HO3 := Lib.hid ho2
                    clear ho2 hg2

                    have HSB := Lib.hid (show ∀ j u, (gcells (gs.drop i))[j]? = some u → wA2.cell? ((⟨bo, i * 3, none⟩ : Addr).add j) = some u from (HG9.out.below HBA2.out).back him)
                    have HDL := Lib.hid (show (gcells (gs.drop i)).length = (m' - i) * 3 from by rw [gcells_len, List.length_drop, ← HML.out])
                    have hs2 := HBA2.out.size
                    have HS2 := Lib.hid hs2
                    clear hs2
                    go_wp2_with (at_builtin; refine wpList_append_own_at _ rfl (.tmp 99) (.tmp 102) 69 rfl wq.heap.size 73 k0 _ 3 48 Try.underlying69 pi pz0 pz1 pz2 rfl (by decide) _ (i + 1) _ rfl HO3.out ⟨bo, i * 3, none⟩ (m' - i) (cp - i) (gcells (gs.drop i)) rfl HDL.out HSB.out (gcells_all _) (by unfold maxLen; omega) (by omega) HS2.out ?_)
                    intro v3 wS ho3 hg3 _ _
                    have hn3 : i + 1 + (m' - i) = m' + 1 := by omega
                    rw [hn3] at ho3
                    clear hn3
                    obtain ⟨bs, cpS, hvE⟩ := own_some2 ho3 (by omega)
                    subst hvE
                    have HBS3 := Lib.hid (show Below wq.heap.size wq wS from below_own HBA2.out HO3.out hg3 (Nat.le_refl _) HS2.out)
                    obtain ⟨g, hgE⟩ : ∃ g : GV, g = ⟨0, q, pt, none, 0, 0, []⟩ := ⟨_, rfl⟩
                    obtain ⟨mS, hmS⟩ : ∃ mS, mS = m' + 1 := ⟨_, rfl⟩
                    have hil : i ≤ gs.length := by rw [← HML.out]; exact him
                    have hw3q : w3.heap.size ≤ wq.heap.size := Nat.le_trans HI.out.bel3.size HB5.out.size
                    have hrg := RGOwn.ins (base := w3.heap.size) (k := i) (g := g) (fun h => (HI.out.own3 h).below HB5.out) HI.out.own.len HBS3.out (by rw [hgE]; exact ⟨rfl, rfl, rfl, rfl⟩) (by rw [gcells_ins, hgE, List.append_assoc]; exact ho3.mono hw3q)
                    have hup := ins_rising (g := g) HI.out.up hil (fun j hj hji => by
                      have h1 := HLT.out j hji
                      rw [show gs.getD j grp0 = gs[j] from by simp [hj]] at h1
                      rw [hgE]; exact h1) (fun hi2 => by rw [hgE, show gs[i] = gs.getD i grp0 from by simp [hi2], ← HGE.out]; exact HGT.out)
                    obtain ⟨GS, hGS⟩ : ∃ GS, GS = gs.take i ++ g :: gs.drop i := ⟨_, rfl⟩
                    have HG := Lib.hid (show ∃ hj : i < GS.length, GS[i] = g from by rw [hGS]; exact ins_at hil)
                    have HFEW := Lib.hid (show ∀ y ∈ GS, y.n ≤ k from by rw [hGS]; exact ins_few HI.out.few (by rw [hgE]))
                    have HINVS := Lib.hid (show ∀ a9 c9, Gath.Inv (plS win ss) ((GS.set i (g.more a9 c9 x)).map GV.pair) (rs.take (k + 1)) from fun a9 c9 => by
                      rw [hGS, take_snoc (by rw [HRL.out]; exact hkn) HX.out]
                      exact ins_inv HI.out.inv hil hup (by rw [HKEY.out, hgE]; rfl) (by rw [hgE]) a9 c9)
                    rw [← hGS] at hrg hup
                    rw [← hmS] at hrg
                    have HRG := Lib.hid hrg
                    have HUPS := Lib.hid hup
                    have HXS := Lib.hid ((HBS3.out.block bx (Array.getElem?_eq_some_iff.1 HX5.out).1).trans HX5.out)
                    have HB3S := Lib.hid (Nat.le_trans hw3q HBS3.out.size)
                    have HBXN := Lib.hid (show some bx ≠ g.v.ownBlock from by rw [hgE]; simp [GV.v, Value.ownBlock])
                    have hb59 := HB5.out.trans (HBS3.out.mono HB5.out.size)
                    have HBELS := Lib.hid (HI.out.bel.trans (hb59.mono HI.out.bel.size))
                    have HBEL3S := Lib.hid (HI.out.bel3.trans (hb59.mono HI.out.bel3.size))
                    have HMKS := Lib.hid (show mS ≤ k + 1 from by omega)
                    have hiS : i < mS := by omega
                    have hms : mS ≤ 1001 := by omega
                    rw [← hmS]
                    have HMS := Lib.hid hmS
                    clear ho3 hg3 hgE hmS hil hw3q hrg hup hGS hb59
                    go_wp2_with fail
                    have hgm : g ∈ GS := by rw [← HG.out.2]; exact List.getElem_mem _
                    have hgo := (HRG.out.own g hgm).1
                    obtain ⟨bq, hbq, hbl3, hbls, hmc3, hkind, hgc3⟩ := HRG.out.form (by omega)
                    obtain rfl : bs = bq := by cases hbq; rfl
                    obtain ⟨csq, hcsq⟩ := hkind
                    have hbsn : some bs ≠ g.v.ownBlock := fun e => by
                      obtain ⟨cs, hcs⟩ := own_blk hgo e.symm
                      rw [hcsq] at hcs
                      have h2 := (Obj.cells.injEq .. ▸ Option.some.inj hcs)
                      have h3 : (73 : TypeId) = 62 := h2.2.1
                      exact absurd h3 (by decide)
                    have hbxs : bx ≠ bs := fun e => by
                      have h1 := HXS.out
                      rw [e, hcsq] at h1
                      have h2 := (Obj.cells.injEq .. ▸ Option.some.inj h1)
                      have h3 : (73 : TypeId) = 62 := h2.2.1
                      exact absurd h3 (by decide)
                    have hgd : GS.getD i grp0 = g := by
                      obtain ⟨hj, e⟩ := HG.out
                      rw [← e]; simp [hj]
                    have hcg : wS.cell? ⟨bs, i * 3 + 2, none⟩ = some (.slice g.a g.n g.c) := by
                      have h1 := hgc3 i hiS 2 (.slice g.a g.n g.c) (by rw [hgd]; rfl)
                      rw [Nat.zero_add] at h1
                      exact h1
                    have lx : bx < wS.heap.size := (Array.getElem?_eq_some_iff.1 HXS.out).1
                    have HAX := Lib.hid (show ∀ L7 V7 w9, RsR wS w3.heap.size bs i mS cpS g x L7 V7 w9 → w9.heap[bx]? = some (.cells #[.int .i64 x.r.kind, .int .i64 x.r.time, .slice x.r.la x.r.ln x.r.lc, .string x.r.text, .int .i64 x.r.value, .bool x.r.null, .int .i64 x.who, .int .i64 x.sq, .int .i64 x.pl] 62 (0, 0)) from fun L7 V7 w9 h => (h.keep lx HBXN.out hbxs).trans HXS.out)
                    have HGO := Lib.hid hgo
                    have HLP := Lib.hid hbls
                    have HCG := Lib.hid hcg
                    have HTYP := Lib.hid hbsn
                    have HCSQ := Lib.hid hcsq
                    have hgn : g.n ≤ 1000 := by have := HFEW.out g hgm; omega
                    have hiSi : (i : Int) < (mS : Int) := by omega
                    have HBASE := HB3S
                    clear hgm hgo hbq hbl3 hbls hmc3 hgc3 hcsq hbsn hbxs hgd hcg lx
                    refine wp_region_inv (by kernel_rfl) (by kernel_rfl) (by kernel_rfl) (RsR wS w3.heap.size bs i mS cpS g x) (fun V => RsR.start V) ?_ ?_
                    · intro j9 o ho L9 V w9 K hI hL hdep hK
                      have HI9 := Lib.hid hI
                      have hin : j9 < 13 := (Array.getElem?_eq_some_iff.1 ho).1
                      have hcs : j9 = 0 ∨ j9 = 1 ∨ j9 = 2 ∨ j9 = 3 ∨ j9 = 4 ∨ j9 = 5 ∨ j9 = 6 ∨ j9 = 7 ∨ j9 = 8 ∨ j9 = 9 ∨ j9 = 10 ∨ j9 = 11 ∨ j9 = 12 := by omega
                      clear hin
                      rcases hcs with rfl | rfl | rfl | rfl | rfl | rfl | rfl | rfl | rfl | rfl | rfl | rfl | rfl
                      · obtain rfl := Option.some.inj ho.symm
                        clear hdep ho hI hL 
                        try simp only [fill, slotOf, List.size_toArray, List.length_cons, List.length_nil, Nat.reduceAdd, List.getElem?_toArray, List.getElem?_cons_zero, List.getElem?_cons_succ, Option.bind_some, Act.put, List.setIfInBounds_toArray, List.set_cons_zero, List.set_cons_succ] at hK ⊢
                        go_simp
                        exact hK (.slice (some ⟨bs, 0, none⟩) mS cpS) _ (HI9.out.put 0 _ (by decide) rfl) _ rfl
                      · obtain rfl := Option.some.inj ho.symm
                        clear hdep ho hI hL 
                        try simp only [fill, slotOf, List.size_toArray, List.length_cons, List.length_nil, Nat.reduceAdd, List.getElem?_toArray, List.getElem?_cons_zero, List.getElem?_cons_succ, Option.bind_some, Act.put, List.setIfInBounds_toArray, List.set_cons_zero, List.set_cons_succ] at hK ⊢
                        go_simp
                        exact hK (.int .i64 (i : Int)) _ (HI9.out.put 1 _ (by decide) rfl) _ rfl
                      · obtain rfl := Option.some.inj ho.symm
                        clear hdep ho hI hL 
                        try simp only [fill, slotOf, List.size_toArray, List.length_cons, List.length_nil, Nat.reduceAdd, List.getElem?_toArray, List.getElem?_cons_zero, List.getElem?_cons_succ, Option.bind_some, Act.put, List.setIfInBounds_toArray, List.set_cons_zero, List.set_cons_succ] at hK ⊢
                        go_simp
                        exact hK (.slice (some ⟨bs, 0, none⟩) mS cpS) _ (HI9.out.put 2 _ (by decide) rfl) _ rfl
                      · obtain rfl := Option.some.inj ho.symm
                        clear hdep ho hI hL 
                        try simp only [fill, slotOf, List.size_toArray, List.length_cons, List.length_nil, Nat.reduceAdd, List.getElem?_toArray, List.getElem?_cons_zero, List.getElem?_cons_succ, Option.bind_some, Act.put, List.setIfInBounds_toArray, List.set_cons_zero, List.set_cons_succ] at hK ⊢
                        go_simp
                        exact hK (.int .i64 (i : Int)) _ (HI9.out.put 3 _ (by decide) rfl) _ rfl
                      · obtain rfl := Option.some.inj ho.symm
                        have d2 : V 2 = .slice (some ⟨bs, 0, none⟩) mS cpS := hI.val 2 (hdep ⟨2, .data⟩ (by simp) rfl)
                        have d3 : V 3 = .int .i64 (i : Int) := hI.val 3 (hdep ⟨3, .data⟩ (by simp) rfl)
                        clear hdep ho hI hL 
                        try simp only [fill, slotOf, List.size_toArray, List.length_cons, List.length_nil, Nat.reduceAdd, List.getElem?_toArray, List.getElem?_cons_zero, List.getElem?_cons_succ, Option.bind_some, Act.put, List.setIfInBounds_toArray, List.set_cons_zero, List.set_cons_succ] at hK ⊢
                        rw [d2, d3] at hK ⊢
                        go_simp
                        exact hK (.pointer (some ⟨bs, i * 3, none⟩)) _ (HI9.out.put 4 _ (by decide) rfl) _ rfl
                      · obtain rfl := Option.some.inj ho.symm
                        have d4 : V 4 = .pointer (some ⟨bs, i * 3, none⟩) := hI.val 4 (hdep ⟨4, .data⟩ (by simp) rfl)
                        clear hdep ho hI hL 
                        try simp only [fill, slotOf, List.size_toArray, List.length_cons, List.length_nil, Nat.reduceAdd, List.getElem?_toArray, List.getElem?_cons_zero, List.getElem?_cons_succ, Option.bind_some, Act.put, List.setIfInBounds_toArray, List.set_cons_zero, List.set_cons_succ] at hK ⊢
                        rw [d4] at hK ⊢
                        go_simp
                        exact hK (.pointer (some ⟨bs, i * 3 + 2, none⟩)) _ (HI9.out.put 5 _ (by decide) rfl) _ rfl
                      · obtain rfl := Option.some.inj ho.symm
                        have d5 : V 5 = .pointer (some ⟨bs, i * 3 + 2, none⟩) := hI.val 5 (hdep ⟨5, .data⟩ (by simp) rfl)
                        have cc : w9.cell? ⟨bs, i * 3 + 2, none⟩ = some (.slice g.a g.n g.c) := ((hI.sA (hI.no9 (.inl hL))).1.cell (p := ⟨bs, i * 3 + 2, none⟩) HLP.out).trans HCG.out
                        clear hdep ho hI hL 
                        try simp only [fill, slotOf, List.size_toArray, List.length_cons, List.length_nil, Nat.reduceAdd, List.getElem?_toArray, List.getElem?_cons_zero, List.getElem?_cons_succ, Option.bind_some, Act.put, List.setIfInBounds_toArray, List.set_cons_zero, List.set_cons_succ] at hK ⊢
                        rw [d5] at hK ⊢
                        go_simp
                        exact hK (.slice g.a g.n g.c) _ (HI9.out.put 6 _ (by decide) rfl) _ rfl
                      · obtain rfl := Option.some.inj ho.symm
                        have hxb := HAX.out _ _ _ hI
                        have s0 : w9.cell? ⟨bx, 0, none⟩ = some (.int .i64 x.r.kind) := cell_blk hxb rfl
                        have s1 : w9.cell? ⟨bx, 1, none⟩ = some (.int .i64 x.r.time) := cell_blk hxb rfl
                        have s2 : w9.cell? ⟨bx, 2, none⟩ = some (.slice x.r.la x.r.ln x.r.lc) := cell_blk hxb rfl
                        have s3 : w9.cell? ⟨bx, 3, none⟩ = some (.string x.r.text) := cell_blk hxb rfl
                        have s4 : w9.cell? ⟨bx, 4, none⟩ = some (.int .i64 x.r.value) := cell_blk hxb rfl
                        have s5 : w9.cell? ⟨bx, 5, none⟩ = some (.bool x.r.null) := cell_blk hxb rfl
                        have s6 : w9.cell? ⟨bx, 6, none⟩ = some (.int .i64 x.who) := cell_blk hxb rfl
                        have s7 : w9.cell? ⟨bx, 7, none⟩ = some (.int .i64 x.sq) := cell_blk hxb rfl
                        have s8 : w9.cell? ⟨bx, 8, none⟩ = some (.int .i64 x.pl) := cell_blk hxb rfl
                        clear hdep ho hI hL hxb
                        try simp only [fill, slotOf, List.size_toArray, List.length_cons, List.length_nil, Nat.reduceAdd, List.getElem?_toArray, List.getElem?_cons_zero, List.getElem?_cons_succ, Option.bind_some, Act.put, List.setIfInBounds_toArray, List.set_cons_zero, List.set_cons_succ] at hK ⊢
                        go_simp
                        exact hK (.agg #[.int .i64 x.r.kind, .int .i64 x.r.time, .slice x.r.la x.r.ln x.r.lc, .string x.r.text, .int .i64 x.r.value, .bool x.r.null, .int .i64 x.who, .int .i64 x.sq, .int .i64 x.pl]) _ (HI9.out.put 7 _ (by decide) rfl) _ rfl
                      · obtain rfl := Option.some.inj ho.symm
                        have d7 : V 7 = .agg #[.int .i64 x.r.kind, .int .i64 x.r.time, .slice x.r.la x.r.ln x.r.lc, .string x.r.text, .int .i64 x.r.value, .bool x.r.null, .int .i64 x.who, .int .i64 x.sq, .int .i64 x.pl] := hI.val 7 (hdep ⟨7, .data⟩ (by simp) rfl)
                        have HI4 := Lib.hid (hI.put8 hL)
                        clear hdep ho hI hL 
                        try simp only [fill, slotOf, List.size_toArray, List.length_cons, List.length_nil, Nat.reduceAdd, List.getElem?_toArray, List.getElem?_cons_zero, List.getElem?_cons_succ, Option.bind_some, Act.put, List.setIfInBounds_toArray, List.set_cons_zero, List.set_cons_succ] at hK ⊢
                        rw [d7] at hK ⊢
                        go_simp
                        exact hK (.slice (some ⟨w9.heap.size, 0, none⟩) 1 1) _ HI4.out _ rfl
                      · have hoo := Option.some.inj ho.symm
                        have d6 : V 6 = .slice g.a g.n g.c := hI.val 6 (hdep ⟨6, .data⟩ (by rw [hoo]; simp) rfl)
                        have l6 := hdep ⟨6, .data⟩ (by rw [hoo]; simp) rfl
                        have l8 := hdep ⟨8, .data⟩ (by rw [hoo]; simp) rfl
                        have hA := hI.sA hL
                        obtain ⟨bb, d8, hbb⟩ := hA.2 l8
                        have HOW := Lib.hid (own_below HGO.out hA.1)
                        have HBB := Lib.hid hbb
                        have HAB := Lib.hid hA.1
                        have hs9 := hA.1.size
                        have HL9 := Lib.hid hL
                        subst hoo
                        clear hdep ho hI hL hA hbb
                        try simp only [fill, slotOf, List.size_toArray, List.length_cons, List.length_nil, Nat.reduceAdd, List.getElem?_toArray, List.getElem?_cons_zero, List.getElem?_cons_succ, Option.bind_some, Act.put, List.setIfInBounds_toArray, List.set_cons_zero, List.set_cons_succ] at hK ⊢
                        rw [d6, d8] at hK ⊢
                        refine step_append_own_b (by first | rfl | kernel_rfl) (.tmp 110) (.tmp 112) 58 rfl w3.heap.size 62 i0 _ 9 96 Try.underlying58 hi hz0 hz1 hz2 rfl (by decide) (.slice g.a g.n g.c) g.n (rcells g.rows) (by rfl) HOW.out ⟨bb, 0, none⟩ 1 1 (RowV.cells x) (by rfl) rfl HBB.out (rcells_one _) (by unfold maxLen; omega) (by omega) (Nat.le_trans HBASE.out hs9) ?_
                        intro vN wA hownA hgrowA hlocA
                        obtain ⟨gN, cN, rfl⟩ := own_some2 hownA (by omega)
                        exact hK (.slice (some ⟨gN, 0, none⟩) (g.n + 1) cN) _ (HI9.out.put9 HL9.out l6 l8 ⟨_, _, w9.heap.size, rfl, hownA, grown_low HAB.out hgrowA, hlocA, hs9⟩) _ rfl
                      · obtain rfl := Option.some.inj ho.symm
                        have d0 : V 0 = .slice (some ⟨bs, 0, none⟩) mS cpS := hI.val 0 (hdep ⟨0, .data⟩ (by simp) rfl)
                        have d1 : V 1 = .int .i64 (i : Int) := hI.val 1 (hdep ⟨1, .data⟩ (by simp) rfl)
                        clear hdep ho hI hL 
                        try simp only [fill, slotOf, List.size_toArray, List.length_cons, List.length_nil, Nat.reduceAdd, List.getElem?_toArray, List.getElem?_cons_zero, List.getElem?_cons_succ, Option.bind_some, Act.put, List.setIfInBounds_toArray, List.set_cons_zero, List.set_cons_succ] at hK ⊢
                        rw [d0, d1] at hK ⊢
                        go_simp
                        exact hK (.pointer (some ⟨bs, i * 3, none⟩)) _ (HI9.out.put 10 _ (by decide) rfl) _ rfl
                      · obtain rfl := Option.some.inj ho.symm
                        have d10 : V 10 = .pointer (some ⟨bs, i * 3, none⟩) := hI.val 10 (hdep ⟨10, .data⟩ (by simp) rfl)
                        clear hdep ho hI hL 
                        try simp only [fill, slotOf, List.size_toArray, List.length_cons, List.length_nil, Nat.reduceAdd, List.getElem?_toArray, List.getElem?_cons_zero, List.getElem?_cons_succ, Option.bind_some, Act.put, List.setIfInBounds_toArray, List.set_cons_zero, List.set_cons_succ] at hK ⊢
                        rw [d10] at hK ⊢
                        go_simp
                        exact hK (.pointer (some ⟨bs, i * 3 + 2, none⟩)) _ (HI9.out.put 11 _ (by decide) rfl) _ rfl
                      · have hoo := Option.some.inj ho.symm
                        have d11 : V 11 = .pointer (some ⟨bs, i * 3 + 2, none⟩) := hI.val 11 (hdep ⟨11, .data⟩ (by rw [hoo]; simp) rfl)
                        have l9 := hdep ⟨9, .data⟩ (by rw [hoo]; simp) rfl
                        have hB := hI.sB l9 hL
                        obtain ⟨aN, cN, BN, d9, ho11, hg11, hlo11, hB11⟩ := hB
                        have hblk9 := (hg11.block bs HLP.out HTYP.out).trans HCSQ.out
                        have cc : w9.cell? ⟨bs, i * 3 + 2, none⟩ = some (.slice g.a g.n g.c) := by rw [← HCG.out]; unfold World.cell?; simp only [hblk9, HCSQ.out]
                        have ff : w9.frozen? ⟨bs, i * 3 + 2, none⟩ = false := by simp [World.frozen?, hblk9]
                        have HI4 := Lib.hid (hI.put12 l9 hL undef)
                        rw [d9] at HI4
                        subst hoo
                        clear hdep ho hI hL ho11 hg11 hlo11 hB11 hblk9 l9
                        try simp only [fill, slotOf, List.size_toArray, List.length_cons, List.length_nil, Nat.reduceAdd, List.getElem?_toArray, List.getElem?_cons_zero, List.getElem?_cons_succ, Option.bind_some, Act.put, List.setIfInBounds_toArray, List.set_cons_zero, List.set_cons_succ] at hK ⊢
                        rw [d11, d9] at hK ⊢
                        go_simp
                        exact hK (undef) _ HI4.out _ rfl
                    · intro L9 V w9 hI hall
                      obtain ⟨wA, vN, hStB, hw9⟩ := hI.sC (hall 12 (by decide))
                      obtain ⟨aN, cN, BN, rfl, ho11, hg11, hlo11, hB11⟩ := hStB
                      have HW9 := Lib.hid hw9
                      have HO11 := Lib.hid ho11
                      have HG11 := Lib.hid hg11
                      have HL11 := Lib.hid hlo11
                      have HB11 := Lib.hid hB11
                      clear hall hI hw9 ho11 hg11 hlo11 hB11
                      simp only [fill, slotOf, List.size_toArray, List.length_cons, List.length_nil, Nat.reduceAdd, List.getElem?_toArray, List.getElem?_cons_zero, List.getElem?_cons_succ, Option.bind_some, Act.put, List.setIfInBounds_toArray, List.set_cons_zero, List.set_cons_succ]
                      have hnx := RsI.next HRG.out HG.out.1 HG.out.2 HB3.out.size HBELS.out HBEL3S.out HFEW.out HMKS.out HUPS.out HB11.out HO11.out HG11.out HL11.out (HINVS.out aN cN)
                      rw [← HW9.out] at hnx
                      have HNX := Lib.hid hnx
                      clear hnx
                      go_wp2_with fail
                      go_roundw
                      case rel => exact ⟨k + 1, mS, cpS, _, _, by omega, by go_num, rfl, HNX⟩
                      case measure => simp [intOf]; omega
              · have c6 : q < gw := by omega
                have HGT := Lib.hid (show ltK (q, pt) (gw, gpt) = true from by unfold ltK; simp [c6])
                have cqq : (gw == q) = false := by rw [beq_eq_false_iff_ne]; exact c3
                have cqn : (gw != q) = true := by rw [bne_iff_ne]; exact c3
                clear c6
                have HS0 := Lib.hid (HG9.out.out)
                have hwn : wq.heap.size + 1 = (wq.alloc (.cells #[] 73)).heap.size := by show _ = (wq.heap.push _).size; rw [Array.size_push]
                have HO1 := Lib.hid (World.ownsRow_lit (base := wq.heap.size) (e := 73) (size := 3) wq #[] 0 (Nat.le_refl _) (by unfold maxLen; omega) rfl)
                have hro := HG9.out.room
                have hro1 := hro.1
                have hro2 := hro.2
                have hic : i ≤ cp := Nat.le_trans him hro1
                clear hro
                have HSF := Lib.hid (show ∀ j u, (gcells (gs.take i))[j]? = some u → (wq.alloc (.cells #[] 73)).cell? ((⟨bo, 0, none⟩ : Addr).add j) = some u from (HG9.out.below ((Below.refl _ _).alloc (Nat.le_refl _) _)).front i)
                have HTL := Lib.hid (show (gcells (gs.take i)).length = i * 3 from by rw [gcells_len, List.length_take, ← HML.out, Nat.min_eq_left (by omega)])
                clear hwn
                go_wp2_with (at_builtin; refine wpList_append_own_at _ rfl (.tmp 88) (.tmp 91) 69 rfl wq.heap.size 73 k0 _ 3 48 Try.underlying69 pi pz0 pz1 pz2 rfl (by decide) _ 0 [] rfl HO1.out ⟨bo, 0, none⟩ i cp (gcells (gs.take i)) rfl HTL.out HSF.out (gcells_all _) (by unfold maxLen; omega) (by omega) (by simp) ?_)
                intro v1 wA1 ho1 hg1 hl1 _
                have HBA1 := Lib.hid (show Below wq.heap.size wq wA1 from below_own ((Below.refl wq.heap.size wq).alloc (Nat.le_refl _) _) HO1.out hg1 (Nat.le_refl _) (by simp))
                have HO2 := Lib.hid (ho1.alloc (.cells #[.int .i64 q, .string pt, .slice none 0 0] 73))
                have HSR2 := Lib.hid (grp_src wA1 ⟨0, q, pt, none, 0, 0, []⟩ 73)
                have hsA := HBA1.out.size
                have HSA := Lib.hid hsA
                have HBB1 := Lib.hid (HBA1.out.alloc hsA (.cells #[.int .i64 q, .string pt, .slice none 0 0] 73))
                clear ho1 hg1 hl1 hsA
                go_wp2_with (at_builtin; refine wpList_append_own_at _ rfl (.tmp 93) (.tmp 97) 69 rfl wq.heap.size 73 k0 _ 3 48 Try.underlying69 pi pz0 pz1 pz2 rfl (by decide) _ i _ rfl HO2.out ⟨wA1.heap.size, 0, none⟩ 1 1 (GV.cells ⟨0, q, pt, none, 0, 0, []⟩) rfl rfl HSR2.out (gcells_one _) (by unfold maxLen; omega) (by omega) (Nat.le_trans HSA.out (by simp)) ?_)
                intro v2 wA2 ho2 hg2 _ _
                have HBA2 := Lib.hid (show Below wq.heap.size wq wA2 from below_own HBB1.out HO2.out hg2 (Nat.le_refl _) (Nat.le_trans HSA.out (by simp)))
                have HO3 := Lib.hid ho2
                clear ho2 hg2

                have HSB := Lib.hid (show ∀ j u, (gcells (gs.drop i))[j]? = some u → wA2.cell? ((⟨bo, i * 3, none⟩ : Addr).add j) = some u from (HG9.out.below HBA2.out).back him)
                have HDL := Lib.hid (show (gcells (gs.drop i)).length = (m' - i) * 3 from by rw [gcells_len, List.length_drop, ← HML.out])
                have hs2 := HBA2.out.size
                have HS2 := Lib.hid hs2
                clear hs2
                go_wp2_with (at_builtin; refine wpList_append_own_at _ rfl (.tmp 99) (.tmp 102) 69 rfl wq.heap.size 73 k0 _ 3 48 Try.underlying69 pi pz0 pz1 pz2 rfl (by decide) _ (i + 1) _ rfl HO3.out ⟨bo, i * 3, none⟩ (m' - i) (cp - i) (gcells (gs.drop i)) rfl HDL.out HSB.out (gcells_all _) (by unfold maxLen; omega) (by omega) HS2.out ?_)
                intro v3 wS ho3 hg3 _ _
                have hn3 : i + 1 + (m' - i) = m' + 1 := by omega
                rw [hn3] at ho3
                clear hn3
                obtain ⟨bs, cpS, hvE⟩ := own_some2 ho3 (by omega)
                subst hvE
                have HBS3 := Lib.hid (show Below wq.heap.size wq wS from below_own HBA2.out HO3.out hg3 (Nat.le_refl _) HS2.out)
                obtain ⟨g, hgE⟩ : ∃ g : GV, g = ⟨0, q, pt, none, 0, 0, []⟩ := ⟨_, rfl⟩
                obtain ⟨mS, hmS⟩ : ∃ mS, mS = m' + 1 := ⟨_, rfl⟩
                have hil : i ≤ gs.length := by rw [← HML.out]; exact him
                have hw3q : w3.heap.size ≤ wq.heap.size := Nat.le_trans HI.out.bel3.size HB5.out.size
                have hrg := RGOwn.ins (base := w3.heap.size) (k := i) (g := g) (fun h => (HI.out.own3 h).below HB5.out) HI.out.own.len HBS3.out (by rw [hgE]; exact ⟨rfl, rfl, rfl, rfl⟩) (by rw [gcells_ins, hgE, List.append_assoc]; exact ho3.mono hw3q)
                have hup := ins_rising (g := g) HI.out.up hil (fun j hj hji => by
                  have h1 := HLT.out j hji
                  rw [show gs.getD j grp0 = gs[j] from by simp [hj]] at h1
                  rw [hgE]; exact h1) (fun hi2 => by rw [hgE, show gs[i] = gs.getD i grp0 from by simp [hi2], ← HGE.out]; exact HGT.out)
                obtain ⟨GS, hGS⟩ : ∃ GS, GS = gs.take i ++ g :: gs.drop i := ⟨_, rfl⟩
                have HG := Lib.hid (show ∃ hj : i < GS.length, GS[i] = g from by rw [hGS]; exact ins_at hil)
                have HFEW := Lib.hid (show ∀ y ∈ GS, y.n ≤ k from by rw [hGS]; exact ins_few HI.out.few (by rw [hgE]))
                have HINVS := Lib.hid (show ∀ a9 c9, Gath.Inv (plS win ss) ((GS.set i (g.more a9 c9 x)).map GV.pair) (rs.take (k + 1)) from fun a9 c9 => by
                  rw [hGS, take_snoc (by rw [HRL.out]; exact hkn) HX.out]
                  exact ins_inv HI.out.inv hil hup (by rw [HKEY.out, hgE]; rfl) (by rw [hgE]) a9 c9)
                rw [← hGS] at hrg hup
                rw [← hmS] at hrg
                have HRG := Lib.hid hrg
                have HUPS := Lib.hid hup
                have HXS := Lib.hid ((HBS3.out.block bx (Array.getElem?_eq_some_iff.1 HX5.out).1).trans HX5.out)
                have HB3S := Lib.hid (Nat.le_trans hw3q HBS3.out.size)
                have HBXN := Lib.hid (show some bx ≠ g.v.ownBlock from by rw [hgE]; simp [GV.v, Value.ownBlock])
                have hb59 := HB5.out.trans (HBS3.out.mono HB5.out.size)
                have HBELS := Lib.hid (HI.out.bel.trans (hb59.mono HI.out.bel.size))
                have HBEL3S := Lib.hid (HI.out.bel3.trans (hb59.mono HI.out.bel3.size))
                have HMKS := Lib.hid (show mS ≤ k + 1 from by omega)
                have hiS : i < mS := by omega
                have hms : mS ≤ 1001 := by omega
                rw [← hmS]
                have HMS := Lib.hid hmS
                clear ho3 hg3 hgE hmS hil hw3q hrg hup hGS hb59
                go_wp2_with fail
                have hgm : g ∈ GS := by rw [← HG.out.2]; exact List.getElem_mem _
                have hgo := (HRG.out.own g hgm).1
                obtain ⟨bq, hbq, hbl3, hbls, hmc3, hkind, hgc3⟩ := HRG.out.form (by omega)
                obtain rfl : bs = bq := by cases hbq; rfl
                obtain ⟨csq, hcsq⟩ := hkind
                have hbsn : some bs ≠ g.v.ownBlock := fun e => by
                  obtain ⟨cs, hcs⟩ := own_blk hgo e.symm
                  rw [hcsq] at hcs
                  have h2 := (Obj.cells.injEq .. ▸ Option.some.inj hcs)
                  have h3 : (73 : TypeId) = 62 := h2.2.1
                  exact absurd h3 (by decide)
                have hbxs : bx ≠ bs := fun e => by
                  have h1 := HXS.out
                  rw [e, hcsq] at h1
                  have h2 := (Obj.cells.injEq .. ▸ Option.some.inj h1)
                  have h3 : (73 : TypeId) = 62 := h2.2.1
                  exact absurd h3 (by decide)
                have hgd : GS.getD i grp0 = g := by
                  obtain ⟨hj, e⟩ := HG.out
                  rw [← e]; simp [hj]
                have hcg : wS.cell? ⟨bs, i * 3 + 2, none⟩ = some (.slice g.a g.n g.c) := by
                  have h1 := hgc3 i hiS 2 (.slice g.a g.n g.c) (by rw [hgd]; rfl)
                  rw [Nat.zero_add] at h1
                  exact h1
                have lx : bx < wS.heap.size := (Array.getElem?_eq_some_iff.1 HXS.out).1
                have HAX := Lib.hid (show ∀ L7 V7 w9, RsR wS w3.heap.size bs i mS cpS g x L7 V7 w9 → w9.heap[bx]? = some (.cells #[.int .i64 x.r.kind, .int .i64 x.r.time, .slice x.r.la x.r.ln x.r.lc, .string x.r.text, .int .i64 x.r.value, .bool x.r.null, .int .i64 x.who, .int .i64 x.sq, .int .i64 x.pl] 62 (0, 0)) from fun L7 V7 w9 h => (h.keep lx HBXN.out hbxs).trans HXS.out)
                have HGO := Lib.hid hgo
                have HLP := Lib.hid hbls
                have HCG := Lib.hid hcg
                have HTYP := Lib.hid hbsn
                have HCSQ := Lib.hid hcsq
                have hgn : g.n ≤ 1000 := by have := HFEW.out g hgm; omega
                have hiSi : (i : Int) < (mS : Int) := by omega
                have HBASE := HB3S
                clear hgm hgo hbq hbl3 hbls hmc3 hgc3 hcsq hbsn hbxs hgd hcg lx
                refine wp_region_inv (by kernel_rfl) (by kernel_rfl) (by kernel_rfl) (RsR wS w3.heap.size bs i mS cpS g x) (fun V => RsR.start V) ?_ ?_
                · intro j9 o ho L9 V w9 K hI hL hdep hK
                  have HI9 := Lib.hid hI
                  have hin : j9 < 13 := (Array.getElem?_eq_some_iff.1 ho).1
                  have hcs : j9 = 0 ∨ j9 = 1 ∨ j9 = 2 ∨ j9 = 3 ∨ j9 = 4 ∨ j9 = 5 ∨ j9 = 6 ∨ j9 = 7 ∨ j9 = 8 ∨ j9 = 9 ∨ j9 = 10 ∨ j9 = 11 ∨ j9 = 12 := by omega
                  clear hin
                  rcases hcs with rfl | rfl | rfl | rfl | rfl | rfl | rfl | rfl | rfl | rfl | rfl | rfl | rfl
                  · obtain rfl := Option.some.inj ho.symm
                    clear hdep ho hI hL 
                    try simp only [fill, slotOf, List.size_toArray, List.length_cons, List.length_nil, Nat.reduceAdd, List.getElem?_toArray, List.getElem?_cons_zero, List.getElem?_cons_succ, Option.bind_some, Act.put, List.setIfInBounds_toArray, List.set_cons_zero, List.set_cons_succ] at hK ⊢
                    go_simp
                    exact hK (.slice (some ⟨bs, 0, none⟩) mS cpS) _ (HI9.out.put 0 _ (by decide) rfl) _ rfl
                  · obtain rfl := Option.some.inj ho.symm
                    clear hdep ho hI hL 
                    try simp only [fill, slotOf, List.size_toArray, List.length_cons, List.length_nil, Nat.reduceAdd, List.getElem?_toArray, List.getElem?_cons_zero, List.getElem?_cons_succ, Option.bind_some, Act.put, List.setIfInBounds_toArray, List.set_cons_zero, List.set_cons_succ] at hK ⊢
                    go_simp
                    exact hK (.int .i64 (i : Int)) _ (HI9.out.put 1 _ (by decide) rfl) _ rfl
                  · obtain rfl := Option.some.inj ho.symm
                    clear hdep ho hI hL 
                    try simp only [fill, slotOf, List.size_toArray, List.length_cons, List.length_nil, Nat.reduceAdd, List.getElem?_toArray, List.getElem?_cons_zero, List.getElem?_cons_succ, Option.bind_some, Act.put, List.setIfInBounds_toArray, List.set_cons_zero, List.set_cons_succ] at hK ⊢
                    go_simp
                    exact hK (.slice (some ⟨bs, 0, none⟩) mS cpS) _ (HI9.out.put 2 _ (by decide) rfl) _ rfl
                  · obtain rfl := Option.some.inj ho.symm
                    clear hdep ho hI hL 
                    try simp only [fill, slotOf, List.size_toArray, List.length_cons, List.length_nil, Nat.reduceAdd, List.getElem?_toArray, List.getElem?_cons_zero, List.getElem?_cons_succ, Option.bind_some, Act.put, List.setIfInBounds_toArray, List.set_cons_zero, List.set_cons_succ] at hK ⊢
                    go_simp
                    exact hK (.int .i64 (i : Int)) _ (HI9.out.put 3 _ (by decide) rfl) _ rfl
                  · obtain rfl := Option.some.inj ho.symm
                    have d2 : V 2 = .slice (some ⟨bs, 0, none⟩) mS cpS := hI.val 2 (hdep ⟨2, .data⟩ (by simp) rfl)
                    have d3 : V 3 = .int .i64 (i : Int) := hI.val 3 (hdep ⟨3, .data⟩ (by simp) rfl)
                    clear hdep ho hI hL 
                    try simp only [fill, slotOf, List.size_toArray, List.length_cons, List.length_nil, Nat.reduceAdd, List.getElem?_toArray, List.getElem?_cons_zero, List.getElem?_cons_succ, Option.bind_some, Act.put, List.setIfInBounds_toArray, List.set_cons_zero, List.set_cons_succ] at hK ⊢
                    rw [d2, d3] at hK ⊢
                    go_simp
                    exact hK (.pointer (some ⟨bs, i * 3, none⟩)) _ (HI9.out.put 4 _ (by decide) rfl) _ rfl
                  · obtain rfl := Option.some.inj ho.symm
                    have d4 : V 4 = .pointer (some ⟨bs, i * 3, none⟩) := hI.val 4 (hdep ⟨4, .data⟩ (by simp) rfl)
                    clear hdep ho hI hL 
                    try simp only [fill, slotOf, List.size_toArray, List.length_cons, List.length_nil, Nat.reduceAdd, List.getElem?_toArray, List.getElem?_cons_zero, List.getElem?_cons_succ, Option.bind_some, Act.put, List.setIfInBounds_toArray, List.set_cons_zero, List.set_cons_succ] at hK ⊢
                    rw [d4] at hK ⊢
                    go_simp
                    exact hK (.pointer (some ⟨bs, i * 3 + 2, none⟩)) _ (HI9.out.put 5 _ (by decide) rfl) _ rfl
                  · obtain rfl := Option.some.inj ho.symm
                    have d5 : V 5 = .pointer (some ⟨bs, i * 3 + 2, none⟩) := hI.val 5 (hdep ⟨5, .data⟩ (by simp) rfl)
                    have cc : w9.cell? ⟨bs, i * 3 + 2, none⟩ = some (.slice g.a g.n g.c) := ((hI.sA (hI.no9 (.inl hL))).1.cell (p := ⟨bs, i * 3 + 2, none⟩) HLP.out).trans HCG.out
                    clear hdep ho hI hL 
                    try simp only [fill, slotOf, List.size_toArray, List.length_cons, List.length_nil, Nat.reduceAdd, List.getElem?_toArray, List.getElem?_cons_zero, List.getElem?_cons_succ, Option.bind_some, Act.put, List.setIfInBounds_toArray, List.set_cons_zero, List.set_cons_succ] at hK ⊢
                    rw [d5] at hK ⊢
                    go_simp
                    exact hK (.slice g.a g.n g.c) _ (HI9.out.put 6 _ (by decide) rfl) _ rfl
                  · obtain rfl := Option.some.inj ho.symm
                    have hxb := HAX.out _ _ _ hI
                    have s0 : w9.cell? ⟨bx, 0, none⟩ = some (.int .i64 x.r.kind) := cell_blk hxb rfl
                    have s1 : w9.cell? ⟨bx, 1, none⟩ = some (.int .i64 x.r.time) := cell_blk hxb rfl
                    have s2 : w9.cell? ⟨bx, 2, none⟩ = some (.slice x.r.la x.r.ln x.r.lc) := cell_blk hxb rfl
                    have s3 : w9.cell? ⟨bx, 3, none⟩ = some (.string x.r.text) := cell_blk hxb rfl
                    have s4 : w9.cell? ⟨bx, 4, none⟩ = some (.int .i64 x.r.value) := cell_blk hxb rfl
                    have s5 : w9.cell? ⟨bx, 5, none⟩ = some (.bool x.r.null) := cell_blk hxb rfl
                    have s6 : w9.cell? ⟨bx, 6, none⟩ = some (.int .i64 x.who) := cell_blk hxb rfl
                    have s7 : w9.cell? ⟨bx, 7, none⟩ = some (.int .i64 x.sq) := cell_blk hxb rfl
                    have s8 : w9.cell? ⟨bx, 8, none⟩ = some (.int .i64 x.pl) := cell_blk hxb rfl
                    clear hdep ho hI hL hxb
                    try simp only [fill, slotOf, List.size_toArray, List.length_cons, List.length_nil, Nat.reduceAdd, List.getElem?_toArray, List.getElem?_cons_zero, List.getElem?_cons_succ, Option.bind_some, Act.put, List.setIfInBounds_toArray, List.set_cons_zero, List.set_cons_succ] at hK ⊢
                    go_simp
                    exact hK (.agg #[.int .i64 x.r.kind, .int .i64 x.r.time, .slice x.r.la x.r.ln x.r.lc, .string x.r.text, .int .i64 x.r.value, .bool x.r.null, .int .i64 x.who, .int .i64 x.sq, .int .i64 x.pl]) _ (HI9.out.put 7 _ (by decide) rfl) _ rfl
                  · obtain rfl := Option.some.inj ho.symm
                    have d7 : V 7 = .agg #[.int .i64 x.r.kind, .int .i64 x.r.time, .slice x.r.la x.r.ln x.r.lc, .string x.r.text, .int .i64 x.r.value, .bool x.r.null, .int .i64 x.who, .int .i64 x.sq, .int .i64 x.pl] := hI.val 7 (hdep ⟨7, .data⟩ (by simp) rfl)
                    have HI4 := Lib.hid (hI.put8 hL)
                    clear hdep ho hI hL 
                    try simp only [fill, slotOf, List.size_toArray, List.length_cons, List.length_nil, Nat.reduceAdd, List.getElem?_toArray, List.getElem?_cons_zero, List.getElem?_cons_succ, Option.bind_some, Act.put, List.setIfInBounds_toArray, List.set_cons_zero, List.set_cons_succ] at hK ⊢
                    rw [d7] at hK ⊢
                    go_simp
                    exact hK (.slice (some ⟨w9.heap.size, 0, none⟩) 1 1) _ HI4.out _ rfl
                  · have hoo := Option.some.inj ho.symm
                    have d6 : V 6 = .slice g.a g.n g.c := hI.val 6 (hdep ⟨6, .data⟩ (by rw [hoo]; simp) rfl)
                    have l6 := hdep ⟨6, .data⟩ (by rw [hoo]; simp) rfl
                    have l8 := hdep ⟨8, .data⟩ (by rw [hoo]; simp) rfl
                    have hA := hI.sA hL
                    obtain ⟨bb, d8, hbb⟩ := hA.2 l8
                    have HOW := Lib.hid (own_below HGO.out hA.1)
                    have HBB := Lib.hid hbb
                    have HAB := Lib.hid hA.1
                    have hs9 := hA.1.size
                    have HL9 := Lib.hid hL
                    subst hoo
                    clear hdep ho hI hL hA hbb
                    try simp only [fill, slotOf, List.size_toArray, List.length_cons, List.length_nil, Nat.reduceAdd, List.getElem?_toArray, List.getElem?_cons_zero, List.getElem?_cons_succ, Option.bind_some, Act.put, List.setIfInBounds_toArray, List.set_cons_zero, List.set_cons_succ] at hK ⊢
                    rw [d6, d8] at hK ⊢
                    refine step_append_own_b (by first | rfl | kernel_rfl) (.tmp 110) (.tmp 112) 58 rfl w3.heap.size 62 i0 _ 9 96 Try.underlying58 hi hz0 hz1 hz2 rfl (by decide) (.slice g.a g.n g.c) g.n (rcells g.rows) (by rfl) HOW.out ⟨bb, 0, none⟩ 1 1 (RowV.cells x) (by rfl) rfl HBB.out (rcells_one _) (by unfold maxLen; omega) (by omega) (Nat.le_trans HBASE.out hs9) ?_
                    intro vN wA hownA hgrowA hlocA
                    obtain ⟨gN, cN, rfl⟩ := own_some2 hownA (by omega)
                    exact hK (.slice (some ⟨gN, 0, none⟩) (g.n + 1) cN) _ (HI9.out.put9 HL9.out l6 l8 ⟨_, _, w9.heap.size, rfl, hownA, grown_low HAB.out hgrowA, hlocA, hs9⟩) _ rfl
                  · obtain rfl := Option.some.inj ho.symm
                    have d0 : V 0 = .slice (some ⟨bs, 0, none⟩) mS cpS := hI.val 0 (hdep ⟨0, .data⟩ (by simp) rfl)
                    have d1 : V 1 = .int .i64 (i : Int) := hI.val 1 (hdep ⟨1, .data⟩ (by simp) rfl)
                    clear hdep ho hI hL 
                    try simp only [fill, slotOf, List.size_toArray, List.length_cons, List.length_nil, Nat.reduceAdd, List.getElem?_toArray, List.getElem?_cons_zero, List.getElem?_cons_succ, Option.bind_some, Act.put, List.setIfInBounds_toArray, List.set_cons_zero, List.set_cons_succ] at hK ⊢
                    rw [d0, d1] at hK ⊢
                    go_simp
                    exact hK (.pointer (some ⟨bs, i * 3, none⟩)) _ (HI9.out.put 10 _ (by decide) rfl) _ rfl
                  · obtain rfl := Option.some.inj ho.symm
                    have d10 : V 10 = .pointer (some ⟨bs, i * 3, none⟩) := hI.val 10 (hdep ⟨10, .data⟩ (by simp) rfl)
                    clear hdep ho hI hL 
                    try simp only [fill, slotOf, List.size_toArray, List.length_cons, List.length_nil, Nat.reduceAdd, List.getElem?_toArray, List.getElem?_cons_zero, List.getElem?_cons_succ, Option.bind_some, Act.put, List.setIfInBounds_toArray, List.set_cons_zero, List.set_cons_succ] at hK ⊢
                    rw [d10] at hK ⊢
                    go_simp
                    exact hK (.pointer (some ⟨bs, i * 3 + 2, none⟩)) _ (HI9.out.put 11 _ (by decide) rfl) _ rfl
                  · have hoo := Option.some.inj ho.symm
                    have d11 : V 11 = .pointer (some ⟨bs, i * 3 + 2, none⟩) := hI.val 11 (hdep ⟨11, .data⟩ (by rw [hoo]; simp) rfl)
                    have l9 := hdep ⟨9, .data⟩ (by rw [hoo]; simp) rfl
                    have hB := hI.sB l9 hL
                    obtain ⟨aN, cN, BN, d9, ho11, hg11, hlo11, hB11⟩ := hB
                    have hblk9 := (hg11.block bs HLP.out HTYP.out).trans HCSQ.out
                    have cc : w9.cell? ⟨bs, i * 3 + 2, none⟩ = some (.slice g.a g.n g.c) := by rw [← HCG.out]; unfold World.cell?; simp only [hblk9, HCSQ.out]
                    have ff : w9.frozen? ⟨bs, i * 3 + 2, none⟩ = false := by simp [World.frozen?, hblk9]
                    have HI4 := Lib.hid (hI.put12 l9 hL undef)
                    rw [d9] at HI4
                    subst hoo
                    clear hdep ho hI hL ho11 hg11 hlo11 hB11 hblk9 l9
                    try simp only [fill, slotOf, List.size_toArray, List.length_cons, List.length_nil, Nat.reduceAdd, List.getElem?_toArray, List.getElem?_cons_zero, List.getElem?_cons_succ, Option.bind_some, Act.put, List.setIfInBounds_toArray, List.set_cons_zero, List.set_cons_succ] at hK ⊢
                    rw [d11, d9] at hK ⊢
                    go_simp
                    exact hK (undef) _ HI4.out _ rfl
                · intro L9 V w9 hI hall
                  obtain ⟨wA, vN, hStB, hw9⟩ := hI.sC (hall 12 (by decide))
                  obtain ⟨aN, cN, BN, rfl, ho11, hg11, hlo11, hB11⟩ := hStB
                  have HW9 := Lib.hid hw9
                  have HO11 := Lib.hid ho11
                  have HG11 := Lib.hid hg11
                  have HL11 := Lib.hid hlo11
                  have HB11 := Lib.hid hB11
                  clear hall hI hw9 ho11 hg11 hlo11 hB11
                  simp only [fill, slotOf, List.size_toArray, List.length_cons, List.length_nil, Nat.reduceAdd, List.getElem?_toArray, List.getElem?_cons_zero, List.getElem?_cons_succ, Option.bind_some, Act.put, List.setIfInBounds_toArray, List.set_cons_zero, List.set_cons_succ]
                  have hnx := RsI.next HRG.out HG.out.1 HG.out.2 HB3.out.size HBELS.out HBEL3S.out HFEW.out HMKS.out HUPS.out HB11.out HO11.out HG11.out HL11.out (HINVS.out aN cN)
                  rw [← HW9.out] at hnx
                  have HNX := Lib.hid hnx
                  clear hnx
                  go_wp2_with fail
                  go_roundw
                  case rel => exact ⟨k + 1, mS, cpS, _, _, by omega, by go_num, rfl, HNX⟩
                  case measure => simp [intOf]; omega
          · obtain rfl : i = m' := by omega
            obtain ⟨bo, rfl⟩ := HI.out.nn
            have hmi : ((i : Int) == (i : Int)) = true := by simp
            clear c1
            have HS0 := Lib.hid (HG9.out.out)
            have hwn : wq.heap.size + 1 = (wq.alloc (.cells #[] 73)).heap.size := by show _ = (wq.heap.push _).size; rw [Array.size_push]
            have HO1 := Lib.hid (World.ownsRow_lit (base := wq.heap.size) (e := 73) (size := 3) wq #[] 0 (Nat.le_refl _) (by unfold maxLen; omega) rfl)
            have hro := HG9.out.room
            have hro1 := hro.1
            have hro2 := hro.2
            have hic : i ≤ cp := Nat.le_trans him hro1
            clear hro
            have HSF := Lib.hid (show ∀ j u, (gcells (gs.take i))[j]? = some u → (wq.alloc (.cells #[] 73)).cell? ((⟨bo, 0, none⟩ : Addr).add j) = some u from (HG9.out.below ((Below.refl _ _).alloc (Nat.le_refl _) _)).front i)
            have HTL := Lib.hid (show (gcells (gs.take i)).length = i * 3 from by rw [gcells_len, List.length_take, ← HML.out, Nat.min_eq_left (by omega)])
            clear hwn
            go_wp2_with (at_builtin; refine wpList_append_own_at _ rfl (.tmp 88) (.tmp 91) 69 rfl wq.heap.size 73 k0 _ 3 48 Try.underlying69 pi pz0 pz1 pz2 rfl (by decide) _ 0 [] rfl HO1.out ⟨bo, 0, none⟩ i cp (gcells (gs.take i)) rfl HTL.out HSF.out (gcells_all _) (by unfold maxLen; omega) (by omega) (by simp) ?_)
            intro v1 wA1 ho1 hg1 hl1 _
            have HBA1 := Lib.hid (show Below wq.heap.size wq wA1 from below_own ((Below.refl wq.heap.size wq).alloc (Nat.le_refl _) _) HO1.out hg1 (Nat.le_refl _) (by simp))
            have HO2 := Lib.hid (ho1.alloc (.cells #[.int .i64 q, .string pt, .slice none 0 0] 73))
            have HSR2 := Lib.hid (grp_src wA1 ⟨0, q, pt, none, 0, 0, []⟩ 73)
            have hsA := HBA1.out.size
            have HSA := Lib.hid hsA
            have HBB1 := Lib.hid (HBA1.out.alloc hsA (.cells #[.int .i64 q, .string pt, .slice none 0 0] 73))
            clear ho1 hg1 hl1 hsA
            go_wp2_with (at_builtin; refine wpList_append_own_at _ rfl (.tmp 93) (.tmp 97) 69 rfl wq.heap.size 73 k0 _ 3 48 Try.underlying69 pi pz0 pz1 pz2 rfl (by decide) _ i _ rfl HO2.out ⟨wA1.heap.size, 0, none⟩ 1 1 (GV.cells ⟨0, q, pt, none, 0, 0, []⟩) rfl rfl HSR2.out (gcells_one _) (by unfold maxLen; omega) (by omega) (Nat.le_trans HSA.out (by simp)) ?_)
            intro v2 wA2 ho2 hg2 _ _
            have HBA2 := Lib.hid (show Below wq.heap.size wq wA2 from below_own HBB1.out HO2.out hg2 (Nat.le_refl _) (Nat.le_trans HSA.out (by simp)))
            have HO3 := Lib.hid ho2
            clear ho2 hg2

            have hdr : gs.drop i = [] := List.drop_of_length_le (by rw [← HML.out]; exact Nat.le_refl _)
            have HDR := Lib.hid hdr
            have hs2 := HBA2.out.size
            have HS2 := Lib.hid hs2
            clear hs2 hdr
            by_cases hcp : i = cp
            case pos =>
              subst hcp
              go_wp2_with (at_builtin; refine wpList_append_own_at _ rfl (.tmp 99) (.tmp 102) 69 rfl wq.heap.size 73 k0 _ 3 48 Try.underlying69 pi pz0 pz1 pz2 rfl (by decide) _ (i + 1) _ rfl HO3.out ⟨bo, 0, none⟩ 0 0 [] rfl rfl (fun j u hu => by cases hu) (fun u hu => by cases hu) (by unfold maxLen; omega) (by omega) HS2.out ?_)
              intro v3 wS ho3 hg3 _ _
              obtain ⟨bs, cpS, hvE⟩ := own_some2 ho3 (by omega)
              subst hvE
              have HBS3 := Lib.hid (show Below wq.heap.size wq wS from below_own HBA2.out HO3.out hg3 (Nat.le_refl _) HS2.out)
              obtain ⟨g, hgE⟩ : ∃ g : GV, g = ⟨0, q, pt, none, 0, 0, []⟩ := ⟨_, rfl⟩
              obtain ⟨mS, hmS⟩ : ∃ mS, mS = i + 1 := ⟨_, rfl⟩
              have hil : i ≤ gs.length := by rw [← HML.out]; exact him
              have hw3q : w3.heap.size ≤ wq.heap.size := Nat.le_trans HI.out.bel3.size HB5.out.size
              have hrg := RGOwn.ins (base := w3.heap.size) (k := i) (g := g) (fun h => (HI.out.own3 h).below HB5.out) HI.out.own.len HBS3.out (by rw [hgE]; exact ⟨rfl, rfl, rfl, rfl⟩) (by rw [gcells_ins, hgE, List.append_assoc, HDR.out]; exact ho3.mono hw3q)
              have hup := ins_rising (g := g) HI.out.up hil (fun j hj hji => by
                have h1 := HLT.out j hji
                rw [show gs.getD j grp0 = gs[j] from by simp [hj]] at h1
                rw [hgE]; exact h1) (fun hi2 => by exact absurd hi2 (by rw [← HML.out]; omega))
              obtain ⟨GS, hGS⟩ : ∃ GS, GS = gs.take i ++ g :: gs.drop i := ⟨_, rfl⟩
              have HG := Lib.hid (show ∃ hj : i < GS.length, GS[i] = g from by rw [hGS]; exact ins_at hil)
              have HFEW := Lib.hid (show ∀ y ∈ GS, y.n ≤ k from by rw [hGS]; exact ins_few HI.out.few (by rw [hgE]))
              have HINVS := Lib.hid (show ∀ a9 c9, Gath.Inv (plS win ss) ((GS.set i (g.more a9 c9 x)).map GV.pair) (rs.take (k + 1)) from fun a9 c9 => by
                rw [hGS, take_snoc (by rw [HRL.out]; exact hkn) HX.out]
                exact ins_inv HI.out.inv hil hup (by rw [HKEY.out, hgE]; rfl) (by rw [hgE]) a9 c9)
              rw [← hGS] at hrg hup
              rw [← hmS] at hrg
              have HRG := Lib.hid hrg
              have HUPS := Lib.hid hup
              have HXS := Lib.hid ((HBS3.out.block bx (Array.getElem?_eq_some_iff.1 HX5.out).1).trans HX5.out)
              have HB3S := Lib.hid (Nat.le_trans hw3q HBS3.out.size)
              have HBXN := Lib.hid (show some bx ≠ g.v.ownBlock from by rw [hgE]; simp [GV.v, Value.ownBlock])
              have hb59 := HB5.out.trans (HBS3.out.mono HB5.out.size)
              have HBELS := Lib.hid (HI.out.bel.trans (hb59.mono HI.out.bel.size))
              have HBEL3S := Lib.hid (HI.out.bel3.trans (hb59.mono HI.out.bel3.size))
              have HMKS := Lib.hid (show mS ≤ k + 1 from by omega)
              have hiS : i < mS := by omega
              have hms : mS ≤ 1001 := by omega
              rw [← hmS]
              have HMS := Lib.hid hmS
              clear ho3 hg3 hgE hmS hil hw3q hrg hup hGS hb59
              go_wp2_with fail
              have hgm : g ∈ GS := by rw [← HG.out.2]; exact List.getElem_mem _
              have hgo := (HRG.out.own g hgm).1
              obtain ⟨bq, hbq, hbl3, hbls, hmc3, hkind, hgc3⟩ := HRG.out.form (by omega)
              obtain rfl : bs = bq := by cases hbq; rfl
              obtain ⟨csq, hcsq⟩ := hkind
              have hbsn : some bs ≠ g.v.ownBlock := fun e => by
                obtain ⟨cs, hcs⟩ := own_blk hgo e.symm
                rw [hcsq] at hcs
                have h2 := (Obj.cells.injEq .. ▸ Option.some.inj hcs)
                have h3 : (73 : TypeId) = 62 := h2.2.1
                exact absurd h3 (by decide)
              have hbxs : bx ≠ bs := fun e => by
                have h1 := HXS.out
                rw [e, hcsq] at h1
                have h2 := (Obj.cells.injEq .. ▸ Option.some.inj h1)
                have h3 : (73 : TypeId) = 62 := h2.2.1
                exact absurd h3 (by decide)
              have hgd : GS.getD i grp0 = g := by
                obtain ⟨hj, e⟩ := HG.out
                rw [← e]; simp [hj]
              have hcg : wS.cell? ⟨bs, i * 3 + 2, none⟩ = some (.slice g.a g.n g.c) := by
                have h1 := hgc3 i hiS 2 (.slice g.a g.n g.c) (by rw [hgd]; rfl)
                rw [Nat.zero_add] at h1
                exact h1
              have lx : bx < wS.heap.size := (Array.getElem?_eq_some_iff.1 HXS.out).1
              have HAX := Lib.hid (show ∀ L7 V7 w9, RsR wS w3.heap.size bs i mS cpS g x L7 V7 w9 → w9.heap[bx]? = some (.cells #[.int .i64 x.r.kind, .int .i64 x.r.time, .slice x.r.la x.r.ln x.r.lc, .string x.r.text, .int .i64 x.r.value, .bool x.r.null, .int .i64 x.who, .int .i64 x.sq, .int .i64 x.pl] 62 (0, 0)) from fun L7 V7 w9 h => (h.keep lx HBXN.out hbxs).trans HXS.out)
              have HGO := Lib.hid hgo
              have HLP := Lib.hid hbls
              have HCG := Lib.hid hcg
              have HTYP := Lib.hid hbsn
              have HCSQ := Lib.hid hcsq
              have hgn : g.n ≤ 1000 := by have := HFEW.out g hgm; omega
              have hiSi : (i : Int) < (mS : Int) := by omega
              have HBASE := HB3S
              clear hgm hgo hbq hbl3 hbls hmc3 hgc3 hcsq hbsn hbxs hgd hcg lx
              refine wp_region_inv (by kernel_rfl) (by kernel_rfl) (by kernel_rfl) (RsR wS w3.heap.size bs i mS cpS g x) (fun V => RsR.start V) ?_ ?_
              · intro j9 o ho L9 V w9 K hI hL hdep hK
                have HI9 := Lib.hid hI
                have hin : j9 < 13 := (Array.getElem?_eq_some_iff.1 ho).1
                have hcs : j9 = 0 ∨ j9 = 1 ∨ j9 = 2 ∨ j9 = 3 ∨ j9 = 4 ∨ j9 = 5 ∨ j9 = 6 ∨ j9 = 7 ∨ j9 = 8 ∨ j9 = 9 ∨ j9 = 10 ∨ j9 = 11 ∨ j9 = 12 := by omega
                clear hin
                rcases hcs with rfl | rfl | rfl | rfl | rfl | rfl | rfl | rfl | rfl | rfl | rfl | rfl | rfl
                · obtain rfl := Option.some.inj ho.symm
                  clear hdep ho hI hL 
                  try simp only [fill, slotOf, List.size_toArray, List.length_cons, List.length_nil, Nat.reduceAdd, List.getElem?_toArray, List.getElem?_cons_zero, List.getElem?_cons_succ, Option.bind_some, Act.put, List.setIfInBounds_toArray, List.set_cons_zero, List.set_cons_succ] at hK ⊢
                  go_simp
                  exact hK (.slice (some ⟨bs, 0, none⟩) mS cpS) _ (HI9.out.put 0 _ (by decide) rfl) _ rfl
                · obtain rfl := Option.some.inj ho.symm
                  clear hdep ho hI hL 
                  try simp only [fill, slotOf, List.size_toArray, List.length_cons, List.length_nil, Nat.reduceAdd, List.getElem?_toArray, List.getElem?_cons_zero, List.getElem?_cons_succ, Option.bind_some, Act.put, List.setIfInBounds_toArray, List.set_cons_zero, List.set_cons_succ] at hK ⊢
                  go_simp
                  exact hK (.int .i64 (i : Int)) _ (HI9.out.put 1 _ (by decide) rfl) _ rfl
                · obtain rfl := Option.some.inj ho.symm
                  clear hdep ho hI hL 
                  try simp only [fill, slotOf, List.size_toArray, List.length_cons, List.length_nil, Nat.reduceAdd, List.getElem?_toArray, List.getElem?_cons_zero, List.getElem?_cons_succ, Option.bind_some, Act.put, List.setIfInBounds_toArray, List.set_cons_zero, List.set_cons_succ] at hK ⊢
                  go_simp
                  exact hK (.slice (some ⟨bs, 0, none⟩) mS cpS) _ (HI9.out.put 2 _ (by decide) rfl) _ rfl
                · obtain rfl := Option.some.inj ho.symm
                  clear hdep ho hI hL 
                  try simp only [fill, slotOf, List.size_toArray, List.length_cons, List.length_nil, Nat.reduceAdd, List.getElem?_toArray, List.getElem?_cons_zero, List.getElem?_cons_succ, Option.bind_some, Act.put, List.setIfInBounds_toArray, List.set_cons_zero, List.set_cons_succ] at hK ⊢
                  go_simp
                  exact hK (.int .i64 (i : Int)) _ (HI9.out.put 3 _ (by decide) rfl) _ rfl
                · obtain rfl := Option.some.inj ho.symm
                  have d2 : V 2 = .slice (some ⟨bs, 0, none⟩) mS cpS := hI.val 2 (hdep ⟨2, .data⟩ (by simp) rfl)
                  have d3 : V 3 = .int .i64 (i : Int) := hI.val 3 (hdep ⟨3, .data⟩ (by simp) rfl)
                  clear hdep ho hI hL 
                  try simp only [fill, slotOf, List.size_toArray, List.length_cons, List.length_nil, Nat.reduceAdd, List.getElem?_toArray, List.getElem?_cons_zero, List.getElem?_cons_succ, Option.bind_some, Act.put, List.setIfInBounds_toArray, List.set_cons_zero, List.set_cons_succ] at hK ⊢
                  rw [d2, d3] at hK ⊢
                  go_simp
                  exact hK (.pointer (some ⟨bs, i * 3, none⟩)) _ (HI9.out.put 4 _ (by decide) rfl) _ rfl
                · obtain rfl := Option.some.inj ho.symm
                  have d4 : V 4 = .pointer (some ⟨bs, i * 3, none⟩) := hI.val 4 (hdep ⟨4, .data⟩ (by simp) rfl)
                  clear hdep ho hI hL 
                  try simp only [fill, slotOf, List.size_toArray, List.length_cons, List.length_nil, Nat.reduceAdd, List.getElem?_toArray, List.getElem?_cons_zero, List.getElem?_cons_succ, Option.bind_some, Act.put, List.setIfInBounds_toArray, List.set_cons_zero, List.set_cons_succ] at hK ⊢
                  rw [d4] at hK ⊢
                  go_simp
                  exact hK (.pointer (some ⟨bs, i * 3 + 2, none⟩)) _ (HI9.out.put 5 _ (by decide) rfl) _ rfl
                · obtain rfl := Option.some.inj ho.symm
                  have d5 : V 5 = .pointer (some ⟨bs, i * 3 + 2, none⟩) := hI.val 5 (hdep ⟨5, .data⟩ (by simp) rfl)
                  have cc : w9.cell? ⟨bs, i * 3 + 2, none⟩ = some (.slice g.a g.n g.c) := ((hI.sA (hI.no9 (.inl hL))).1.cell (p := ⟨bs, i * 3 + 2, none⟩) HLP.out).trans HCG.out
                  clear hdep ho hI hL 
                  try simp only [fill, slotOf, List.size_toArray, List.length_cons, List.length_nil, Nat.reduceAdd, List.getElem?_toArray, List.getElem?_cons_zero, List.getElem?_cons_succ, Option.bind_some, Act.put, List.setIfInBounds_toArray, List.set_cons_zero, List.set_cons_succ] at hK ⊢
                  rw [d5] at hK ⊢
                  go_simp
                  exact hK (.slice g.a g.n g.c) _ (HI9.out.put 6 _ (by decide) rfl) _ rfl
                · obtain rfl := Option.some.inj ho.symm
                  have hxb := HAX.out _ _ _ hI
                  have s0 : w9.cell? ⟨bx, 0, none⟩ = some (.int .i64 x.r.kind) := cell_blk hxb rfl
                  have s1 : w9.cell? ⟨bx, 1, none⟩ = some (.int .i64 x.r.time) := cell_blk hxb rfl
                  have s2 : w9.cell? ⟨bx, 2, none⟩ = some (.slice x.r.la x.r.ln x.r.lc) := cell_blk hxb rfl
                  have s3 : w9.cell? ⟨bx, 3, none⟩ = some (.string x.r.text) := cell_blk hxb rfl
                  have s4 : w9.cell? ⟨bx, 4, none⟩ = some (.int .i64 x.r.value) := cell_blk hxb rfl
                  have s5 : w9.cell? ⟨bx, 5, none⟩ = some (.bool x.r.null) := cell_blk hxb rfl
                  have s6 : w9.cell? ⟨bx, 6, none⟩ = some (.int .i64 x.who) := cell_blk hxb rfl
                  have s7 : w9.cell? ⟨bx, 7, none⟩ = some (.int .i64 x.sq) := cell_blk hxb rfl
                  have s8 : w9.cell? ⟨bx, 8, none⟩ = some (.int .i64 x.pl) := cell_blk hxb rfl
                  clear hdep ho hI hL hxb
                  try simp only [fill, slotOf, List.size_toArray, List.length_cons, List.length_nil, Nat.reduceAdd, List.getElem?_toArray, List.getElem?_cons_zero, List.getElem?_cons_succ, Option.bind_some, Act.put, List.setIfInBounds_toArray, List.set_cons_zero, List.set_cons_succ] at hK ⊢
                  go_simp
                  exact hK (.agg #[.int .i64 x.r.kind, .int .i64 x.r.time, .slice x.r.la x.r.ln x.r.lc, .string x.r.text, .int .i64 x.r.value, .bool x.r.null, .int .i64 x.who, .int .i64 x.sq, .int .i64 x.pl]) _ (HI9.out.put 7 _ (by decide) rfl) _ rfl
                · obtain rfl := Option.some.inj ho.symm
                  have d7 : V 7 = .agg #[.int .i64 x.r.kind, .int .i64 x.r.time, .slice x.r.la x.r.ln x.r.lc, .string x.r.text, .int .i64 x.r.value, .bool x.r.null, .int .i64 x.who, .int .i64 x.sq, .int .i64 x.pl] := hI.val 7 (hdep ⟨7, .data⟩ (by simp) rfl)
                  have HI4 := Lib.hid (hI.put8 hL)
                  clear hdep ho hI hL 
                  try simp only [fill, slotOf, List.size_toArray, List.length_cons, List.length_nil, Nat.reduceAdd, List.getElem?_toArray, List.getElem?_cons_zero, List.getElem?_cons_succ, Option.bind_some, Act.put, List.setIfInBounds_toArray, List.set_cons_zero, List.set_cons_succ] at hK ⊢
                  rw [d7] at hK ⊢
                  go_simp
                  exact hK (.slice (some ⟨w9.heap.size, 0, none⟩) 1 1) _ HI4.out _ rfl
                · have hoo := Option.some.inj ho.symm
                  have d6 : V 6 = .slice g.a g.n g.c := hI.val 6 (hdep ⟨6, .data⟩ (by rw [hoo]; simp) rfl)
                  have l6 := hdep ⟨6, .data⟩ (by rw [hoo]; simp) rfl
                  have l8 := hdep ⟨8, .data⟩ (by rw [hoo]; simp) rfl
                  have hA := hI.sA hL
                  obtain ⟨bb, d8, hbb⟩ := hA.2 l8
                  have HOW := Lib.hid (own_below HGO.out hA.1)
                  have HBB := Lib.hid hbb
                  have HAB := Lib.hid hA.1
                  have hs9 := hA.1.size
                  have HL9 := Lib.hid hL
                  subst hoo
                  clear hdep ho hI hL hA hbb
                  try simp only [fill, slotOf, List.size_toArray, List.length_cons, List.length_nil, Nat.reduceAdd, List.getElem?_toArray, List.getElem?_cons_zero, List.getElem?_cons_succ, Option.bind_some, Act.put, List.setIfInBounds_toArray, List.set_cons_zero, List.set_cons_succ] at hK ⊢
                  rw [d6, d8] at hK ⊢
                  refine step_append_own_b (by first | rfl | kernel_rfl) (.tmp 110) (.tmp 112) 58 rfl w3.heap.size 62 i0 _ 9 96 Try.underlying58 hi hz0 hz1 hz2 rfl (by decide) (.slice g.a g.n g.c) g.n (rcells g.rows) (by rfl) HOW.out ⟨bb, 0, none⟩ 1 1 (RowV.cells x) (by rfl) rfl HBB.out (rcells_one _) (by unfold maxLen; omega) (by omega) (Nat.le_trans HBASE.out hs9) ?_
                  intro vN wA hownA hgrowA hlocA
                  obtain ⟨gN, cN, rfl⟩ := own_some2 hownA (by omega)
                  exact hK (.slice (some ⟨gN, 0, none⟩) (g.n + 1) cN) _ (HI9.out.put9 HL9.out l6 l8 ⟨_, _, w9.heap.size, rfl, hownA, grown_low HAB.out hgrowA, hlocA, hs9⟩) _ rfl
                · obtain rfl := Option.some.inj ho.symm
                  have d0 : V 0 = .slice (some ⟨bs, 0, none⟩) mS cpS := hI.val 0 (hdep ⟨0, .data⟩ (by simp) rfl)
                  have d1 : V 1 = .int .i64 (i : Int) := hI.val 1 (hdep ⟨1, .data⟩ (by simp) rfl)
                  clear hdep ho hI hL 
                  try simp only [fill, slotOf, List.size_toArray, List.length_cons, List.length_nil, Nat.reduceAdd, List.getElem?_toArray, List.getElem?_cons_zero, List.getElem?_cons_succ, Option.bind_some, Act.put, List.setIfInBounds_toArray, List.set_cons_zero, List.set_cons_succ] at hK ⊢
                  rw [d0, d1] at hK ⊢
                  go_simp
                  exact hK (.pointer (some ⟨bs, i * 3, none⟩)) _ (HI9.out.put 10 _ (by decide) rfl) _ rfl
                · obtain rfl := Option.some.inj ho.symm
                  have d10 : V 10 = .pointer (some ⟨bs, i * 3, none⟩) := hI.val 10 (hdep ⟨10, .data⟩ (by simp) rfl)
                  clear hdep ho hI hL 
                  try simp only [fill, slotOf, List.size_toArray, List.length_cons, List.length_nil, Nat.reduceAdd, List.getElem?_toArray, List.getElem?_cons_zero, List.getElem?_cons_succ, Option.bind_some, Act.put, List.setIfInBounds_toArray, List.set_cons_zero, List.set_cons_succ] at hK ⊢
                  rw [d10] at hK ⊢
                  go_simp
                  exact hK (.pointer (some ⟨bs, i * 3 + 2, none⟩)) _ (HI9.out.put 11 _ (by decide) rfl) _ rfl
                · have hoo := Option.some.inj ho.symm
                  have d11 : V 11 = .pointer (some ⟨bs, i * 3 + 2, none⟩) := hI.val 11 (hdep ⟨11, .data⟩ (by rw [hoo]; simp) rfl)
                  have l9 := hdep ⟨9, .data⟩ (by rw [hoo]; simp) rfl
                  have hB := hI.sB l9 hL
                  obtain ⟨aN, cN, BN, d9, ho11, hg11, hlo11, hB11⟩ := hB
                  have hblk9 := (hg11.block bs HLP.out HTYP.out).trans HCSQ.out
                  have cc : w9.cell? ⟨bs, i * 3 + 2, none⟩ = some (.slice g.a g.n g.c) := by rw [← HCG.out]; unfold World.cell?; simp only [hblk9, HCSQ.out]
                  have ff : w9.frozen? ⟨bs, i * 3 + 2, none⟩ = false := by simp [World.frozen?, hblk9]
                  have HI4 := Lib.hid (hI.put12 l9 hL undef)
                  rw [d9] at HI4
                  subst hoo
                  clear hdep ho hI hL ho11 hg11 hlo11 hB11 hblk9 l9
                  try simp only [fill, slotOf, List.size_toArray, List.length_cons, List.length_nil, Nat.reduceAdd, List.getElem?_toArray, List.getElem?_cons_zero, List.getElem?_cons_succ, Option.bind_some, Act.put, List.setIfInBounds_toArray, List.set_cons_zero, List.set_cons_succ] at hK ⊢
                  rw [d11, d9] at hK ⊢
                  go_simp
                  exact hK (undef) _ HI4.out _ rfl
              · intro L9 V w9 hI hall
                obtain ⟨wA, vN, hStB, hw9⟩ := hI.sC (hall 12 (by decide))
                obtain ⟨aN, cN, BN, rfl, ho11, hg11, hlo11, hB11⟩ := hStB
                have HW9 := Lib.hid hw9
                have HO11 := Lib.hid ho11
                have HG11 := Lib.hid hg11
                have HL11 := Lib.hid hlo11
                have HB11 := Lib.hid hB11
                clear hall hI hw9 ho11 hg11 hlo11 hB11
                simp only [fill, slotOf, List.size_toArray, List.length_cons, List.length_nil, Nat.reduceAdd, List.getElem?_toArray, List.getElem?_cons_zero, List.getElem?_cons_succ, Option.bind_some, Act.put, List.setIfInBounds_toArray, List.set_cons_zero, List.set_cons_succ]
                have hnx := RsI.next HRG.out HG.out.1 HG.out.2 HB3.out.size HBELS.out HBEL3S.out HFEW.out HMKS.out HUPS.out HB11.out HO11.out HG11.out HL11.out (HINVS.out aN cN)
                rw [← HW9.out] at hnx
                have HNX := Lib.hid hnx
                clear hnx
                go_wp2_with fail
                go_roundw
                case rel => exact ⟨k + 1, mS, cpS, _, _, by omega, by go_num, rfl, HNX⟩
                case measure => simp [intOf]; omega

            case neg =>
              have hicp : (i : Int) < (cp : Int) := by omega
              go_wp2_with (at_builtin; refine wpList_append_own_at _ rfl (.tmp 99) (.tmp 102) 69 rfl wq.heap.size 73 k0 _ 3 48 Try.underlying69 pi pz0 pz1 pz2 rfl (by decide) _ (i + 1) _ rfl HO3.out ⟨bo, i * 3, none⟩ 0 (cp - i) [] rfl rfl (fun j u hu => by cases hu) (fun u hu => by cases hu) (by unfold maxLen; omega) (by omega) HS2.out ?_)
              intro v3 wS ho3 hg3 _ _
              obtain ⟨bs, cpS, hvE⟩ := own_some2 ho3 (by omega)
              subst hvE
              have HBS3 := Lib.hid (show Below wq.heap.size wq wS from below_own HBA2.out HO3.out hg3 (Nat.le_refl _) HS2.out)
              obtain ⟨g, hgE⟩ : ∃ g : GV, g = ⟨0, q, pt, none, 0, 0, []⟩ := ⟨_, rfl⟩
              obtain ⟨mS, hmS⟩ : ∃ mS, mS = i + 1 := ⟨_, rfl⟩
              have hil : i ≤ gs.length := by rw [← HML.out]; exact him
              have hw3q : w3.heap.size ≤ wq.heap.size := Nat.le_trans HI.out.bel3.size HB5.out.size
              have hrg := RGOwn.ins (base := w3.heap.size) (k := i) (g := g) (fun h => (HI.out.own3 h).below HB5.out) HI.out.own.len HBS3.out (by rw [hgE]; exact ⟨rfl, rfl, rfl, rfl⟩) (by rw [gcells_ins, hgE, List.append_assoc, HDR.out]; exact ho3.mono hw3q)
              have hup := ins_rising (g := g) HI.out.up hil (fun j hj hji => by
                have h1 := HLT.out j hji
                rw [show gs.getD j grp0 = gs[j] from by simp [hj]] at h1
                rw [hgE]; exact h1) (fun hi2 => by exact absurd hi2 (by rw [← HML.out]; omega))
              obtain ⟨GS, hGS⟩ : ∃ GS, GS = gs.take i ++ g :: gs.drop i := ⟨_, rfl⟩
              have HG := Lib.hid (show ∃ hj : i < GS.length, GS[i] = g from by rw [hGS]; exact ins_at hil)
              have HFEW := Lib.hid (show ∀ y ∈ GS, y.n ≤ k from by rw [hGS]; exact ins_few HI.out.few (by rw [hgE]))
              have HINVS := Lib.hid (show ∀ a9 c9, Gath.Inv (plS win ss) ((GS.set i (g.more a9 c9 x)).map GV.pair) (rs.take (k + 1)) from fun a9 c9 => by
                rw [hGS, take_snoc (by rw [HRL.out]; exact hkn) HX.out]
                exact ins_inv HI.out.inv hil hup (by rw [HKEY.out, hgE]; rfl) (by rw [hgE]) a9 c9)
              rw [← hGS] at hrg hup
              rw [← hmS] at hrg
              have HRG := Lib.hid hrg
              have HUPS := Lib.hid hup
              have HXS := Lib.hid ((HBS3.out.block bx (Array.getElem?_eq_some_iff.1 HX5.out).1).trans HX5.out)
              have HB3S := Lib.hid (Nat.le_trans hw3q HBS3.out.size)
              have HBXN := Lib.hid (show some bx ≠ g.v.ownBlock from by rw [hgE]; simp [GV.v, Value.ownBlock])
              have hb59 := HB5.out.trans (HBS3.out.mono HB5.out.size)
              have HBELS := Lib.hid (HI.out.bel.trans (hb59.mono HI.out.bel.size))
              have HBEL3S := Lib.hid (HI.out.bel3.trans (hb59.mono HI.out.bel3.size))
              have HMKS := Lib.hid (show mS ≤ k + 1 from by omega)
              have hiS : i < mS := by omega
              have hms : mS ≤ 1001 := by omega
              rw [← hmS]
              have HMS := Lib.hid hmS
              clear ho3 hg3 hgE hmS hil hw3q hrg hup hGS hb59
              go_wp2_with fail
              have hgm : g ∈ GS := by rw [← HG.out.2]; exact List.getElem_mem _
              have hgo := (HRG.out.own g hgm).1
              obtain ⟨bq, hbq, hbl3, hbls, hmc3, hkind, hgc3⟩ := HRG.out.form (by omega)
              obtain rfl : bs = bq := by cases hbq; rfl
              obtain ⟨csq, hcsq⟩ := hkind
              have hbsn : some bs ≠ g.v.ownBlock := fun e => by
                obtain ⟨cs, hcs⟩ := own_blk hgo e.symm
                rw [hcsq] at hcs
                have h2 := (Obj.cells.injEq .. ▸ Option.some.inj hcs)
                have h3 : (73 : TypeId) = 62 := h2.2.1
                exact absurd h3 (by decide)
              have hbxs : bx ≠ bs := fun e => by
                have h1 := HXS.out
                rw [e, hcsq] at h1
                have h2 := (Obj.cells.injEq .. ▸ Option.some.inj h1)
                have h3 : (73 : TypeId) = 62 := h2.2.1
                exact absurd h3 (by decide)
              have hgd : GS.getD i grp0 = g := by
                obtain ⟨hj, e⟩ := HG.out
                rw [← e]; simp [hj]
              have hcg : wS.cell? ⟨bs, i * 3 + 2, none⟩ = some (.slice g.a g.n g.c) := by
                have h1 := hgc3 i hiS 2 (.slice g.a g.n g.c) (by rw [hgd]; rfl)
                rw [Nat.zero_add] at h1
                exact h1
              have lx : bx < wS.heap.size := (Array.getElem?_eq_some_iff.1 HXS.out).1
              have HAX := Lib.hid (show ∀ L7 V7 w9, RsR wS w3.heap.size bs i mS cpS g x L7 V7 w9 → w9.heap[bx]? = some (.cells #[.int .i64 x.r.kind, .int .i64 x.r.time, .slice x.r.la x.r.ln x.r.lc, .string x.r.text, .int .i64 x.r.value, .bool x.r.null, .int .i64 x.who, .int .i64 x.sq, .int .i64 x.pl] 62 (0, 0)) from fun L7 V7 w9 h => (h.keep lx HBXN.out hbxs).trans HXS.out)
              have HGO := Lib.hid hgo
              have HLP := Lib.hid hbls
              have HCG := Lib.hid hcg
              have HTYP := Lib.hid hbsn
              have HCSQ := Lib.hid hcsq
              have hgn : g.n ≤ 1000 := by have := HFEW.out g hgm; omega
              have hiSi : (i : Int) < (mS : Int) := by omega
              have HBASE := HB3S
              clear hgm hgo hbq hbl3 hbls hmc3 hgc3 hcsq hbsn hbxs hgd hcg lx
              refine wp_region_inv (by kernel_rfl) (by kernel_rfl) (by kernel_rfl) (RsR wS w3.heap.size bs i mS cpS g x) (fun V => RsR.start V) ?_ ?_
              · intro j9 o ho L9 V w9 K hI hL hdep hK
                have HI9 := Lib.hid hI
                have hin : j9 < 13 := (Array.getElem?_eq_some_iff.1 ho).1
                have hcs : j9 = 0 ∨ j9 = 1 ∨ j9 = 2 ∨ j9 = 3 ∨ j9 = 4 ∨ j9 = 5 ∨ j9 = 6 ∨ j9 = 7 ∨ j9 = 8 ∨ j9 = 9 ∨ j9 = 10 ∨ j9 = 11 ∨ j9 = 12 := by omega
                clear hin
                rcases hcs with rfl | rfl | rfl | rfl | rfl | rfl | rfl | rfl | rfl | rfl | rfl | rfl | rfl
                · obtain rfl := Option.some.inj ho.symm
                  clear hdep ho hI hL 
                  try simp only [fill, slotOf, List.size_toArray, List.length_cons, List.length_nil, Nat.reduceAdd, List.getElem?_toArray, List.getElem?_cons_zero, List.getElem?_cons_succ, Option.bind_some, Act.put, List.setIfInBounds_toArray, List.set_cons_zero, List.set_cons_succ] at hK ⊢
                  go_simp
                  exact hK (.slice (some ⟨bs, 0, none⟩) mS cpS) _ (HI9.out.put 0 _ (by decide) rfl) _ rfl
                · obtain rfl := Option.some.inj ho.symm
                  clear hdep ho hI hL 
                  try simp only [fill, slotOf, List.size_toArray, List.length_cons, List.length_nil, Nat.reduceAdd, List.getElem?_toArray, List.getElem?_cons_zero, List.getElem?_cons_succ, Option.bind_some, Act.put, List.setIfInBounds_toArray, List.set_cons_zero, List.set_cons_succ] at hK ⊢
                  go_simp
                  exact hK (.int .i64 (i : Int)) _ (HI9.out.put 1 _ (by decide) rfl) _ rfl
                · obtain rfl := Option.some.inj ho.symm
                  clear hdep ho hI hL 
                  try simp only [fill, slotOf, List.size_toArray, List.length_cons, List.length_nil, Nat.reduceAdd, List.getElem?_toArray, List.getElem?_cons_zero, List.getElem?_cons_succ, Option.bind_some, Act.put, List.setIfInBounds_toArray, List.set_cons_zero, List.set_cons_succ] at hK ⊢
                  go_simp
                  exact hK (.slice (some ⟨bs, 0, none⟩) mS cpS) _ (HI9.out.put 2 _ (by decide) rfl) _ rfl
                · obtain rfl := Option.some.inj ho.symm
                  clear hdep ho hI hL 
                  try simp only [fill, slotOf, List.size_toArray, List.length_cons, List.length_nil, Nat.reduceAdd, List.getElem?_toArray, List.getElem?_cons_zero, List.getElem?_cons_succ, Option.bind_some, Act.put, List.setIfInBounds_toArray, List.set_cons_zero, List.set_cons_succ] at hK ⊢
                  go_simp
                  exact hK (.int .i64 (i : Int)) _ (HI9.out.put 3 _ (by decide) rfl) _ rfl
                · obtain rfl := Option.some.inj ho.symm
                  have d2 : V 2 = .slice (some ⟨bs, 0, none⟩) mS cpS := hI.val 2 (hdep ⟨2, .data⟩ (by simp) rfl)
                  have d3 : V 3 = .int .i64 (i : Int) := hI.val 3 (hdep ⟨3, .data⟩ (by simp) rfl)
                  clear hdep ho hI hL 
                  try simp only [fill, slotOf, List.size_toArray, List.length_cons, List.length_nil, Nat.reduceAdd, List.getElem?_toArray, List.getElem?_cons_zero, List.getElem?_cons_succ, Option.bind_some, Act.put, List.setIfInBounds_toArray, List.set_cons_zero, List.set_cons_succ] at hK ⊢
                  rw [d2, d3] at hK ⊢
                  go_simp
                  exact hK (.pointer (some ⟨bs, i * 3, none⟩)) _ (HI9.out.put 4 _ (by decide) rfl) _ rfl
                · obtain rfl := Option.some.inj ho.symm
                  have d4 : V 4 = .pointer (some ⟨bs, i * 3, none⟩) := hI.val 4 (hdep ⟨4, .data⟩ (by simp) rfl)
                  clear hdep ho hI hL 
                  try simp only [fill, slotOf, List.size_toArray, List.length_cons, List.length_nil, Nat.reduceAdd, List.getElem?_toArray, List.getElem?_cons_zero, List.getElem?_cons_succ, Option.bind_some, Act.put, List.setIfInBounds_toArray, List.set_cons_zero, List.set_cons_succ] at hK ⊢
                  rw [d4] at hK ⊢
                  go_simp
                  exact hK (.pointer (some ⟨bs, i * 3 + 2, none⟩)) _ (HI9.out.put 5 _ (by decide) rfl) _ rfl
                · obtain rfl := Option.some.inj ho.symm
                  have d5 : V 5 = .pointer (some ⟨bs, i * 3 + 2, none⟩) := hI.val 5 (hdep ⟨5, .data⟩ (by simp) rfl)
                  have cc : w9.cell? ⟨bs, i * 3 + 2, none⟩ = some (.slice g.a g.n g.c) := ((hI.sA (hI.no9 (.inl hL))).1.cell (p := ⟨bs, i * 3 + 2, none⟩) HLP.out).trans HCG.out
                  clear hdep ho hI hL 
                  try simp only [fill, slotOf, List.size_toArray, List.length_cons, List.length_nil, Nat.reduceAdd, List.getElem?_toArray, List.getElem?_cons_zero, List.getElem?_cons_succ, Option.bind_some, Act.put, List.setIfInBounds_toArray, List.set_cons_zero, List.set_cons_succ] at hK ⊢
                  rw [d5] at hK ⊢
                  go_simp
                  exact hK (.slice g.a g.n g.c) _ (HI9.out.put 6 _ (by decide) rfl) _ rfl
                · obtain rfl := Option.some.inj ho.symm
                  have hxb := HAX.out _ _ _ hI
                  have s0 : w9.cell? ⟨bx, 0, none⟩ = some (.int .i64 x.r.kind) := cell_blk hxb rfl
                  have s1 : w9.cell? ⟨bx, 1, none⟩ = some (.int .i64 x.r.time) := cell_blk hxb rfl
                  have s2 : w9.cell? ⟨bx, 2, none⟩ = some (.slice x.r.la x.r.ln x.r.lc) := cell_blk hxb rfl
                  have s3 : w9.cell? ⟨bx, 3, none⟩ = some (.string x.r.text) := cell_blk hxb rfl
                  have s4 : w9.cell? ⟨bx, 4, none⟩ = some (.int .i64 x.r.value) := cell_blk hxb rfl
                  have s5 : w9.cell? ⟨bx, 5, none⟩ = some (.bool x.r.null) := cell_blk hxb rfl
                  have s6 : w9.cell? ⟨bx, 6, none⟩ = some (.int .i64 x.who) := cell_blk hxb rfl
                  have s7 : w9.cell? ⟨bx, 7, none⟩ = some (.int .i64 x.sq) := cell_blk hxb rfl
                  have s8 : w9.cell? ⟨bx, 8, none⟩ = some (.int .i64 x.pl) := cell_blk hxb rfl
                  clear hdep ho hI hL hxb
                  try simp only [fill, slotOf, List.size_toArray, List.length_cons, List.length_nil, Nat.reduceAdd, List.getElem?_toArray, List.getElem?_cons_zero, List.getElem?_cons_succ, Option.bind_some, Act.put, List.setIfInBounds_toArray, List.set_cons_zero, List.set_cons_succ] at hK ⊢
                  go_simp
                  exact hK (.agg #[.int .i64 x.r.kind, .int .i64 x.r.time, .slice x.r.la x.r.ln x.r.lc, .string x.r.text, .int .i64 x.r.value, .bool x.r.null, .int .i64 x.who, .int .i64 x.sq, .int .i64 x.pl]) _ (HI9.out.put 7 _ (by decide) rfl) _ rfl
                · obtain rfl := Option.some.inj ho.symm
                  have d7 : V 7 = .agg #[.int .i64 x.r.kind, .int .i64 x.r.time, .slice x.r.la x.r.ln x.r.lc, .string x.r.text, .int .i64 x.r.value, .bool x.r.null, .int .i64 x.who, .int .i64 x.sq, .int .i64 x.pl] := hI.val 7 (hdep ⟨7, .data⟩ (by simp) rfl)
                  have HI4 := Lib.hid (hI.put8 hL)
                  clear hdep ho hI hL 
                  try simp only [fill, slotOf, List.size_toArray, List.length_cons, List.length_nil, Nat.reduceAdd, List.getElem?_toArray, List.getElem?_cons_zero, List.getElem?_cons_succ, Option.bind_some, Act.put, List.setIfInBounds_toArray, List.set_cons_zero, List.set_cons_succ] at hK ⊢
                  rw [d7] at hK ⊢
                  go_simp
                  exact hK (.slice (some ⟨w9.heap.size, 0, none⟩) 1 1) _ HI4.out _ rfl
                · have hoo := Option.some.inj ho.symm
                  have d6 : V 6 = .slice g.a g.n g.c := hI.val 6 (hdep ⟨6, .data⟩ (by rw [hoo]; simp) rfl)
                  have l6 := hdep ⟨6, .data⟩ (by rw [hoo]; simp) rfl
                  have l8 := hdep ⟨8, .data⟩ (by rw [hoo]; simp) rfl
                  have hA := hI.sA hL
                  obtain ⟨bb, d8, hbb⟩ := hA.2 l8
                  have HOW := Lib.hid (own_below HGO.out hA.1)
                  have HBB := Lib.hid hbb
                  have HAB := Lib.hid hA.1
                  have hs9 := hA.1.size
                  have HL9 := Lib.hid hL
                  subst hoo
                  clear hdep ho hI hL hA hbb
                  try simp only [fill, slotOf, List.size_toArray, List.length_cons, List.length_nil, Nat.reduceAdd, List.getElem?_toArray, List.getElem?_cons_zero, List.getElem?_cons_succ, Option.bind_some, Act.put, List.setIfInBounds_toArray, List.set_cons_zero, List.set_cons_succ] at hK ⊢
                  rw [d6, d8] at hK ⊢
                  refine step_append_own_b (by first | rfl | kernel_rfl) (.tmp 110) (.tmp 112) 58 rfl w3.heap.size 62 i0 _ 9 96 Try.underlying58 hi hz0 hz1 hz2 rfl (by decide) (.slice g.a g.n g.c) g.n (rcells g.rows) (by rfl) HOW.out ⟨bb, 0, none⟩ 1 1 (RowV.cells x) (by rfl) rfl HBB.out (rcells_one _) (by unfold maxLen; omega) (by omega) (Nat.le_trans HBASE.out hs9) ?_
                  intro vN wA hownA hgrowA hlocA
                  obtain ⟨gN, cN, rfl⟩ := own_some2 hownA (by omega)
                  exact hK (.slice (some ⟨gN, 0, none⟩) (g.n + 1) cN) _ (HI9.out.put9 HL9.out l6 l8 ⟨_, _, w9.heap.size, rfl, hownA, grown_low HAB.out hgrowA, hlocA, hs9⟩) _ rfl
                · obtain rfl := Option.some.inj ho.symm
                  have d0 : V 0 = .slice (some ⟨bs, 0, none⟩) mS cpS := hI.val 0 (hdep ⟨0, .data⟩ (by simp) rfl)
                  have d1 : V 1 = .int .i64 (i : Int) := hI.val 1 (hdep ⟨1, .data⟩ (by simp) rfl)
                  clear hdep ho hI hL 
                  try simp only [fill, slotOf, List.size_toArray, List.length_cons, List.length_nil, Nat.reduceAdd, List.getElem?_toArray, List.getElem?_cons_zero, List.getElem?_cons_succ, Option.bind_some, Act.put, List.setIfInBounds_toArray, List.set_cons_zero, List.set_cons_succ] at hK ⊢
                  rw [d0, d1] at hK ⊢
                  go_simp
                  exact hK (.pointer (some ⟨bs, i * 3, none⟩)) _ (HI9.out.put 10 _ (by decide) rfl) _ rfl
                · obtain rfl := Option.some.inj ho.symm
                  have d10 : V 10 = .pointer (some ⟨bs, i * 3, none⟩) := hI.val 10 (hdep ⟨10, .data⟩ (by simp) rfl)
                  clear hdep ho hI hL 
                  try simp only [fill, slotOf, List.size_toArray, List.length_cons, List.length_nil, Nat.reduceAdd, List.getElem?_toArray, List.getElem?_cons_zero, List.getElem?_cons_succ, Option.bind_some, Act.put, List.setIfInBounds_toArray, List.set_cons_zero, List.set_cons_succ] at hK ⊢
                  rw [d10] at hK ⊢
                  go_simp
                  exact hK (.pointer (some ⟨bs, i * 3 + 2, none⟩)) _ (HI9.out.put 11 _ (by decide) rfl) _ rfl
                · have hoo := Option.some.inj ho.symm
                  have d11 : V 11 = .pointer (some ⟨bs, i * 3 + 2, none⟩) := hI.val 11 (hdep ⟨11, .data⟩ (by rw [hoo]; simp) rfl)
                  have l9 := hdep ⟨9, .data⟩ (by rw [hoo]; simp) rfl
                  have hB := hI.sB l9 hL
                  obtain ⟨aN, cN, BN, d9, ho11, hg11, hlo11, hB11⟩ := hB
                  have hblk9 := (hg11.block bs HLP.out HTYP.out).trans HCSQ.out
                  have cc : w9.cell? ⟨bs, i * 3 + 2, none⟩ = some (.slice g.a g.n g.c) := by rw [← HCG.out]; unfold World.cell?; simp only [hblk9, HCSQ.out]
                  have ff : w9.frozen? ⟨bs, i * 3 + 2, none⟩ = false := by simp [World.frozen?, hblk9]
                  have HI4 := Lib.hid (hI.put12 l9 hL undef)
                  rw [d9] at HI4
                  subst hoo
                  clear hdep ho hI hL ho11 hg11 hlo11 hB11 hblk9 l9
                  try simp only [fill, slotOf, List.size_toArray, List.length_cons, List.length_nil, Nat.reduceAdd, List.getElem?_toArray, List.getElem?_cons_zero, List.getElem?_cons_succ, Option.bind_some, Act.put, List.setIfInBounds_toArray, List.set_cons_zero, List.set_cons_succ] at hK ⊢
                  rw [d11, d9] at hK ⊢
                  go_simp
                  exact hK (undef) _ HI4.out _ rfl
              · intro L9 V w9 hI hall
                obtain ⟨wA, vN, hStB, hw9⟩ := hI.sC (hall 12 (by decide))
                obtain ⟨aN, cN, BN, rfl, ho11, hg11, hlo11, hB11⟩ := hStB
                have HW9 := Lib.hid hw9
                have HO11 := Lib.hid ho11
                have HG11 := Lib.hid hg11
                have HL11 := Lib.hid hlo11
                have HB11 := Lib.hid hB11
                clear hall hI hw9 ho11 hg11 hlo11 hB11
                simp only [fill, slotOf, List.size_toArray, List.length_cons, List.length_nil, Nat.reduceAdd, List.getElem?_toArray, List.getElem?_cons_zero, List.getElem?_cons_succ, Option.bind_some, Act.put, List.setIfInBounds_toArray, List.set_cons_zero, List.set_cons_succ]
                have hnx := RsI.next HRG.out HG.out.1 HG.out.2 HB3.out.size HBELS.out HBEL3S.out HFEW.out HMKS.out HUPS.out HB11.out HO11.out HG11.out HL11.out (HINVS.out aN cN)
                rw [← HW9.out] at hnx
                have HNX := Lib.hid hnx
                clear hnx
                go_wp2_with fail
                go_roundw
                case rel => exact ⟨k + 1, mS, cpS, _, _, by omega, by go_num, rfl, HNX⟩
                case measure => simp [intOf]; omega
    · obtain rfl : k = n := by omega
      have hin := HI.out.inv
      rw [List.take_of_length_le (by rw [HRL.out]; exact Nat.le_refl _)] at hin
      have hsub : ∀ g ∈ gs, ∀ x ∈ g.rows, x ∈ rs := fun g hg x hx => by
        have h1 := hin.rows g.pair (List.mem_map_of_mem hg)
        have h2 : x ∈ g.pair.2 := hx
        rw [h1] at h2
        exact (List.mem_filter.1 h2).1
      have hat : GrpsAt wr ag m' cp gs := HI.out.own.at' (fun g hg => rows_of_own (HI.out.own.own g hg).1 (HI.out.own.own g hg).2 (fun x hx => HAT.out.fits x (hsub g hg x hx)) (fun x hx => (HAT.out.labs x (hsub g hg x hx)).kept HI.out.bel3))
      have HGA := Lib.hid hat
      have HIN := Lib.hid hin
      clear hkn hin hsub hat
      go_wp2_with fail
      go_ret
      exact ⟨ag, m', cp, rs, gs, rfl, ⟨HGA.out, HIN.out, HI.out.up, HRL.out, HST.out, HI.out.bel⟩⟩
end Go.Proofs.Ytjbljplgkbnpmaa
end SecRSpAll1
