/- Put together out of XSp, XSpWalk. -/
import Derived.Test.YtjbljplgkbnpmaaLabPlain
import Derived.Test.YtjbljplgkbnpmaaRecRows
import Derived.Maps.OwnSet
import Derived.DeepKeys4
import Derived.Test.YtjbljplgkbnpmaaCompare
import Derived.Test.YtjbljplgkbnpmaaAnyOrd
import Derived.Sort.Grow
import Derived.Deep.Draws
import Derived.Laws.Cover1
import Derived.Shelf.SlSortCmp.NoneTotal
import Derived.Shelf.SlGeneric
import Derived.Test.YtjbljplgkbnpmaaKit
import Derived.Test.YtjbljplgkbnpmaaSort
import Derived.Test.YtjbljplgkbnpmaaLabStrP
import Derived.Test.YtjbljplgkbnpmaaLabText
section SecSpAll0
/- Put together out of XGath, XSpMap, XSpCmp, XSpSortG, XSpGrp, XSpMem, XSpReg, XSpOut. -/
section SecSp0
/- Things gathered by a key, each group in the order in which its things came; put in order of keys; plainly. No Go in sight. -/
namespace Go.Proofs.Ytjbljplgkbnpmaa.Gath
open LabPlain
set_option linter.unusedVariables false
variable {κ α : Type} [DecidableEq κ]

structure Inv (kf : α → κ) (L : List (κ × List α)) (xs : List α) : Prop where
  nodup : L.Pairwise (fun p q => p.1 ≠ q.1)
  rows : ∀ p ∈ L, p.2 = xs.filter (fun x => decide (kf x = p.1))
  full : ∀ p ∈ L, p.2 ≠ []
  cover : ∀ x ∈ xs, ∃ p ∈ L, p.1 = kf x
theorem Inv.nil (kf : α → κ) : Inv kf [] [] := ⟨List.Pairwise.nil, (fun p hp => by cases hp), (fun p hp => by cases hp), (fun p hp => by cases hp)⟩
theorem Inv.perm {kf : α → κ} {L L' : List (κ × List α)} {xs : List α} (h : Inv kf L xs) (hp : L'.Perm L) : Inv kf L' xs :=
  ⟨(hp.pairwise_iff (fun {a b} (h : a.1 ≠ b.1) => h.symm)).2 h.nodup, fun p hp' => h.rows p (hp.mem_iff.1 hp'), fun p hp' => h.full p (hp.mem_iff.1 hp'), fun x hx => by
    obtain ⟨p, h1, h2⟩ := h.cover x hx
    exact ⟨p, hp.mem_iff.2 h1, h2⟩⟩
theorem Inv.new {kf : α → κ} {L : List (κ × List α)} {xs : List α} (h : Inv kf L xs) {x : α} (hx : ∀ p ∈ L, p.1 ≠ kf x) : Inv kf (L ++ [(kf x, [x])]) (xs ++ [x]) := by
  have hno : xs.filter (fun y => decide (kf y = kf x)) = [] := by
    rw [List.filter_eq_nil_iff]
    intro y hy hk
    obtain ⟨p, h1, h2⟩ := h.cover y hy
    exact hx p h1 (h2.trans (of_decide_eq_true hk))
  refine ⟨?_, ?_, ?_, ?_⟩
  · rw [List.pairwise_append]
    refine ⟨h.nodup, List.pairwise_singleton _ _, fun p hp q hq => ?_⟩
    rw [List.mem_singleton.1 hq]
    exact hx p hp
  · intro p hp
    rw [List.filter_append]
    rcases List.mem_append.1 hp with g | g
    · rw [h.rows p g, show [x].filter (fun y => decide (kf y = p.1)) = [] from by
        rw [List.filter_eq_nil_iff]
        intro y hy hk
        rw [List.mem_singleton.1 hy] at hk
        exact hx p g (of_decide_eq_true hk).symm, List.append_nil]
    · rw [List.mem_singleton.1 g]
      show [x] = _
      rw [hno, List.nil_append, List.filter_cons_of_pos (by simp)]
      rfl
  · intro p hp
    rcases List.mem_append.1 hp with g | g
    · exact h.full p g
    · rw [List.mem_singleton.1 g]; exact List.cons_ne_nil _ _
  · intro y hy
    rcases List.mem_append.1 hy with g | g
    · obtain ⟨p, h1, h2⟩ := h.cover y g
      exact ⟨p, List.mem_append_left _ h1, h2⟩
    · rw [List.mem_singleton.1 g]
      exact ⟨_, List.mem_append_right _ (List.mem_singleton.2 rfl), rfl⟩
theorem Inv.old {kf : α → κ} {L : List (κ × List α)} {xs : List α} (h : Inv kf L xs) {j : Nat} {p : κ × List α} (hj : L[j]? = some p) {x : α} (hx : kf x = p.1) : Inv kf (L.set j (p.1, p.2 ++ [x])) (xs ++ [x]) := by
  obtain ⟨hlt, he⟩ := List.getElem?_eq_some_iff.1 hj
  have hmem : p ∈ L := by rw [← he]; exact List.getElem_mem hlt
  have hkeys : (L.set j (p.1, p.2 ++ [x])).map Prod.fst = L.map Prod.fst := by
    rw [List.map_set]
    apply List.ext_getElem?
    intro i
    rw [List.getElem?_set]
    split
    · rename_i e
      subst e
      rw [if_pos (by rw [List.length_map]; exact hlt), List.getElem?_map, hj]
      rfl
    · rfl
  have hnd : ∀ M : List (κ × List α), M.Pairwise (fun p q => p.1 ≠ q.1) ↔ (M.map Prod.fst).Pairwise (· ≠ ·) := fun M => by rw [List.pairwise_map]
  have hmemset : ∀ q ∈ L.set j (p.1, p.2 ++ [x]), q = (p.1, p.2 ++ [x]) ∨ (q ∈ L ∧ q.1 ≠ p.1) := by
    intro q hq
    obtain ⟨i, hi, rfl⟩ := List.getElem_of_mem hq
    rw [List.getElem_set]
    split
    · exact .inl rfl
    · rename_i hne
      rw [List.length_set] at hi
      refine .inr ⟨List.getElem_mem hi, fun e => ?_⟩
      have h2 := List.pairwise_iff_getElem.1 h.nodup
      rcases Nat.lt_or_gt_of_ne hne with g | g
      · exact h2 j i hlt hi g (by rw [he]; exact e.symm)
      · exact h2 i j hi hlt g (by rw [he]; exact e)
  have hin : (p.1, p.2 ++ [x]) ∈ L.set j (p.1, p.2 ++ [x]) := List.mem_iff_getElem.2 ⟨j, by rw [List.length_set]; exact hlt, by rw [List.getElem_set_self]⟩
  refine ⟨by rw [hnd, hkeys, ← hnd]; exact h.nodup, ?_, ?_, ?_⟩
  · intro q hq
    rw [List.filter_append]
    rcases hmemset q hq with rfl | ⟨hq1, hq2⟩
    · show p.2 ++ [x] = _
      rw [h.rows p hmem, show [x].filter (fun y => decide (kf y = p.1)) = [x] from by rw [List.filter_cons_of_pos (by simp [hx])]; rfl]
    · rw [← h.rows q hq1, show [x].filter (fun y => decide (kf y = q.1)) = [] from by
        rw [List.filter_eq_nil_iff]
        intro y hy hk
        rw [List.mem_singleton.1 hy] at hk
        exact hq2 ((of_decide_eq_true hk).symm.trans hx), List.append_nil]
  · intro q hq
    rcases hmemset q hq with rfl | ⟨hq1, _⟩
    · simp
    · exact h.full q hq1
  · intro y hy
    have hk : ∀ q ∈ L, ∃ q' ∈ L.set j (p.1, p.2 ++ [x]), q'.1 = q.1 := by
      intro q hq
      have : q.1 ∈ (L.set j (p.1, p.2 ++ [x])).map Prod.fst := by rw [hkeys]; exact List.mem_map_of_mem hq
      obtain ⟨q', h1, h2⟩ := List.mem_map.1 this
      exact ⟨q', h1, h2⟩
    rcases List.mem_append.1 hy with g | g
    · obtain ⟨q, h1, h2⟩ := h.cover y g
      obtain ⟨q', h3, h4⟩ := hk q h1
      exact ⟨q', h3, h4.trans h2⟩
    · rw [List.mem_singleton.1 g]
      exact ⟨_, hin, hx.symm⟩

/-- two rising lists with the same things in them are one -/
theorem rising_ext {β : Type} {r : β → β → Prop} (irr : ∀ a, ¬ r a a) (tr : ∀ a b c, r a b → r b c → r a c) : ∀ {L M : List β}, L.Pairwise r → M.Pairwise r → (∀ x, x ∈ L ↔ x ∈ M) → L = M
  | [], [], _, _, _ => rfl
  | [], y :: M, _, _, h => absurd ((h y).2 (by simp)) (by simp)
  | x :: L, [], _, _, h => absurd ((h x).1 (by simp)) (by simp)
  | x :: L, y :: M, hL, hM, h => by
    have hL2 := List.pairwise_cons.1 hL
    have hM2 := List.pairwise_cons.1 hM
    have e : x = y := by
      rcases List.mem_cons.1 ((h x).1 (by simp)) with e | e
      · exact e
      · rcases List.mem_cons.1 ((h y).2 (by simp)) with e2 | e2
        · exact e2.symm
        · exact absurd (tr _ _ _ (hL2.1 y e2) (hM2.1 x e)) (irr x)
    subst e
    rw [rising_ext irr tr hL2.2 hM2.2 fun z => ?_]
    constructor
    · intro hz
      rcases List.mem_cons.1 ((h z).1 (by simp [hz])) with e | e
      · subst e; exact absurd (hL2.1 z hz) (irr z)
      · exact e
    · intro hz
      rcases List.mem_cons.1 ((h z).2 (by simp [hz])) with e | e
      · subst e; exact absurd (hM2.1 z hz) (irr z)
      · exact e

/-- a window and a part: one ahead of another one -/
abbrev Pl := Int × ByteArray
def ltK (a b : Pl) : Bool := decide (a.1 < b.1) || (decide (a.1 = b.1) && ltB a.2 b.2)
theorem ltK_irrefl (a : Pl) : ltK a a = false := by simp [ltK, ltB_irrefl]
theorem ltK_trans {a b c : Pl} (h1 : ltK a b = true) (h2 : ltK b c = true) : ltK a c = true := by
  unfold ltK at *
  simp only [Bool.or_eq_true, decide_eq_true_eq, Bool.and_eq_true] at *
  rcases h1 with h1 | ⟨h1, h1'⟩
  · rcases h2 with h2 | ⟨h2, h2'⟩
    · exact .inl (by omega)
    · exact .inl (by omega)
  · rcases h2 with h2 | ⟨h2, h2'⟩
    · exact .inl (by omega)
    · exact .inr ⟨by omega, ltB_trans h1' h2'⟩
theorem ltK_total {a b : Pl} (hne : a ≠ b) (h : ltK a b = false) : ltK b a = true := by
  unfold ltK at *
  simp only [Bool.or_eq_false_iff, decide_eq_false_iff_not, Bool.and_eq_false_imp, decide_eq_true_eq, Bool.or_eq_true, Bool.and_eq_true] at *
  by_cases e : a.1 = b.1
  · refine .inr ⟨e.symm, ?_⟩
    have h2 := h.2 e
    refine bl_total _ _ (fun e2 => hne (Prod.ext e ?_)) h2
    have e3 : a.2.data.toList = b.2.data.toList := by rw [← ByteArray.toList_eq, ← ByteArray.toList_eq]; exact e2
    exact ByteArray.ext (Array.toList_inj.1 e3)
  · exact .inl (by omega)
/-- groups by rising places -/
def RisingG (L : List (Pl × List α)) : Prop := L.Pairwise fun p q => ltK p.1 q.1 = true
theorem same_groups {kf : α → Pl} {L M : List (Pl × List α)} {xs : List α} (hL : Inv kf L xs) (hM : Inv kf M xs) (rL : RisingG L) (rM : RisingG M) : L = M := by
  have sub : ∀ {L M : List (Pl × List α)}, Inv kf L xs → Inv kf M xs → ∀ x, x ∈ L → x ∈ M := by
    intro L M hL hM p hp
    obtain ⟨y, ys, hy⟩ := List.exists_cons_of_ne_nil (hL.full p hp)
    have hyx : y ∈ xs ∧ kf y = p.1 := by
      have : y ∈ p.2 := by rw [hy]; simp
      rw [hL.rows p hp] at this
      have := List.mem_filter.1 this
      exact ⟨this.1, of_decide_eq_true this.2⟩
    obtain ⟨q, h1, h2⟩ := hM.cover y hyx.1
    have e : q = p := by
      refine Prod.ext (h2.trans hyx.2) ?_
      rw [hM.rows q h1, hL.rows p hp, h2, hyx.2]
    rw [← e]; exact h1
  exact rising_ext (r := fun p q : Pl × List α => ltK p.1 q.1 = true) (fun a h => by rw [ltK_irrefl] at h; cases h) (fun a b c => ltK_trans) rL rM fun x => ⟨sub hL hM x, sub hM hL x⟩
/-- all that the groups hold is what there was -/
theorem Inv.count {kf : α → κ} : ∀ {L : List (κ × List α)} {xs : List α}, Inv kf L xs → (L.flatMap Prod.snd).Perm xs
  | [], xs, h => by
    cases xs with
    | nil => exact List.Perm.refl _
    | cons x xs =>
      obtain ⟨p, hp, _⟩ := h.cover x (by simp)
      cases hp
  | p :: L, xs, h => by
    have hn := List.pairwise_cons.1 h.nodup
    have h2 : Inv kf L (xs.filter fun x => !decide (kf x = p.1)) := by
      refine ⟨hn.2, fun q hq => ?_, fun q hq => h.full q (by simp [hq]), fun x hx => ?_⟩
      · rw [h.rows q (by simp [hq]), List.filter_filter]
        apply List.filter_congr
        intro x _
        by_cases e : kf x = q.1
        · have : kf x ≠ p.1 := fun e2 => hn.1 q hq (e2.symm.trans e)
          have h3 : ¬ q.1 = p.1 := fun e3 => hn.1 q hq e3.symm
          simp [e, h3]
        · simp [e]
      · rw [List.mem_filter] at hx
        obtain ⟨q, h1, h2⟩ := h.cover x hx.1
        rcases List.mem_cons.1 h1 with e | e
        · subst e; simp [h2] at hx
        · exact ⟨q, e, h2⟩
    rw [List.flatMap_cons, h.rows p (by simp)]
    exact (List.Perm.append_left _ h2.count).trans (List.filter_append_perm _ _)
end Go.Proofs.Ytjbljplgkbnpmaa.Gath
end SecSp0
section SecSp1
/- A map from places (a window, a part) to groups, as walks are told of it. -/
namespace Go.Proofs.Ytjbljplgkbnpmaa
open Go.RowKit Go.WideMaps LabPlain Gath
open Go.Maps (Keyed)
set_option linter.unusedVariables false

theorem laidOutPl : laidOutB Try.prog = true := by kernel_rfl
theorem rowPl : (124 : TypeId) < Try.prog.types.size := of_decide_eq_true (by kernel_rfl)
theorem widePl : (match Try.prog.underlying 124 with | some (.array _ _) | some (.struct _) => true | _ => false) = true := by kernel_rfl
set_option maxRecDepth 100000 in
theorem lawPl : Keyed Try.prog 124 := Keyed.of_law (deep_law_laid laidOutPl (m := 2) (by omega) rowPl (by kernel_rfl) widePl)
theorem sizePl : ∃ m, Try.prog.types.size = m + 1 := ⟨Try.prog.types.size - 1, by kernel_rfl⟩
theorem keyTypePl : Try.prog.keyType 124 = true := by kernel_rfl
theorem zero_grp (w : World) : (zeroValue 125).run Try.prog w = .ok (.pointer none) w := by kernel_rfl

def plv (k : Pl) : Value := .agg #[.int .i64 k.1, .string k.2]
def pll (k : Pl) : Lit := .string (keyBytes [.int .i64 k.1, .string k.2.data.toList])
def okPl (k : Pl) : Prop := (-9223372036854775808 ≤ k.1 ∧ k.1 ≤ 9223372036854775807) ∧ k.2.size ≤ 140737488355328
theorem keyOfPl {k : Pl} (h : okPl k) : keyOf Try.prog 124 (plv k) = some (pll k) := by
  obtain ⟨a, s⟩ := k
  obtain ⟨⟨h1, h2⟩, h3⟩ := h
  simp only at h1 h2 h3
  have wa : (Lit.int .i64 a).wf = true := WalkArith.wf_i64 (by omega)
  have hs : s.size ≤ maxLen := by unfold maxLen; omega
  have hu := Try.underlying124
  have hc : Try.prog.cellsOf 124 = 2 := by kernel_rfl
  have h3 : Try.prog.cellsOf 3 = 1 := by kernel_rfl
  have h9 : Try.prog.cellsOf 9 = 1 := by kernel_rfl
  have u3 := Try.underlying3
  have u9 := Try.underlying9
  obtain ⟨m, hm⟩ := sizePl
  unfold keyOf plv pll
  simp only [hu]
  rw [if_pos (by simp [keyTypePl, Value.formed, hu, hc]), hm]
  unfold Program.keyLits
  simp only [hu, Value.cells]
  rw [if_pos (by rw [hc]; exact ⟨rfl, by simp⟩)]
  simp [h3, h9, Program.keyLits, u3, u9, wa, hs]
theorem pll_inj {k j : Pl} (hk : okPl k) (hj : okPl j) (e : pll k = pll j) : k = j := by
  have h1 := keyOfPl hk
  have h2 := keyOfPl hj
  rw [← e] at h2
  have h3 := lawPl.inj h1 h2
  obtain ⟨a, s⟩ := k
  obtain ⟨b, t⟩ := j
  simpa [plv] using h3

def ptrV (o : Option Nat) : Value := .pointer (o.map fun b => ⟨b, 0, none⟩)
def ptrD (o : Option Nat) : DataW Unit := .lit (.int .i64 (match o with | some b => ((b : Nat) : Int) | none => -1))
theorem ptrD_inj {o o' : Option Nat} (h : ptrD o = ptrD o') : o = o' := by
  unfold ptrD at h
  simp only [DataW.lit.injEq, Lit.int.injEq, true_and] at h
  cases o <;> cases o' <;> simp only at h
  · rfl
  · omega
  · omega
  · congr 1; omega
/-- how a pointer to a group reads: its block's number -/
def ptrR : Value → Option (DataW Unit × List MemPlace)
  | .pointer none => some (ptrD none, [])
  | .pointer (some ⟨b, 0, none⟩) => some (ptrD (some b), [])
  | _ => none
theorem ptrR_mk (o : Option Nat) : ptrR (ptrV o) = some (ptrD o, []) := by cases o <;> rfl
theorem ptrR_inv {v : Value} {z : DataW Unit × List MemPlace} (h : ptrR v = some z) : ∃ o, v = ptrV o ∧ z.1 = ptrD o := by
  unfold ptrR at h
  split at h
  · cases h; exact ⟨none, rfl, rfl⟩
  · cases h; exact ⟨some _, rfl, rfl⟩
  · cases h

/-- block M is a map of at most n places: the block of each place's group -/
def MapG (w : World) (M n : Nat) (g : Pl → Option Nat) : Prop :=
  ∃ D : DataW Unit, w.ownsMap Try.prog 124 ptrR M n D ∧ ∀ k, okPl k → D.atKey (pll k) (ptrD none) = ptrD (g k)
theorem MapG.made (w : World) : MapG (w.alloc (.map #[] 0)) w.heap.size 0 (fun _ => none) := ⟨.map [], World.ownsMap_made _ _ _ _, fun k _ => rfl⟩
theorem MapG.mono {w : World} {M n n' : Nat} {g : Pl → Option Nat} (h : MapG w M n g) (hn : n ≤ n') : MapG w M n' g := by
  obtain ⟨D, h1, h2⟩ := h
  exact ⟨D, h1.mono hn, h2⟩
theorem MapG.kept {w w' : World} {M n : Nat} {g : Pl → Option Nat} {row : Option Nat} (h : MapG w M n g) (hg : w.grownBy w' row) (hne : some M ≠ row) : MapG w' M n g := by
  obtain ⟨D, h1, h2⟩ := h
  exact ⟨D, h1.kept hg hne, h2⟩
theorem MapG.lt {w : World} {M n : Nat} {g : Pl → Option Nat} (h : MapG w M n g) : M < w.heap.size := by
  obtain ⟨D, h1, h2⟩ := h
  exact h1.lt
theorem MapG.obj {w : World} {M n : Nat} {g : Pl → Option Nat} (h : MapG w M n g) : ∃ es c, w.heap[M]? = some (.map es c) := by
  obtain ⟨D, ⟨es, c, hb, _⟩, h2⟩ := h
  exact ⟨es, c, hb⟩
theorem MapG.same {w w' : World} {M n : Nat} {g : Pl → Option Nat} (h : MapG w M n g) (e : w'.heap[M]? = w.heap[M]?) : MapG w' M n g := by
  obtain ⟨D, ⟨es, clock, hb, F⟩, h2⟩ := h
  exact ⟨D, ⟨es, clock, e.trans hb, F⟩, h2⟩
theorem MapG.below {w w' : World} {M n : Nat} {g : Pl → Option Nat} (h : MapG w M n g) (hb : Below w.heap.size w w') : MapG w' M n g := h.same (hb.block M h.lt)
/-- 'm[k]' -/
theorem MapG.look {w : World} {M n : Nat} {g : Pl → Option Nat} (h : MapG w M n g) {k : Pl} (hk : okPl k) :
    (Instr.lookup 121 (.map (some M)) (plv k) false).run Try.prog w = .ok (ptrV (g k)) w := by
  obtain ⟨D, h1, h2⟩ := h
  have h3 := h2 k hk
  obtain ⟨v, ps, hrun, hv⟩ := h1.lookup lawPl Try.underlying121 (zero_grp w) (ptrR_mk none) (keyOfPl hk)
  obtain ⟨o, rfl, ho⟩ := ptrR_inv hv
  simp only at ho
  rw [h3] at ho
  rw [hrun, ptrD_inj ho]
/-- 'm[k] = v' -/
theorem MapG.store {w : World} {M n : Nat} {g : Pl → Option Nat} (h : MapG w M n g) {k : Pl} (hk : okPl k) (q : Nat) (hn : n < maxLen) :
    ∃ w', (Instr.mapUpdate 121 (.map (some M)) (plv k) (.pointer (some ⟨q, 0, none⟩))).run Try.prog w = .ok () w' ∧ MapG w' M (n + 1) (fun j => if j = k then some q else g j) ∧ w.grownBy w' (some M) := by
  obtain ⟨D, h1, h2⟩ := h
  obtain ⟨w', hrun, r1, r2⟩ := h1.update lawPl Try.underlying121 hn (val := .pointer (some ⟨q, 0, none⟩)) (keyOfPl hk) (ptrR_mk (some q))
  refine ⟨w', hrun, ⟨_, r1, fun j hj => ?_⟩, r2⟩
  by_cases e : j = k
  · subst e
    simp only [if_pos]
    exact Maps.atKey_put_same h1.isMap (lawPl.key (keyOfPl hj)) _ _
  · have hne : pll j ≠ pll k := fun e' => e (pll_inj hj hk e')
    simp only [if_neg e]
    rw [Maps.atKey_put_other hne]
    exact h2 j hj
end Go.Proofs.Ytjbljplgkbnpmaa
end SecSp1
section SecSp2
/- The comparison of groups by their places, walked: it reads, and lays one block. -/
namespace Go.Proofs.Ytjbljplgkbnpmaa
open Go.ChangeShapes Go.WideShapes Go.Deep Go.RowKit LabPlain Gath
set_option linter.unusedVariables false

theorem nanx (x : Int) (w : World) : Calls Try.prog 102 #[.int .i64 x] w fun e w' => e = .returned (.bool false) ∧ w' = w := by
  have z : (x != x) = false := by simp
  go_enter Try.func102, Try.ntmps102
  go_wp2_with fail
  go_ret
  exact ⟨rfl, rfl⟩
theorem nansx (x : ByteArray) (w : World) : Calls Try.prog 105 #[.string x] w fun e w' => e = .returned (.bool false) ∧ w' = w := by
  have z : (x.toList != x.toList) = false := by simp
  go_enter Try.func105, Try.ntmps105
  go_wp2_with fail
  go_ret
  exact ⟨rfl, rfl⟩
theorem cmpx (x y : Int) (w : World) : Calls Try.prog 81 #[.int .i64 x, .int .i64 y] w fun e w' => e = .returned (.int .i64 (cmp3 x y)) ∧ w' = w := by
  by_cases h : x < y
  · go_enter Try.func81, Try.ntmps81
    go_wp2_with (go_at_call 102; refine (nanx _ _).mono ?_; rintro e w2 ⟨rfl, rfl⟩)
    go_ret
    exact ⟨by simp [cmp3, h], rfl⟩
  · by_cases h2 : y < x
    · have H1 := Lib.hid h
      have H2 := Lib.hid h2
      go_enter Try.func81, Try.ntmps81
      go_wp2_with (go_at_call 102; refine (nanx _ _).mono ?_; rintro e w2 ⟨rfl, rfl⟩)
      go_ret
      exact ⟨by simp [cmp3, h, h2], rfl⟩
    · have H1 := Lib.hid h
      have H2 := Lib.hid h2
      go_enter Try.func81, Try.ntmps81
      go_wp2_with (go_at_call 102; refine (nanx _ _).mono ?_; rintro e w2 ⟨rfl, rfl⟩)
      go_ret
      exact ⟨by unfold cmp3; rw [if_neg (by have := H1.out; omega), if_neg (by have := H2.out; omega)]; rfl, rfl⟩
def cmpB (x y : ByteArray) : Int := if ltB x y = true then -1 else if ltB y x = true then 1 else 0
theorem cmpsx (x y : ByteArray) (w : World) : Calls Try.prog 85 #[.string x, .string y] w fun e w' => e = .returned (.int .i64 (cmpB x y)) ∧ w' = w := by
  by_cases h : ltB x y = true
  · have q1 : Op.bytesLess x.toList y.toList = true := h
    go_enter Try.func85, Try.ntmps85
    go_wp2_with (go_at_call 105; refine (nansx _ _).mono ?_; rintro e w2 ⟨rfl, rfl⟩)
    go_ret
    exact ⟨by simp [cmpB, h], rfl⟩
  · have q1 : Op.bytesLess x.toList y.toList = false := by cases hb : Op.bytesLess x.toList y.toList with | false => rfl | true => exact absurd hb h
    by_cases h2 : ltB y x = true
    · have q2 : (x.toList == y.toList) = false := by have h3 := leq_not x y; rw [q1, h2] at h3; simpa using h3
      have H1 := Lib.hid h
      have H2 := Lib.hid h2
      go_enter Try.func85, Try.ntmps85
      go_wp2_with (go_at_call 105; refine (nansx _ _).mono ?_; rintro e w2 ⟨rfl, rfl⟩)
      go_ret
      exact ⟨by simp [cmpB, h, h2], rfl⟩
    · have q2 : (x.toList == y.toList) = true := by have h3 := leq_not x y; rw [q1, show ltB y x = false by simpa using h2] at h3; simpa using h3
      have H1 := Lib.hid h
      have H2 := Lib.hid h2
      go_enter Try.func85, Try.ntmps85
      go_wp2_with (go_at_call 105; refine (nansx _ _).mono ?_; rintro e w2 ⟨rfl, rfl⟩)
      go_ret
      exact ⟨by unfold cmpB; rw [if_neg H1.out, if_neg H2.out]; rfl, rfl⟩
def or2 (x y : Int) : Int := if x ≠ 0 then x else y
theorem orx {w : World} {b : Nat} {x y : Int} (h0 : w.cell? ⟨b, 0, none⟩ = some (.int .i64 x)) (h1 : w.cell? ⟨b, 1, none⟩ = some (.int .i64 y)) :
    Calls Try.prog 80 #[.slice (some ⟨b, 0, none⟩) 2 2] w fun e w' => e = .returned (.int .i64 (or2 x y)) ∧ w' = w := by
  have HV := Lib.hid (show ∀ k : Nat, k < 2 → w.cell? ⟨b, k, none⟩ = some (.int .i64 (if k = 0 then x else y)) from fun k hk => by
    rcases (by omega : k = 0 ∨ k = 1) with rfl | rfl
    · exact h0
    · exact h1)
  clear h0 h1
  go_enter Try.func80, Try.ntmps80
  go_wp2_with fail
  go_loopw [2, 5, 8] (fun s2 s5 s8 wr => ∃ k : Nat, k ≤ 2 ∧ s2 = .int .i64 0 ∧ s8 = .int .i64 (k : Int) ∧ Hid (∀ i, i < k → (if i = 0 then x else y) = 0) ∧ wr = w) (fun _ _ s8 _ => 2 - (intOf s8).toNat)
  case atStart => exact ⟨0, by omega, rfl, rfl, Lib.hid (fun i h => by omega), rfl⟩
  case round =>
    obtain ⟨k, hk, rfl, rfl, HZ, rfl⟩ := hrel
    by_cases hkn : k < 2
    · have c := HV.out k hkn
      obtain ⟨v, hv⟩ : ∃ v, v = (if k = 0 then x else y) := ⟨_, rfl⟩
      rw [← hv] at c
      have HVV := Lib.hid hv
      have hki : (k : Int) < 2 := by omega
      clear hv
      by_cases h0 : v = 0
      · have HN := Lib.hid (show ∀ i, i < k + 1 → (if i = 0 then x else y) = 0 from fun i hi => by
          rcases Nat.lt_or_ge i k with g | g
          · exact HZ.out i g
          · obtain rfl : i = k := by omega
            rw [← HVV.out]; exact h0)
        subst h0
        go_wp2_with fail
        go_roundw
        case rel => exact ⟨k + 1, by omega, rfl, by go_num, HN, trivial⟩
        case measure => simp [intOf]; omega
      · have q : (v != 0) = true := by simpa using h0
        have HE := Lib.hid (show or2 x y = v from by
          unfold or2
          rcases (by omega : k = 0 ∨ k = 1) with rfl | rfl
          · have e : v = x := HVV.out
            rw [← e, if_pos h0]
          · have e : v = y := HVV.out
            have z : x = 0 := HZ.out 0 (by omega)
            rw [e, if_neg (by simp [z])])
        have H0 := Lib.hid h0
        clear h0
        go_wp2_with fail
        go_ret
        exact ⟨by rw [HE.out]; try rfl, rfl⟩
    · have HE := Lib.hid (show or2 x y = 0 from by
        have hk2 : k = 2 := by omega
        subst hk2
        have h0 : x = 0 := HZ.out 0 (by omega)
        have h1 : y = 0 := HZ.out 1 (by omega)
        rw [h0, h1]; rfl)
      have hkn2 : ¬ (k : Int) < 2 := by omega
      go_wp2_with fail
      go_ret
      exact ⟨by rw [HE.out]; rfl, rfl⟩

def cmpPl (a b : Pl) : Int := or2 (cmp3 a.1 b.1) (cmpB a.2 b.2)
theorem cmpPl_neg (a b : Pl) : decide (cmpPl a b < 0) = ltK a b := by
  unfold cmpPl or2 cmp3 cmpB ltK
  by_cases h : a.1 < b.1
  · simp [h]
  · by_cases h2 : b.1 < a.1
    · have h3 : ¬ a.1 = b.1 := by omega
      simp [h, h2, h3]
    · have h3 : a.1 = b.1 := by omega
      simp only [h3, Int.lt_irrefl, if_false, ne_eq, not_true_eq_false, decide_false, decide_true, Bool.false_or, Bool.true_and]
      cases hl : ltB a.2 b.2 <;> simp
      split <;> omega

def GrpJ (W w' : World) : Prop := ∃ os : Array Obj, w' = Go.Sort.grow W.drew os
theorem GrpJ.cell {W w' : World} (h : GrpJ W w') {p j : Nat} {u : Value} (hp : p < W.heap.size) (c : W.cell? ⟨p, j, none⟩ = some u) : w'.cell? ⟨p, j, none⟩ = some u := by
  obtain ⟨os, rfl⟩ := h
  have e : (Go.Sort.grow W.drew os).heap[p]? = W.heap[p]? := by
    show (W.heap ++ os)[p]? = _
    rw [Array.getElem?_append_left hp]
  unfold World.cell? at c ⊢
  rw [e]; exact c
theorem GrpJ.alloc {W w' : World} (h : GrpJ W w') (o : Obj) : GrpJ W (w'.alloc o) := by
  obtain ⟨os, rfl⟩ := h
  refine ⟨os.push o, ?_⟩
  show ({ (Go.Sort.grow W.drew os) with heap := (W.heap ++ os).push o } : World) = _
  unfold Go.Sort.grow
  congr 1
  rw [Array.push_append]
  rfl
def GrpF (p q : Nat) (aw bw : Int) (ap bp : ByteArray) (x y : Int) : Nat → Value → World → Prop
  | 0, v, _ => v = .pointer (some ⟨p, 0, none⟩)
  | 1, v, _ => v = .pointer (some ⟨p, 0, none⟩)
  | 2, v, _ => v = .pointer (some ⟨p, 0, none⟩)
  | 3, v, _ => v = .int .i64 aw
  | 4, v, _ => v = .pointer (some ⟨q, 0, none⟩)
  | 5, v, _ => v = .pointer (some ⟨q, 0, none⟩)
  | 6, v, _ => v = .pointer (some ⟨q, 0, none⟩)
  | 7, v, _ => v = .int .i64 bw
  | 8, v, _ => v = .int .i64 x
  | 9, v, _ => v = .pointer (some ⟨p, 0, none⟩)
  | 10, v, _ => v = .pointer (some ⟨p, 0, none⟩)
  | 11, v, _ => v = .pointer (some ⟨p, 1, none⟩)
  | 12, v, _ => v = .string ap
  | 13, v, _ => v = .pointer (some ⟨q, 0, none⟩)
  | 14, v, _ => v = .pointer (some ⟨q, 0, none⟩)
  | 15, v, _ => v = .pointer (some ⟨q, 1, none⟩)
  | 16, v, _ => v = .string bp
  | 17, v, _ => v = .int .i64 y
  | 18, v, w => ∃ b, v = .slice (some ⟨b, 0, none⟩) 2 2 ∧ b < w.heap.size ∧ w.cell? ⟨b, 0, none⟩ = some (.int .i64 x) ∧ w.cell? ⟨b, 1, none⟩ = some (.int .i64 y)
  | 19, v, _ => v = .int .i64 (or2 x y)
  | 20, v, _ => v = .int .i64 (or2 x y)
  | _ + 21, _, _ => True
theorem GrpF.mono {p q : Nat} {aw bw : Int} {ap bp : ByteArray} {x y : Int} {w w' : World} (ht : Below w.heap.size w w') : ∀ j v, GrpF p q aw bw ap bp x y j v w → GrpF p q aw bw ap bp x y j v w' := fun j v h =>
  match j, h with
  | 0, h => h | 1, h => h | 2, h => h | 3, h => h | 4, h => h | 5, h => h | 6, h => h | 7, h => h | 8, h => h | 9, h => h | 10, h => h | 11, h => h | 12, h => h | 13, h => h | 14, h => h | 15, h => h | 16, h => h | 17, h => h
  | 18, h => by
    obtain ⟨b, h1, h2, h3, h4⟩ := h
    exact ⟨b, h1, Nat.lt_of_lt_of_le h2 ht.size, (ht.cell (p := ⟨b, 0, none⟩) h2).trans h3, (ht.cell (p := ⟨b, 1, none⟩) h2).trans h4⟩
  | 19, h => h | 20, h => h
  | _ + 21, _ => trivial

set_option maxRecDepth 100000 in
set_option maxHeartbeats 4000000 in
/-- 'cmp(a, b)' of two groups: it lays one block -/
theorem cmpg {W : World} {p q : Nat} {a b : Pl} (a0 : W.cell? ⟨p, 0, none⟩ = some (.int .i64 a.1)) (a1 : W.cell? ⟨p, 1, none⟩ = some (.string a.2)) (b0 : W.cell? ⟨q, 0, none⟩ = some (.int .i64 b.1)) (b1 : W.cell? ⟨q, 1, none⟩ = some (.string b.2)) :
    Calls Try.prog 84 #[.pointer (some ⟨p, 0, none⟩), .pointer (some ⟨q, 0, none⟩)] W fun e w' => e = .returned (.int .i64 (cmpPl a b)) ∧ ∃ k os, w' = Go.Sort.grow (W.drewN k) os := by
  obtain ⟨aw, ap⟩ := a
  obtain ⟨bw, bp⟩ := b
  simp only at a0 a1 b0 b1 ⊢
  unfold cmpPl
  obtain ⟨x, hx⟩ : ∃ x, x = cmp3 aw bw := ⟨_, rfl⟩
  obtain ⟨y, hy⟩ : ∃ y, y = cmpB ap bp := ⟨_, rfl⟩
  have HC := Lib.hid (fun w => cmpx aw bw w)
  have HS := Lib.hid (fun w => cmpsx ap bp w)
  have hp : p < W.heap.size := World.block_lt_of_cell? W _ a0
  have hq : q < W.heap.size := World.block_lt_of_cell? W _ b0
  simp only [← hx, ← hy] at HC HS ⊢
  have HX := Lib.hid hx
  have HY := Lib.hid hy
  clear hx hy
  go_enter Try.func84, Try.ntmps84
  go_wp2_with fail
  refine wp_region_fill (by kernel_rfl) (by kernel_rfl) (by kernel_rfl) (GrpJ W) (GrpF p q aw bw ap bp x y) ⟨#[], by unfold Go.Sort.grow; simp; rfl⟩ ?_ ?_
  · intro i o ho V w5 K hJ hdep hK
    have HJ := Lib.hid hJ
    have hi : i < 21 := (Array.getElem?_eq_some_iff.1 ho).1
    have hcs : i = 0 ∨ i = 1 ∨ i = 2 ∨ i = 3 ∨ i = 4 ∨ i = 5 ∨ i = 6 ∨ i = 7 ∨ i = 8 ∨ i = 9 ∨ i = 10 ∨ i = 11 ∨ i = 12 ∨ i = 13 ∨ i = 14 ∨ i = 15 ∨ i = 16 ∨ i = 17 ∨ i = 18 ∨ i = 19 ∨ i = 20 := by omega
    rcases hcs with rfl | rfl | rfl | rfl | rfl | rfl | rfl | rfl | rfl | rfl | rfl | rfl | rfl | rfl | rfl | rfl | rfl | rfl | rfl | rfl | rfl
    · obtain rfl := Option.some.inj ho.symm
      clear hdep ho hJ
      simp only [fill, slotOf, List.size_toArray, List.length_cons, List.length_nil, Nat.reduceAdd, List.getElem?_toArray, List.getElem?_cons_zero, List.getElem?_cons_succ, Option.bind_some, Act.put, List.setIfInBounds_toArray, List.set_cons_zero, List.set_cons_succ] at hK ⊢
      go_simp
      exact hK _ _ HJ.out rfl (fun j y h => h) _ rfl
    · obtain rfl := Option.some.inj ho.symm
      have h0 : V 0 = .pointer (some ⟨p, 0, none⟩) := hdep ⟨0, .data⟩ (by simp) rfl
      clear hdep ho hJ
      simp only [fill, slotOf, List.size_toArray, List.length_cons, List.length_nil, Nat.reduceAdd, List.getElem?_toArray, List.getElem?_cons_zero, List.getElem?_cons_succ, Option.bind_some, Act.put, List.setIfInBounds_toArray, List.set_cons_zero, List.set_cons_succ] at hK ⊢
      rw [h0]
      go_simp
      exact hK _ _ HJ.out rfl (fun j y h => h) _ (by rw [h0]; rfl)
    · obtain rfl := Option.some.inj ho.symm
      have h1 : V 1 = .pointer (some ⟨p, 0, none⟩) := hdep ⟨1, .data⟩ (by simp) rfl
      clear hdep ho hJ
      simp only [fill, slotOf, List.size_toArray, List.length_cons, List.length_nil, Nat.reduceAdd, List.getElem?_toArray, List.getElem?_cons_zero, List.getElem?_cons_succ, Option.bind_some, Act.put, List.setIfInBounds_toArray, List.set_cons_zero, List.set_cons_succ] at hK ⊢
      rw [h1]
      go_simp
      exact hK _ _ HJ.out rfl (fun j y h => h) _ (by rw [h1]; rfl)
    · obtain rfl := Option.some.inj ho.symm
      have h2 : V 2 = .pointer (some ⟨p, 0, none⟩) := hdep ⟨2, .data⟩ (by simp) rfl
      have cc := hJ.cell hp a0
      clear hdep ho hJ
      simp only [fill, slotOf, List.size_toArray, List.length_cons, List.length_nil, Nat.reduceAdd, List.getElem?_toArray, List.getElem?_cons_zero, List.getElem?_cons_succ, Option.bind_some, Act.put, List.setIfInBounds_toArray, List.set_cons_zero, List.set_cons_succ] at hK ⊢
      rw [h2]
      go_simp
      exact hK _ _ HJ.out rfl (fun j y h => h) _ (by rw [h2]; rfl)
    · obtain rfl := Option.some.inj ho.symm
      clear hdep ho hJ
      simp only [fill, slotOf, List.size_toArray, List.length_cons, List.length_nil, Nat.reduceAdd, List.getElem?_toArray, List.getElem?_cons_zero, List.getElem?_cons_succ, Option.bind_some, Act.put, List.setIfInBounds_toArray, List.set_cons_zero, List.set_cons_succ] at hK ⊢
      go_simp
      exact hK _ _ HJ.out rfl (fun j y h => h) _ rfl
    · obtain rfl := Option.some.inj ho.symm
      have h4 : V 4 = .pointer (some ⟨q, 0, none⟩) := hdep ⟨4, .data⟩ (by simp) rfl
      clear hdep ho hJ
      simp only [fill, slotOf, List.size_toArray, List.length_cons, List.length_nil, Nat.reduceAdd, List.getElem?_toArray, List.getElem?_cons_zero, List.getElem?_cons_succ, Option.bind_some, Act.put, List.setIfInBounds_toArray, List.set_cons_zero, List.set_cons_succ] at hK ⊢
      rw [h4]
      go_simp
      exact hK _ _ HJ.out rfl (fun j y h => h) _ (by rw [h4]; rfl)
    · obtain rfl := Option.some.inj ho.symm
      have h5 : V 5 = .pointer (some ⟨q, 0, none⟩) := hdep ⟨5, .data⟩ (by simp) rfl
      clear hdep ho hJ
      simp only [fill, slotOf, List.size_toArray, List.length_cons, List.length_nil, Nat.reduceAdd, List.getElem?_toArray, List.getElem?_cons_zero, List.getElem?_cons_succ, Option.bind_some, Act.put, List.setIfInBounds_toArray, List.set_cons_zero, List.set_cons_succ] at hK ⊢
      rw [h5]
      go_simp
      exact hK _ _ HJ.out rfl (fun j y h => h) _ (by rw [h5]; rfl)
    · obtain rfl := Option.some.inj ho.symm
      have h6 : V 6 = .pointer (some ⟨q, 0, none⟩) := hdep ⟨6, .data⟩ (by simp) rfl
      have cc := hJ.cell hq b0
      clear hdep ho hJ
      simp only [fill, slotOf, List.size_toArray, List.length_cons, List.length_nil, Nat.reduceAdd, List.getElem?_toArray, List.getElem?_cons_zero, List.getElem?_cons_succ, Option.bind_some, Act.put, List.setIfInBounds_toArray, List.set_cons_zero, List.set_cons_succ] at hK ⊢
      rw [h6]
      go_simp
      exact hK _ _ HJ.out rfl (fun j y h => h) _ (by rw [h6]; rfl)
    · obtain rfl := Option.some.inj ho.symm
      have h3 : V 3 = .int .i64 aw := hdep ⟨3, .data⟩ (by simp) rfl
      have h7 : V 7 = .int .i64 bw := hdep ⟨7, .data⟩ (by simp) rfl
      clear hdep ho hJ
      simp only [fill, slotOf, List.size_toArray, List.length_cons, List.length_nil, Nat.reduceAdd, List.getElem?_toArray, List.getElem?_cons_zero, List.getElem?_cons_succ, Option.bind_some, Act.put, List.setIfInBounds_toArray, List.set_cons_zero, List.set_cons_succ] at hK ⊢
      rw [h3, h7]
      go_simp
      refine (HC.out _).mono ?_
      rintro e w6 ⟨rfl, rfl⟩
      exact hK _ _ HJ.out rfl (fun j y h => h) _ (by rw [h3, h7]; rfl)
    · obtain rfl := Option.some.inj ho.symm
      clear hdep ho hJ
      simp only [fill, slotOf, List.size_toArray, List.length_cons, List.length_nil, Nat.reduceAdd, List.getElem?_toArray, List.getElem?_cons_zero, List.getElem?_cons_succ, Option.bind_some, Act.put, List.setIfInBounds_toArray, List.set_cons_zero, List.set_cons_succ] at hK ⊢
      go_simp
      exact hK _ _ HJ.out rfl (fun j y h => h) _ rfl
    · obtain rfl := Option.some.inj ho.symm
      have h9 : V 9 = .pointer (some ⟨p, 0, none⟩) := hdep ⟨9, .data⟩ (by simp) rfl
      clear hdep ho hJ
      simp only [fill, slotOf, List.size_toArray, List.length_cons, List.length_nil, Nat.reduceAdd, List.getElem?_toArray, List.getElem?_cons_zero, List.getElem?_cons_succ, Option.bind_some, Act.put, List.setIfInBounds_toArray, List.set_cons_zero, List.set_cons_succ] at hK ⊢
      rw [h9]
      go_simp
      exact hK _ _ HJ.out rfl (fun j y h => h) _ (by rw [h9]; rfl)
    · obtain rfl := Option.some.inj ho.symm
      have h10 : V 10 = .pointer (some ⟨p, 0, none⟩) := hdep ⟨10, .data⟩ (by simp) rfl
      clear hdep ho hJ
      simp only [fill, slotOf, List.size_toArray, List.length_cons, List.length_nil, Nat.reduceAdd, List.getElem?_toArray, List.getElem?_cons_zero, List.getElem?_cons_succ, Option.bind_some, Act.put, List.setIfInBounds_toArray, List.set_cons_zero, List.set_cons_succ] at hK ⊢
      rw [h10]
      go_simp
      exact hK _ _ HJ.out rfl (fun j y h => h) _ (by rw [h10]; rfl)
    · obtain rfl := Option.some.inj ho.symm
      have h11 : V 11 = .pointer (some ⟨p, 1, none⟩) := hdep ⟨11, .data⟩ (by simp) rfl
      have cc := hJ.cell hp a1
      clear hdep ho hJ
      simp only [fill, slotOf, List.size_toArray, List.length_cons, List.length_nil, Nat.reduceAdd, List.getElem?_toArray, List.getElem?_cons_zero, List.getElem?_cons_succ, Option.bind_some, Act.put, List.setIfInBounds_toArray, List.set_cons_zero, List.set_cons_succ] at hK ⊢
      rw [h11]
      go_simp
      exact hK _ _ HJ.out rfl (fun j y h => h) _ (by rw [h11]; rfl)
    · obtain rfl := Option.some.inj ho.symm
      clear hdep ho hJ
      simp only [fill, slotOf, List.size_toArray, List.length_cons, List.length_nil, Nat.reduceAdd, List.getElem?_toArray, List.getElem?_cons_zero, List.getElem?_cons_succ, Option.bind_some, Act.put, List.setIfInBounds_toArray, List.set_cons_zero, List.set_cons_succ] at hK ⊢
      go_simp
      exact hK _ _ HJ.out rfl (fun j y h => h) _ rfl
    · obtain rfl := Option.some.inj ho.symm
      have h13 : V 13 = .pointer (some ⟨q, 0, none⟩) := hdep ⟨13, .data⟩ (by simp) rfl
      clear hdep ho hJ
      simp only [fill, slotOf, List.size_toArray, List.length_cons, List.length_nil, Nat.reduceAdd, List.getElem?_toArray, List.getElem?_cons_zero, List.getElem?_cons_succ, Option.bind_some, Act.put, List.setIfInBounds_toArray, List.set_cons_zero, List.set_cons_succ] at hK ⊢
      rw [h13]
      go_simp
      exact hK _ _ HJ.out rfl (fun j y h => h) _ (by rw [h13]; rfl)
    · obtain rfl := Option.some.inj ho.symm
      have h14 : V 14 = .pointer (some ⟨q, 0, none⟩) := hdep ⟨14, .data⟩ (by simp) rfl
      clear hdep ho hJ
      simp only [fill, slotOf, List.size_toArray, List.length_cons, List.length_nil, Nat.reduceAdd, List.getElem?_toArray, List.getElem?_cons_zero, List.getElem?_cons_succ, Option.bind_some, Act.put, List.setIfInBounds_toArray, List.set_cons_zero, List.set_cons_succ] at hK ⊢
      rw [h14]
      go_simp
      exact hK _ _ HJ.out rfl (fun j y h => h) _ (by rw [h14]; rfl)
    · obtain rfl := Option.some.inj ho.symm
      have h15 : V 15 = .pointer (some ⟨q, 1, none⟩) := hdep ⟨15, .data⟩ (by simp) rfl
      have cc := hJ.cell hq b1
      clear hdep ho hJ
      simp only [fill, slotOf, List.size_toArray, List.length_cons, List.length_nil, Nat.reduceAdd, List.getElem?_toArray, List.getElem?_cons_zero, List.getElem?_cons_succ, Option.bind_some, Act.put, List.setIfInBounds_toArray, List.set_cons_zero, List.set_cons_succ] at hK ⊢
      rw [h15]
      go_simp
      exact hK _ _ HJ.out rfl (fun j y h => h) _ (by rw [h15]; rfl)
    · obtain rfl := Option.some.inj ho.symm
      have h12 : V 12 = .string ap := hdep ⟨12, .data⟩ (by simp) rfl
      have h16 : V 16 = .string bp := hdep ⟨16, .data⟩ (by simp) rfl
      clear hdep ho hJ
      simp only [fill, slotOf, List.size_toArray, List.length_cons, List.length_nil, Nat.reduceAdd, List.getElem?_toArray, List.getElem?_cons_zero, List.getElem?_cons_succ, Option.bind_some, Act.put, List.setIfInBounds_toArray, List.set_cons_zero, List.set_cons_succ] at hK ⊢
      rw [h12, h16]
      go_simp
      refine (HS.out _).mono ?_
      rintro e w6 ⟨rfl, rfl⟩
      exact hK _ _ HJ.out rfl (fun j y h => h) _ (by rw [h12, h16]; rfl)
    · obtain rfl := Option.some.inj ho.symm
      have h8 : V 8 = .int .i64 x := hdep ⟨8, .data⟩ (by simp) rfl
      have h17 : V 17 = .int .i64 y := hdep ⟨17, .data⟩ (by simp) rfl
      clear hdep ho hJ
      simp only [fill, slotOf, List.size_toArray, List.length_cons, List.length_nil, Nat.reduceAdd, List.getElem?_toArray, List.getElem?_cons_zero, List.getElem?_cons_succ, Option.bind_some, Act.put, List.setIfInBounds_toArray, List.set_cons_zero, List.set_cons_succ] at hK ⊢
      rw [h8, h17]
      go_simp
      have HA := Lib.hid ((Below.refl w5.heap.size w5).alloc (Nat.le_refl _) (.cells #[.int .i64 x, .int .i64 y] 3))
      have HG := Lib.hid (heap_alloc_new w5 (.cells #[.int .i64 x, .int .i64 y] 3))
      exact hK _ _ (HJ.out.alloc _) ⟨w5.heap.size, rfl, (Array.getElem?_eq_some_iff.1 HG.out).1, cell_blk HG.out rfl, cell_blk HG.out rfl⟩ (GrpF.mono HA.out) _ (by rw [h8, h17]; rfl)
    · obtain rfl := Option.some.inj ho.symm
      obtain ⟨b, e1, e2, e3, e4⟩ : GrpF p q aw bw ap bp x y 18 (V 18) w5 := hdep ⟨18, .data⟩ (by simp) rfl
      have HO := Lib.hid (orx e3 e4)
      clear hdep ho hJ e2 e3 e4
      simp only [fill, slotOf, List.size_toArray, List.length_cons, List.length_nil, Nat.reduceAdd, List.getElem?_toArray, List.getElem?_cons_zero, List.getElem?_cons_succ, Option.bind_some, Act.put, List.setIfInBounds_toArray, List.set_cons_zero, List.set_cons_succ] at hK ⊢
      rw [e1]
      go_simp
      refine HO.out.mono ?_
      rintro e w6 ⟨rfl, rfl⟩
      exact hK _ _ HJ.out rfl (fun j y h => h) _ (by rw [e1]; rfl)
    · obtain rfl := Option.some.inj ho.symm
      have h19 : V 19 = .int .i64 (or2 x y) := hdep ⟨19, .data⟩ (by simp) rfl
      clear hdep ho hJ
      simp only [fill, slotOf, List.size_toArray, List.length_cons, List.length_nil, Nat.reduceAdd, List.getElem?_toArray, List.getElem?_cons_zero, List.getElem?_cons_succ, Option.bind_some, Act.put, List.setIfInBounds_toArray, List.set_cons_zero, List.set_cons_succ] at hK ⊢
      rw [h19]
      go_simp
      exact hK _ _ HJ.out rfl (fun j y h => h) _ (by rw [h19]; rfl)
  · intro V w5 hJ hall
    have h20 : V 20 = .int .i64 (or2 x y) := hall 20 (by decide)
    have HJ := Lib.hid hJ
    clear hall hJ
    simp only [fill, slotOf, List.size_toArray, List.length_cons, List.length_nil, Nat.reduceAdd, List.getElem?_toArray, List.getElem?_cons_zero, List.getElem?_cons_succ, Option.bind_some, Act.put, List.setIfInBounds_toArray, List.set_cons_zero, List.set_cons_succ]
    rw [h20]
    go_wp2_with fail
    go_ret
    obtain ⟨os, rfl⟩ := HJ.out
    exact ⟨rfl, 1, os, rfl⟩
end Go.Proofs.Ytjbljplgkbnpmaa
end SecSp2
section SecSp3
/- The library's slices.SortFunc at pointers to groups: its contract, laid in plain words (raw numbers: of seat 9q alone). -/
namespace Go.Proofs.Ytjbljplgkbnpmaa
open Go.Shelf
set_option linter.unusedVariables false
def shG_ren : Go.Shelf.Ren := ⟨fun | 6 => 83 | 15 => 104 | 14 => 103 | 28 => 121 | 29 => 122 | 20 => 113 | 21 => 114 | 22 => 115 | 23 => 116 | 24 => 117 | 25 => 118 | 26 => 119 | 27 => 120 | 46 => 126 | 47 => 127 | 48 => 128 | 49 => 129 | 50 => 130 | 57 => 136 | n => n, fun | 22 => 122 | 24 => 125 | 25 => 128 | 3 => 3 | 39 => 132 | 0 => 0 | 53 => 83 | 55 => 157 | 4 => 4 | 46 => 149 | 45 => 148 | 50 => 153 | 5 => 5 | 9 => 9 | 66 => 159 | 70 => 163 | 76 => 166 | 77 => 167 | n => n, fun | n => n⟩
theorem shG : Go.Proofs.SlLaysF.n6 Try.prog shG_ren := {
  mixed := by kernel_rfl
  f6 := ⟨Try.f83.name, by decide, Try.func83.trans (congrArg some (by kernel_rfl))⟩
  f14 := ⟨Try.f103.name, by decide, Try.func103.trans (congrArg some (by kernel_rfl))⟩
  f15 := Try.func104.trans (congrArg some (by kernel_rfl))
  f20 := ⟨Try.f113.name, by decide, Try.func113.trans (congrArg some (by kernel_rfl))⟩
  f21 := ⟨Try.f114.name, by decide, Try.func114.trans (congrArg some (by kernel_rfl))⟩
  f22 := ⟨Try.f115.name, by decide, Try.func115.trans (congrArg some (by kernel_rfl))⟩
  f23 := ⟨Try.f116.name, by decide, Try.func116.trans (congrArg some (by kernel_rfl))⟩
  f24 := ⟨Try.f117.name, by decide, Try.func117.trans (congrArg some (by kernel_rfl))⟩
  f25 := ⟨Try.f118.name, by decide, Try.func118.trans (congrArg some (by kernel_rfl))⟩
  f26 := ⟨Try.f119.name, by decide, Try.func119.trans (congrArg some (by kernel_rfl))⟩
  f27 := ⟨Try.f120.name, by decide, Try.func120.trans (congrArg some (by kernel_rfl))⟩
  f28 := Try.func121.trans (congrArg some (by kernel_rfl))
  f29 := Try.func122.trans (congrArg some (by kernel_rfl))
  f46 := ⟨Try.f126.name, by decide, Try.func126.trans (congrArg some (by kernel_rfl))⟩
  f47 := Try.func127.trans (congrArg some (by kernel_rfl))
  f48 := Try.func128.trans (congrArg some (by kernel_rfl))
  f49 := ⟨Try.f129.name, by decide, Try.func129.trans (congrArg some (by kernel_rfl))⟩
  f50 := ⟨Try.f130.name, by decide, Try.func130.trans (congrArg some (by kernel_rfl))⟩
  f57 := ⟨Try.f136.name, by decide, Try.func136.trans (congrArg some (by kernel_rfl))⟩
  t0 := Try.underlying0
  a0 := Try.isAgg0
  z0 := Try.sizeOf0
  v0 := Try.zeroValue0
  t3 := Try.underlying3
  a3 := Try.isAgg3
  z3 := Try.sizeOf3
  v3 := Try.zeroValue3
  t4 := Try.underlying4
  a4 := Try.isAgg4
  z4 := Try.sizeOf4
  v4 := Try.zeroValue4
  t5 := Try.underlying5
  a5 := Try.isAgg5
  z5 := Try.sizeOf5
  v5 := Try.zeroValue5
  t9 := Try.underlying9
  a9 := Try.isAgg9
  z9 := Try.sizeOf9
  v9 := Try.zeroValue9
  t22 := Try.underlying122
  a22 := Try.isAgg122
  z22 := Try.sizeOf122
  v22 := Try.zeroValue122
  a24 := Try.isAgg125
  z24 := Try.sizeOf125
  t25 := Try.underlying128
  a25 := Try.isAgg128
  z25 := Try.sizeOf128
  v25 := Try.zeroValue128
  t39 := Try.underlying132
  a39 := Try.isAgg132
  z39 := Try.sizeOf132
  v39 := Try.zeroValue132
  t45 := Try.underlying148
  a45 := Try.isAgg148
  z45 := Try.sizeOf148
  v45 := Try.zeroValue148
  t46 := Try.underlying149
  a46 := Try.isAgg149
  z46 := Try.sizeOf149
  v46 := Try.zeroValue149
  t50 := Try.underlying153
  a50 := Try.isAgg153
  z50 := Try.sizeOf153
  v50 := Try.zeroValue153
  t53 := Try.underlying83
  a53 := Try.isAgg83
  z53 := Try.sizeOf83
  v53 := Try.zeroValue83
  t55 := Try.underlying157
  a55 := Try.isAgg157
  z55 := Try.sizeOf157
  v55 := Try.zeroValue157
  t66 := Try.underlying159
  a66 := Try.isAgg159
  z66 := Try.sizeOf159
  v66 := Try.zeroValue159
  t70 := Try.underlying163
  a70 := Try.isAgg163
  z70 := Try.sizeOf163
  v70 := Try.zeroValue163
  t76 := Try.underlying166
  a76 := Try.isAgg166
  z76 := Try.sizeOf166
  v76 := Try.zeroValue166
  t77 := Try.underlying167
  a77 := Try.isAgg167
  z77 := Try.sizeOf167
  v77 := Try.zeroValue167 }
end Go.Proofs.Ytjbljplgkbnpmaa
end SecSp3
section SecSp4
/- Groups that a call owns; slices.SortFunc of pointers to them. -/
namespace Go.Proofs.Ytjbljplgkbnpmaa
open Go.ChangeShapes Go.WideShapes Go.Deep Go.RowKit LabPlain Gath
open Go.Sort (grow putRow putCells mapBlock Holds PermIn SortedIn SWO)
set_option linter.unusedVariables false

structure GV where
  p : Nat
  win : Int
  part : ByteArray
  a : Option Addr
  n : Nat
  c : Nat
  rows : List RowV
def grp0 : GV := ⟨0, 0, ByteArray.empty, none, 0, 0, []⟩
def GV.key (g : GV) : Pl := (g.win, g.part)
def GV.v (g : GV) : Value := .slice g.a g.n g.c
def GV.ptr (g : GV) : Value := .pointer (some ⟨g.p, 0, none⟩)
def GV.pair (g : GV) : Pl × List RowV := (g.key, g.rows)
structure GrpsOwn (w : World) (base : Nat) (gs : List GV) : Prop where
  blk : ∀ g ∈ gs, base ≤ g.p ∧ w.heap[g.p]? = some (.cells #[.int .i64 g.win, .string g.part, .slice g.a g.n g.c] 72 (0, 0))
  own : ∀ g ∈ gs, w.ownsRow base 62 9 g.v g.n (rcells g.rows) ∧ g.rows.length = g.n
  apart : gs.Pairwise fun g h => g.p ≠ h.p ∧ (g.v.ownBlock = none ∨ g.v.ownBlock ≠ h.v.ownBlock)
theorem GrpsOwn.nil (w : World) (base : Nat) : GrpsOwn w base [] := ⟨(fun g h => by cases h), (fun g h => by cases h), List.Pairwise.nil⟩
theorem GrpsOwn.lt {w : World} {base : Nat} {gs : List GV} (h : GrpsOwn w base gs) {g : GV} (hg : g ∈ gs) : g.p < w.heap.size := (Array.getElem?_eq_some_iff.1 (h.blk g hg).2).1
theorem GrpsOwn.below {w w' : World} {base : Nat} {gs : List GV} (h : GrpsOwn w base gs) (hb : Below w.heap.size w w') : GrpsOwn w' base gs :=
  ⟨fun g hg => ⟨(h.blk g hg).1, (hb.block _ (h.lt hg)).trans (h.blk g hg).2⟩, fun g hg => ⟨own_below (h.own g hg).1 hb, (h.own g hg).2⟩, h.apart⟩
theorem own_blk {w : World} {base : Nat} {e : TypeId} {size : Nat} {v : Value} {n : Nat} {xs : List Value} (h : w.ownsRow base e size v n xs) {b : Nat} (hb : v.ownBlock = some b) : ∃ cs, w.heap[b]? = some (.cells cs e (0, 0)) := by
  rcases h.2 with ⟨rfl, _⟩ | ⟨g, cap, cur, rfl, _, hg, _⟩
  · cases hb
  · cases hb
    exact ⟨_, hg⟩
/-- a block of another kind is written -/
theorem GrpsOwn.other {w w' : World} {base : Nat} {gs : List GV} (h : GrpsOwn w base gs) {b : Nat} (hg : w.grownBy w' (some b)) (h1 : ∀ cs, w.heap[b]? ≠ some (.cells cs 72 (0, 0))) (h2 : ∀ cs, w.heap[b]? ≠ some (.cells cs 62 (0, 0))) : GrpsOwn w' base gs := by
  refine ⟨fun g hgm => ⟨(h.blk g hgm).1, ?_⟩, fun g hgm => ⟨(h.own g hgm).1.kept hg ?_, (h.own g hgm).2⟩, h.apart⟩
  · rw [hg.block g.p (h.lt hgm) (fun e => by
      have hb := (h.blk g hgm).2
      rw [Option.some.inj e] at hb
      exact h1 _ hb)]
    exact (h.blk g hgm).2
  · cases hv : g.v.ownBlock with
    | none => exact .inl rfl
    | some k =>
      refine .inr fun e => ?_
      obtain ⟨cs, hcs⟩ := own_blk (h.own g hgm).1 hv
      rw [Option.some.inj e] at hcs
      exact h2 _ hcs
theorem GrpsOwn.perm {w : World} {base : Nat} {gs gs' : List GV} (h : GrpsOwn w base gs) (hp : gs'.Perm gs) : GrpsOwn w base gs' := by
  refine ⟨fun g hg => h.blk g (hp.mem_iff.1 hg), fun g hg => h.own g (hp.mem_iff.1 hg), (hp.pairwise_iff (fun {a b} hab => ⟨hab.1.symm, ?_⟩)).2 h.apart⟩
  rcases hab.2 with e | e
  · cases hb : b.v.ownBlock with
    | none => exact .inl rfl
    | some k => exact .inr (by rw [e]; simp)
  · exact .inr (Ne.symm e)

/-! ### the sort -/
def gAt (gs : List GV) (i : Nat) : GV := gs.getD i (gs.headD grp0)
theorem gAt_mem {gs : List GV} (h : gs ≠ []) (i : Nat) : gAt gs i ∈ gs := by
  unfold gAt
  rcases Nat.lt_or_ge i gs.length with g | g
  · rw [List.getD_eq_getElem?_getD, List.getElem?_eq_getElem g]; exact List.getElem_mem g
  · rw [List.getD_eq_getElem?_getD, List.getElem?_eq_none g]
    cases gs with
    | nil => exact absurd rfl h
    | cons x l => simp
theorem gAt_lt {gs : List GV} {i : Nat} (h : i < gs.length) : gAt gs i = gs[i] := by
  unfold gAt
  rw [List.getD_eq_getElem?_getD, List.getElem?_eq_getElem h]; rfl
theorem range_gAt (gs : List GV) : (List.range gs.length).map (gAt gs) = gs := by
  apply List.ext_getElem
  · simp
  · intro i h1 h2
    rw [List.getElem_map, List.getElem_range, gAt_lt h2]
theorem grown_sortW {α : Type} [Inhabited α] (enc : α → Value) {w : World} {g off n : Nat} {os : Array Obj} (d : Array α) : w.grownBy (sortWorld enc w g off n d os) (some g) := by
  unfold sortWorld
  refine ⟨rfl, rfl, rfl, by simp, fun k hk hne => ?_⟩
  rw [Go.Sort.heap_grow_old _ _ (by simpa using hk)]
  have : g ≠ k := fun e => hne (by rw [e])
  simp [putRow, mapBlock, Go.Sort.ahead, Array.getElem?_modify, this]
theorem ltK_swo (gs : List GV) : SWO (ltOf fun i j => cmpPl (gAt gs i).key (gAt gs j).key) := by
  have e : ∀ i j, ltOf (fun i j => cmpPl (gAt gs i).key (gAt gs j).key) i j = ltK (gAt gs i).key (gAt gs j).key := fun i j => cmpPl_neg _ _
  refine ⟨fun x => by rw [e]; exact ltK_irrefl _, fun x y z h1 h2 => by rw [e] at *; exact ltK_trans h1 h2, fun x y z h1 h2 => ?_⟩
  rw [e] at *
  cases hx : ltK (gAt gs x).key (gAt gs z).key with
  | false => rfl
  | true =>
    by_cases exy : (gAt gs x).key = (gAt gs y).key
    · rw [exy] at hx; rw [hx] at h2; cases h2
    · have := ltK_total exy h1
      rw [ltK_trans this hx] at h2; cases h2
theorem holds_ptrs {w : World} {base g m cap : Nat} {gs : List GV} (h : w.ownsRow base 125 1 (.slice (some ⟨g, 0, none⟩) m cap) m (gs.map GV.ptr)) (hl : gs.length = m) :
    Holds (fun i => (gAt gs i).ptr) w g 0 (List.range m).toArray ∧ g < w.heap.size ∧ base ≤ g ∧ ∃ cur, w.heap[g]? = some (.cells cur 125 (0, 0)) ∧ m ≤ cap ∧ cap ≤ maxLen ∧ cur.size = cap * 1 := by
  rcases h.2 with ⟨h0, _⟩ | ⟨g', cap', cur, he, hg, hh, hnc, hcap, hsz, htake⟩
  · cases h0
  · cases he
    refine ⟨fun j hj => ⟨?_, by simp [World.frozen?, hh]⟩, (Array.getElem?_eq_some_iff.1 hh).1, hg, cur, hh, hnc, hcap, hsz⟩
    have hj' : j < m := by simpa using hj
    rw [Nat.mul_one] at htake
    have h1 : (cur.toList.take m)[j]? = (gs.map GV.ptr)[j]? := by rw [htake]
    rw [List.getElem?_take_of_lt hj', Array.getElem?_toList] at h1
    rw [Nat.zero_add, cell_of_row w _ _ _ _ (0, 0) hh, h1, List.getElem?_map, List.getElem?_eq_getElem (by omega)]
    have e : (List.range m).toArray[j]! = j := by simp [hj']
    rw [e]
    show some gs[j].ptr = some (gAt gs j).ptr
    rw [gAt_lt (by omega)]
theorem take_put {α : Type} [Inhabited α] (enc : α → Value) (cur : Array Value) (ts : List α) (h : ts.length ≤ cur.size) : (putCells enc 0 ts.toArray cur).toList.take ts.length = ts.map enc := by
  apply List.ext_getElem?
  intro j
  by_cases hj : j < ts.length
  · rw [List.getElem?_take_of_lt hj, Array.getElem?_toList]
    simp [putCells, hj, show j < cur.size by omega]
  · rw [List.getElem?_take_eq_none (by omega), List.getElem?_eq_none (by simp; omega)]
theorem heap_put {α : Type} [Inhabited α] (enc : α → Value) {w : World} {g n : Nat} {os : Array Obj} {cur : Array Value} {e : TypeId} {fr : Nat × Nat} (d : Array α) (hb : w.heap[g]? = some (.cells cur e fr)) :
    (sortWorld enc w g 0 n d os).heap[g]? = some (.cells (putCells enc 0 d cur) e fr) := by
  have hg : g < w.heap.size := (Array.getElem?_eq_some_iff.1 hb).1
  unfold sortWorld
  rw [Go.Sort.heap_grow_old _ _ (by simpa using hg)]
  simp [putRow, mapBlock, Go.Sort.ahead, Array.getElem?_modify, hb, Go.Sort.onCells]

set_option maxRecDepth 100000 in
set_option maxHeartbeats 1000000 in
theorem gsort_any {w : World} {base gb g m cap : Nat} {gs : List GV} (h : w.ownsRow base 125 1 (.slice (some ⟨g, 0, none⟩) m cap) m (gs.map GV.ptr)) (hl : gs.length = m) (hm : 0 < m) (hsm : m ≤ 1000000) (hg : GrpsOwn w gb gs) (hk : gs.Pairwise fun a b => a.key ≠ b.key) :
    Calls Try.prog 83 #[.slice (some ⟨g, 0, none⟩) m cap, .func (.func 84) #[] #[]] w fun e w' => e = .returned (.tuple #[]) ∧ ∃ gs' : List GV, gs'.Perm gs ∧ (gs'.Pairwise fun a b => ltK a.key b.key = true) ∧ w'.ownsRow base 125 1 (.slice (some ⟨g, 0, none⟩) m cap) m (gs'.map GV.ptr) ∧ w.grownBy w' (some g) := by
  have hne : gs ≠ [] := fun e => by rw [e] at hl; simp at hl; omega
  obtain ⟨hH, hgl, hbg, cur, hcur, hmc, hcm, hcs⟩ := holds_ptrs h hl
  have hneq : ∀ x ∈ gs, x.p ≠ g := fun x hx e => by
    have := (hg.blk x hx).2
    rw [e, hcur] at this
    have h2 := (Obj.cells.injEq .. ▸ Option.some.inj this)
    have h3 : (125 : TypeId) = 72 := h2.2.1
    exact absurd h3 (by decide)
  have hcell : ∀ (n : Nat) (os : Array Obj) (dk : Array Nat) (x : GV), x ∈ gs → (sortWorld (fun i => (gAt gs i).ptr) w g 0 n dk os).cell? ⟨x.p, 0, none⟩ = some (.int .i64 x.key.1) ∧ (sortWorld (fun i => (gAt gs i).ptr) w g 0 n dk os).cell? ⟨x.p, 1, none⟩ = some (.string x.key.2) := fun n os dk x hx => by
    have hb := ((grown_sortW (fun i => (gAt gs i).ptr) (w := w) (g := g) (off := 0) (n := n) (os := os) dk).block x.p (hg.lt hx) (fun e => hneq x hx (Option.some.inj e))).trans (hg.blk x hx).2
    exact ⟨cell_blk hb rfl, cell_blk hb rfl⟩
  have eg : ∀ args w, (callFunc 84 args).run Try.prog w = .ok (.enter 84 args) w := enters_of Try.func84 (by kernel_rfl) rfl
  have hcmp : CmpLays1 Try.prog 84 #[] (fun i => (gAt gs i).ptr) (fun i j => cmpPl (gAt gs i).key (gAt gs j).key) g 0 (List.range m).toArray.size w := by
    intro n os dk _ x y
    have hx := hcell n os dk _ (gAt_mem hne x)
    have hy := hcell n os dk _ (gAt_mem hne y)
    exact cmpg hx.1 hx.2 hy.1 hy.2
  have hsz : (List.range m).toArray.size = m := by simp
  have hcon := Any.slices_SortFunc shG (fun i => (gAt gs i).ptr) (fun _ => rfl) (fun i j => cmpPl (gAt gs i).key (gAt gs j).key) (ltK_swo gs) 84 #[] g 0 cap (List.range m).toArray w eg hcmp hH hgl (by omega)
  rw [hsz] at hcon
  refine Calls.mono hcon ?_
  rintro e w' ⟨he, d', n, os, hperm, hsort, rfl⟩
  refine ⟨he, d'.toList.map (gAt gs), ?_, ?_, ?_, grown_sortW _ _⟩
  · have hp := hperm.2.2
    have hd : d'.size = m := by rw [hperm.1, hsz]
    rw [show d'.extract 0 m = d' from by rw [← hd]; exact Array.extract_size, show (List.range m).toArray.extract 0 m = (List.range m).toArray from by rw [← hsz]; simp] at hp
    have h2 := hp.map (gAt gs)
    rw [show (List.range m).toArray.toList = List.range m from rfl, ← hl, range_gAt] at h2
    exact h2
  · have hd : d'.size = m := by rw [hperm.1, hsz]
    have hp := hperm.2.2
    rw [show d'.extract 0 m = d' from by rw [← hd]; exact Array.extract_size, show (List.range m).toArray.extract 0 m = (List.range m).toArray from by rw [← hsz]; simp] at hp
    have hkeys : (d'.toList.map (gAt gs)).Pairwise fun a b => a.key ≠ b.key := by
      have h2 := hp.map (gAt gs)
      rw [show (List.range m).toArray.toList = List.range m from rfl, ← hl, range_gAt] at h2
      exact (h2.pairwise_iff (fun {a b} (hab : a.key ≠ b.key) => hab.symm)).2 hk
    rw [List.pairwise_iff_getElem] at hkeys ⊢
    intro i j hi hj hij
    have hj2 : j < m := by rw [← hd]; simpa using hj
    have h1 := hsort i j (Nat.zero_le _) hij hj2
    have e : ∀ k (hk : k < (d'.toList.map (gAt gs)).length), (d'.toList.map (gAt gs))[k] = gAt gs d'[k]! := fun k hk => by
      have hk2 : k < d'.size := by simpa using hk
      rw [List.getElem_map]
      simp [hk2]
    rw [e i hi, e j hj]
    have hne2 := hkeys i j hi hj hij
    rw [e i hi, e j hj] at hne2
    have h3 : ltK (gAt gs d'[j]!).key (gAt gs d'[i]!).key = false := by rw [← cmpPl_neg]; exact h1
    exact ltK_total (Ne.symm hne2) h3
  · have hd : d'.toList.length = m := by rw [Array.length_toList, hperm.1, hsz]
    refine ⟨by simp [← hd], .inr ⟨g, cap, _, rfl, hbg, heap_put _ _ hcur, hmc, hcm, by simp [putCells, hcs], ?_⟩⟩
    have h2 := take_put (fun i => (gAt gs i).ptr) cur d'.toList (by rw [hd]; omega)
    rw [hd] at h2
    rw [Nat.mul_one, List.map_map]
    exact h2
theorem gsort_nil {w : World} {p : Option Addr} {cap : Nat} {fv : Value} :
    Calls Try.prog 83 #[.slice p 0 cap, fv] w fun e w' => e = .returned (.tuple #[]) ∧ w' = w :=
  AnyF.slices_SortFunc_none (P := Try.prog) (ρ := shG_ren) { shG with } p cap fv w
end Go.Proofs.Ytjbljplgkbnpmaa
end SecSp4
section SecSp5
/- Groups in memory: a row more in one of them; a group more. -/
namespace Go.Proofs.Ytjbljplgkbnpmaa
open Go.ChangeShapes Go.WideShapes Go.Deep Go.RowKit LabPlain RecPlain Gath
set_option linter.unusedVariables false

/-- below B nothing has turned but block M -/
structure Bel1 (B M : Nat) (w w' : World) : Prop where
  os : w'.os = w.os
  tape : w'.tape = w.tape
  output : w'.output = w.output
  size : w.heap.size ≤ w'.heap.size
  block : ∀ k, k < B → k ≠ M → w'.heap[k]? = w.heap[k]?
theorem Bel1.refl (B M : Nat) (w : World) : Bel1 B M w w := ⟨rfl, rfl, rfl, Nat.le_refl _, fun _ _ _ => rfl⟩
theorem Bel1.below {B M : Nat} {a b c : World} (h : Bel1 B M a b) (hb : Below B b c) : Bel1 B M a c :=
  ⟨hb.os.trans h.os, hb.tape.trans h.tape, hb.output.trans h.output, Nat.le_trans h.size hb.size, fun k hk hm => (hb.block k hk).trans (h.block k hk hm)⟩
theorem Bel1.grown {B M : Nat} {a b c : World} (h : Bel1 B M a b) {row : Option Nat} (hg : b.grownBy c row) (hB : B ≤ b.heap.size) (hr : ∀ k, row = some k → B ≤ k ∨ k = M) : Bel1 B M a c :=
  ⟨hg.os.trans h.os, hg.tape.trans h.tape, hg.output.trans h.output, Nat.le_trans h.size hg.size, fun k hk hm => (hg.block k (by omega) (fun e => by
    rcases hr k e.symm with g | g
    · omega
    · exact hm g)).trans (h.block k hk hm)⟩
theorem Bel1.cell {B M : Nat} {w w' : World} (h : Bel1 B M w w') {es : Array MapEntry} {c : Nat} (hm : w.heap[M]? = some (.map es c)) {b o : Nat} {u : Value} (hb : b < B) (hc : w.cell? ⟨b, o, none⟩ = some u) : w'.cell? ⟨b, o, none⟩ = some u := by
  have hne : b ≠ M := fun e => by
    rw [e] at hc
    unfold World.cell? at hc
    simp [hm] at hc
  have e := h.block b hb hne
  unfold World.cell? at hc ⊢
  rw [e]; exact hc
theorem LabsAt.keep1 {w w' : World} {a : Option Addr} {n c : Nat} {l : List Lab} (h : LabsAt w a n c l) {M : Nat} (hb : Bel1 w.heap.size M w w') {es : Array MapEntry} {cl : Nat} (hm : w.heap[M]? = some (.map es cl)) : LabsAt w' a n c l :=
  ⟨h.len, h.cap, h.capm, h.nl, h.size, fun hn => by
    obtain ⟨b, off, ha, hlt, hc⟩ := h.cells hn
    exact ⟨b, off, ha, Nat.lt_of_lt_of_le hlt hb.size, fun i hi => ⟨hb.cell hm hlt (hc i hi).1, hb.cell hm hlt (hc i hi).2⟩⟩⟩
theorem RowsAt.keep1 {w w' : World} {a : Option Addr} {n c : Nat} {l : List RowV} (h : RowsAt w a n c l) {M : Nat} (hb : Bel1 w.heap.size M w w') {es : Array MapEntry} {cl : Nat} (hm : w.heap[M]? = some (.map es cl)) : RowsAt w' a n c l :=
  ⟨h.len, h.cap, h.capm, h.nl, h.fits, fun x hx => (h.labs x hx).keep1 hb hm, fun hn => by
    obtain ⟨b, off, ha, hlt, hc⟩ := h.cells hn
    exact ⟨b, off, ha, Nat.lt_of_lt_of_le hlt hb.size, fun i hi j u hu => hb.cell hm hlt (hc i hi j u hu)⟩⟩

theorem own_heap {w w' : World} {base : Nat} {e : TypeId} {size : Nat} {v : Value} {n : Nat} {xs : List Value} (h : w.ownsRow base e size v n xs) (hb : ∀ g, v.ownBlock = some g → w'.heap[g]? = w.heap[g]?) : w'.ownsRow base e size v n xs := by
  refine ⟨h.1, ?_⟩
  rcases h.2 with h0 | ⟨g, cap, cur, h1, h2, h3, h4⟩
  · exact .inl h0
  · refine .inr ⟨g, cap, cur, h1, h2, ?_, h4⟩
    rw [hb g (by rw [h1]; rfl)]; exact h3
theorem GrpsOwn.ap {w : World} {base : Nat} {gs : List GV} (h : GrpsOwn w base gs) {i l : Nat} (hi : i < gs.length) (hl : l < gs.length) (hne : i ≠ l) : gs[i].p ≠ gs[l].p ∧ (gs[i].v.ownBlock = none ∨ gs[i].v.ownBlock ≠ gs[l].v.ownBlock) := by
  have h1 := List.pairwise_iff_getElem.1 h.apart
  rcases Nat.lt_or_gt_of_ne hne with g | g
  · exact h1 i l hi hl g
  · obtain ⟨e1, e2⟩ := h1 l i hl hi g
    refine ⟨e1.symm, ?_⟩
    rcases e2 with e | e
    · cases hb : gs[i].v.ownBlock with
      | none => exact .inl rfl
      | some k => exact .inr (by rw [e]; simp)
    · exact .inr (Ne.symm e)
/-- a row more -/
def GV.more (g : GV) (a : Option Addr) (c : Nat) (x : RowV) : GV := ⟨g.p, g.win, g.part, a, g.n + 1, c, g.rows ++ [x]⟩
theorem GrpsOwn.step {wS wA : World} {base : Nat} {gs : List GV} (h : GrpsOwn wS base gs) {j : Nat} (hj : j < gs.length) {g : GV} (hg : gs[j] = g) {x : RowV} {a : Option Addr} {c B : Nat} (hB : wS.heap.size ≤ B)
    (hown : wA.ownsRow base 62 9 (.slice a (g.n + 1) c) (g.n + 1) (rcells g.rows ++ x.cells)) (hgrow : wS.grownBy wA g.v.ownBlock) (hloc : (Value.slice a (g.n + 1) c).ownBlock = g.v.ownBlock ∨ (Value.slice a (g.n + 1) c).ownBlock = some B) :
    GrpsOwn (wA.setCell ⟨g.p, 2, none⟩ (.slice a (g.n + 1) c)) base (gs.set j (g.more a c x)) := by
  have hgm : g ∈ gs := hg ▸ List.getElem_mem hj
  have hgo := h.own g hgm
  have hblkA : ∀ y ∈ gs, wA.heap[y.p]? = some (.cells #[.int .i64 y.win, .string y.part, .slice y.a y.n y.c] 72 (0, 0)) := fun y hy => by
    rw [hgrow.block y.p (h.lt hy) (fun e => by
      obtain ⟨cs, hcs⟩ := own_blk hgo.1 e.symm
      rw [(h.blk y hy).2] at hcs
      have h2 := (Obj.cells.injEq .. ▸ Option.some.inj hcs)
      have h3 : (72 : TypeId) = 62 := h2.2.1
      exact absurd h3 (by decide))]
    exact (h.blk y hy).2
  have hrowne : ∀ {v : Value} {n : Nat} {xs : List Value}, wA.ownsRow base 62 9 v n xs → ∀ b, v.ownBlock = some b → b ≠ g.p := fun hv b hb e => by
    obtain ⟨cs, hcs⟩ := own_blk hv hb
    rw [e, hblkA g hgm] at hcs
    have h2 := (Obj.cells.injEq .. ▸ Option.some.inj hcs)
    have h3 : (72 : TypeId) = 62 := h2.2.1
    exact absurd h3 (by decide)
  have hset : ∀ {v : Value} {n : Nat} {xs : List Value}, wA.ownsRow base 62 9 v n xs → (wA.setCell ⟨g.p, 2, none⟩ (.slice a (g.n + 1) c)).ownsRow base 62 9 v n xs := fun hv => own_heap hv (fun b hb => Below.heap_setCell _ _ _ _ (hrowne hv b hb))
  have hmem : ∀ y ∈ gs.set j (g.more a c x), y = g.more a c x ∨ ∃ i, ∃ hi : i < gs.length, i ≠ j ∧ y = gs[i] := fun y hy => by
    obtain ⟨i, hi, rfl⟩ := List.getElem_of_mem hy
    rw [List.length_set] at hi
    rw [List.getElem_set]
    split
    · exact .inl rfl
    · rename_i hne
      exact .inr ⟨i, hi, Ne.symm hne, rfl⟩
  have hltS : ∀ y ∈ gs, ∀ b, y.v.ownBlock = some b → b < wS.heap.size := fun y hy b hb => (Array.getElem?_eq_some_iff.1 (own_blk (h.own y hy).1 hb).choose_spec).1
  refine ⟨fun y hy => ?_, fun y hy => ?_, ?_⟩
  · rcases hmem y hy with rfl | ⟨i, hi, hne, rfl⟩
    · refine ⟨(h.blk g hgm).1, ?_⟩
      show (wA.setCell ⟨g.p, 2, none⟩ _).heap[g.p]? = _
      rw [heap_setCell_same _ _ _ _ _ _ (hblkA g hgm)]; rfl
    · have hm := List.getElem_mem hi
      refine ⟨(h.blk _ hm).1, ?_⟩
      rw [Below.heap_setCell _ _ _ _ (by have := (h.ap hi hj hne).1; rw [hg] at this; exact this)]
      exact hblkA _ hm
  · rcases hmem y hy with rfl | ⟨i, hi, hne, rfl⟩
    · refine ⟨?_, by show (g.rows ++ [x]).length = g.n + 1; rw [List.length_append, hgo.2]; rfl⟩
      show World.ownsRow _ base 62 9 (.slice a (g.n + 1) c) (g.n + 1) (rcells (g.rows ++ [x]))
      rw [rcells_snoc]; exact hset hown
    · have hm := List.getElem_mem hi
      refine ⟨hset ((h.own _ hm).1.kept hgrow ?_), (h.own _ hm).2⟩
      have := (h.ap hi hj hne).2
      rw [hg] at this; exact this
  · rw [List.pairwise_iff_getElem]
    intro i l hi hl hil
    rw [List.length_set] at hi hl
    rw [List.getElem_set, List.getElem_set]
    by_cases e1 : j = i
    · rw [if_pos e1, if_neg (by omega)]
      obtain ⟨q1, q2⟩ := h.ap hj hl (by omega)
      rw [hg] at q1 q2
      refine ⟨q1, ?_⟩
      show (Value.slice a (g.n + 1) c).ownBlock = none ∨ (Value.slice a (g.n + 1) c).ownBlock ≠ gs[l].v.ownBlock
      rcases hloc with e | e
      · rw [e]; exact q2
      · refine .inr fun e2 => ?_
        rw [e] at e2
        have := hltS _ (List.getElem_mem hl) B e2.symm
        omega
    · rw [if_neg e1]
      by_cases e3 : j = l
      · rw [if_pos e3]
        obtain ⟨q1, q2⟩ := h.ap hi hj (by omega)
        rw [hg] at q1 q2
        refine ⟨q1, ?_⟩
        show gs[i].v.ownBlock = none ∨ gs[i].v.ownBlock ≠ (Value.slice a (g.n + 1) c).ownBlock
        rcases hloc with e | e
        · rw [e]; exact q2
        · cases hb : gs[i].v.ownBlock with
          | none => exact .inl rfl
          | some k =>
            refine .inr fun e2 => ?_
            rw [e] at e2
            have := hltS _ (List.getElem_mem hi) k hb
            have := Option.some.inj e2
            omega
      · rw [if_neg e3]
        exact h.ap hi hl (by omega)
/-- a group more, without rows -/
theorem GrpsOwn.snoc {w : World} {base : Nat} {gs : List GV} (h : GrpsOwn w base gs) {g : GV} (h0 : g.a = none ∧ g.n = 0 ∧ g.c = 0 ∧ g.rows = []) (hb : base ≤ g.p) (hblk : w.heap[g.p]? = some (.cells #[.int .i64 g.win, .string g.part, .slice none 0 0] 72 (0, 0))) (hnew : ∀ y ∈ gs, y.p ≠ g.p) : GrpsOwn w base (gs ++ [g]) := by
  obtain ⟨p, win, part, a, n, c, rows⟩ := g
  obtain ⟨rfl, rfl, rfl, rfl⟩ := h0
  refine ⟨fun y hy => ?_, fun y hy => ?_, ?_⟩
  · rcases List.mem_append.1 hy with q | q
    · exact h.blk y q
    · rw [List.mem_singleton.1 q]; exact ⟨hb, hblk⟩
  · rcases List.mem_append.1 hy with q | q
    · exact h.own y q
    · rw [List.mem_singleton.1 q]; exact ⟨World.ownsRow_nil _ _ _ _, rfl⟩
  · rw [List.pairwise_append]
    refine ⟨h.apart, List.pairwise_singleton _ _, fun y hy z hz => ?_⟩
    rw [List.mem_singleton.1 hz]
    refine ⟨hnew y hy, ?_⟩
    show y.v.ownBlock = none ∨ y.v.ownBlock ≠ none
    cases y.v.ownBlock with
    | none => exact .inl rfl
    | some k => exact .inr (by simp)

/-- where a place's group lies -/
def lookG (gs : List GV) (k : Pl) : Option Nat := (gs.find? fun g => decide (g.key = k)).map GV.p
theorem lookG_none {gs : List GV} {k : Pl} (h : ∀ g ∈ gs, g.key ≠ k) : lookG gs k = none := by
  unfold lookG
  rw [List.find?_eq_none.2 (fun g hg => by simpa using h g hg)]; rfl
theorem lookG_at : ∀ {gs : List GV} {j : Nat} (hj : j < gs.length), gs.Pairwise (fun a b => a.key ≠ b.key) → lookG gs gs[j].key = some gs[j].p
  | g :: gs, 0, _, _ => by simp [lookG]
  | g :: gs, j + 1, hj, h => by
    have h2 := List.pairwise_cons.1 h
    have hj2 : j < gs.length := by simpa using hj
    have hne : ¬ g.key = gs[j].key := fun e => h2.1 _ (List.getElem_mem hj2) e
    have ih := lookG_at hj2 h2.2
    unfold lookG at ih ⊢
    rw [List.getElem_cons_succ, List.find?_cons_of_neg (by simpa using hne)]
    exact ih
theorem lookG_snoc {gs : List GV} {g : GV} (h : ∀ y ∈ gs, y.key ≠ g.key) (k : Pl) : lookG (gs ++ [g]) k = if k = g.key then some g.p else lookG gs k := by
  unfold lookG
  rw [List.find?_append]
  by_cases e : k = g.key
  · rw [if_pos e, e, List.find?_eq_none.2 (fun y hy => by simpa using h y hy)]
    simp
  · rw [if_neg e]
    have h2 : ¬ g.key = k := fun e2 => e e2.symm
    have : [g].find? (fun g => decide (g.key = k)) = none := by simp [h2]
    rw [this]; simp
theorem lookG_set {j : Nat} {g' : GV} : ∀ {gs : List GV} {i : Nat} (hi : i < gs.length), g'.key = gs[i].key → g'.p = gs[i].p → ∀ k, lookG (gs.set i g') k = lookG gs k
  | g :: gs, 0, _, h1, h2, k => by
    simp only [List.getElem_cons_zero] at h1 h2
    unfold lookG
    simp only [List.set_cons_zero, List.find?_cons, h1]
    cases decide (g.key = k) <;> simp [h2]
  | g :: gs, i + 1, hi, h1, h2, k => by
    have hi2 : i < gs.length := by simpa using hi
    have ih := lookG_set (j := j) hi2 h1 h2 k
    unfold lookG at ih ⊢
    simp only [List.set_cons_succ, List.find?_cons]
    cases decide (g.key = k)
    · exact ih
    · rfl

/-- a part's text -/
def ptext (L : List Lab) (ss : List ByteArray) : ByteArray := if isSet (partTo L ss L.length) = true then textOf (partTo L ss L.length) else { data := #[] }
theorem ptext_size (L : List Lab) (ss : List ByteArray) : (ptext L ss).size ≤ 300 := by
  unfold ptext
  split
  · rename_i h
    have h1 := textTo_size h (partTo L ss L.length).length (Nat.le_refl _)
    have h4 : (partTo L ss L.length).length ≤ 4 := by unfold isSet at h; simp only [Bool.and_eq_true, decide_eq_true_eq] at h; omega
    unfold textOf
    rw [ByteArray.size_append, show ({ data := #[125] } : ByteArray).size = 1 from rfl]
    omega
  · show (0 : Nat) ≤ 300; omega
theorem ptxt_any {w : World} {a : Option Addr} {n c : Nat} {L : List Lab} {ss : List ByteArray} (h : LabsAt w a n c (partTo L ss L.length)) :
    Calls Try.prog 18 #[.slice a n c] w fun e w' => ∃ er : Int, e = .returned (.tuple #[.string (ptext L ss), .int .i64 er]) ∧ Below w.heap.size w w' := by
  unfold ptext
  cases hs : isSet (partTo L ss L.length) with
  | true => exact (text_yes h hs).mono fun e w' ⟨he, hb⟩ => ⟨0, by rw [he]; rfl, hb⟩
  | false => exact (text_no h hs).mono fun e w' ⟨he, hb⟩ => ⟨4, by rw [he]; rfl, hb⟩
/-- where a row belongs -/
def plS (win : Int) (ss : List ByteArray) (x : RowV) : Pl := (x.r.time.tdiv win, ptext x.r.labs ss)
end Go.Proofs.Ytjbljplgkbnpmaa
end SecSp5
section SecSp6
/- A row is put behind a group's rows, through the map: what holds while the statement's operations come up, in any order. -/
namespace Go.Proofs.Ytjbljplgkbnpmaa
open Go.ChangeShapes Go.WideShapes Go.Deep Go.RowKit LabPlain RecPlain Gath
set_option linter.unusedVariables false

def SpF (M P : Nat) (q : Int) (pt : ByteArray) (g : GV) (x : RowV) : Nat → Value → Prop
  | 0, v => v = .map (some M)
  | 1, v => v = .agg #[.int .i64 q, .string pt]
  | 2, v => v = .pointer (some ⟨P, 0, none⟩)
  | 3, v => v = .map (some M)
  | 4, v => v = .agg #[.int .i64 q, .string pt]
  | 5, v => v = .pointer (some ⟨P, 0, none⟩)
  | 6, v => v = .pointer (some ⟨P, 0, none⟩)
  | 7, v => v = .pointer (some ⟨P, 2, none⟩)
  | 8, v => v = .slice g.a g.n g.c
  | 9, v => v = .agg #[.int .i64 x.r.kind, .int .i64 x.r.time, .slice x.r.la x.r.ln x.r.lc, .string x.r.text, .int .i64 x.r.value, .bool x.r.null, .int .i64 x.who, .int .i64 x.sq, .int .i64 x.pl]
  | 12, v => v = .pointer (some ⟨P, 0, none⟩)
  | 13, v => v = .pointer (some ⟨P, 2, none⟩)
  | _, _ => True
def StA (wS : World) (x : RowV) (l : Bool) (v : Value) (w : World) : Prop :=
  Below wS.heap.size wS w ∧ (l = true → ∃ bb, v = .slice (some ⟨bb, 0, none⟩) 1 1 ∧ ∀ j u, x.cells[j]? = some u → w.cell? ((⟨bb, 0, none⟩ : Addr).add j) = some u)
def StB (wS : World) (base : Nat) (g : GV) (x : RowV) (v : Value) (w : World) : Prop :=
  ∃ a c B, v = .slice a (g.n + 1) c ∧ w.ownsRow base 62 9 (.slice a (g.n + 1) c) (g.n + 1) (rcells g.rows ++ x.cells) ∧ wS.grownBy w g.v.ownBlock ∧ ((Value.slice a (g.n + 1) c).ownBlock = g.v.ownBlock ∨ (Value.slice a (g.n + 1) c).ownBlock = some B) ∧ wS.heap.size ≤ B
structure SpR (wS : World) (base M P : Nat) (q : Int) (pt : ByteArray) (g : GV) (x : RowV) (L : Nat → Bool) (V : Nat → Value) (w : World) : Prop where
  val : ∀ j, L j = true → SpF M P q pt g x j (V j)
  c11 : L 11 = true → L 8 = true ∧ L 10 = true
  c14 : L 14 = true → L 11 = true
  sA : L 11 = false → StA wS x (L 10) (V 10) w
  sB : L 11 = true → L 14 = false → StB wS base g x (V 11) w
  sC : L 14 = true → ∃ wA v, StB wS base g x v wA ∧ w = wA.setCell ⟨P, 2, none⟩ v
section
variable {wS w : World} {base M P : Nat} {q : Int} {pt : ByteArray} {g : GV} {x : RowV} {L : Nat → Bool} {V : Nat → Value}
theorem SpR.start (V : Nat → Value) : SpR wS base M P q pt g x (fun _ => false) V wS.drew :=
  ⟨fun _ h => Bool.noConfusion h, fun h => Bool.noConfusion h, fun h => Bool.noConfusion h, fun _ => ⟨(Below.refl _ _).drew, fun h => Bool.noConfusion h⟩, fun h => Bool.noConfusion h, fun h => Bool.noConfusion h⟩
theorem SpR.no11 (h : SpR wS base M P q pt g x L V w) (h8 : L 8 = false ∨ L 10 = false) : L 11 = false := by
  cases e : L 11 with
  | false => rfl
  | true =>
    have := h.c11 e
    rcases h8 with h8 | h8
    · rw [this.1] at h8; cases h8
    · rw [this.2] at h8; cases h8
theorem SpR.no14 (h : SpR wS base M P q pt g x L V w) (h8 : L 11 = false) : L 14 = false := by
  cases e : L 14 with
  | false => rfl
  | true => rw [h.c14 e] at h8; cases h8
theorem SpR.keep (h : SpR wS base M P q pt g x L V w) {b : Nat} (hb : b < wS.heap.size) (h1 : some b ≠ g.v.ownBlock) (h2 : b ≠ P) : w.heap[b]? = wS.heap[b]? := by
  cases e : L 11 with
  | false => exact (h.sA e).1.block b hb
  | true =>
    cases e2 : L 14 with
    | false =>
      obtain ⟨a, c, B, _, _, hg, _⟩ := h.sB e e2
      exact hg.block b hb h1
    | true =>
      obtain ⟨wA, v, ⟨a, c, B, _, _, hg, _⟩, rfl⟩ := h.sC e2
      rw [Below.heap_setCell _ _ _ _ h2]
      exact hg.block b hb h1
theorem SpR.vals (h : SpR wS base M P q pt g x L V w) {j : Nat} {u : Value} (hv : SpF M P q pt g x j u) : ∀ m, (L m || decide (m = j)) = true → SpF M P q pt g x m (upd V j u m) := by
  intro m hm
  unfold upd
  by_cases e : m = j
  · subst e; simp; exact hv
  · simp [e] at hm ⊢
    exact h.val m hm
theorem SpR.put (h : SpR wS base M P q pt g x L V w) (j : Nat) (u : Value) (hj : (decide (10 = j) || decide (11 = j) || decide (14 = j)) = false) (hv : SpF M P q pt g x j u) : SpR wS base M P q pt g x (fun m => L m || decide (m = j)) (upd V j u) w := by
  simp only [Bool.or_eq_false_iff, decide_eq_false_iff_not] at hj
  have e10 : upd V j u 10 = V 10 := by unfold upd; rw [if_neg hj.1.1]
  have e11 : upd V j u 11 = V 11 := by unfold upd; rw [if_neg hj.1.2]
  refine ⟨h.vals hv, ?_, ?_, ?_, ?_, ?_⟩
  · simp only [decide_eq_false hj.1.2, decide_eq_false hj.1.1, Bool.or_false]
    intro e
    have := h.c11 e
    simp [this.1, this.2]
  · simp only [decide_eq_false hj.1.2, decide_eq_false hj.2, Bool.or_false]
    exact h.c14
  · simp only [decide_eq_false hj.1.2, decide_eq_false hj.1.1, Bool.or_false, e10]
    exact h.sA
  · simp only [decide_eq_false hj.1.2, decide_eq_false hj.2, Bool.or_false, e11]
    exact h.sB
  · simp only [decide_eq_false hj.2, Bool.or_false]
    exact h.sC
theorem SpR.put10 (h : SpR wS base M P q pt g x L V w) (h10 : L 10 = false) : SpR wS base M P q pt g x (fun m => L m || decide (m = 10)) (upd V 10 (.slice (some ⟨w.heap.size, 0, none⟩) 1 1)) (w.alloc (.cells #[.int .i64 x.r.kind, .int .i64 x.r.time, .slice x.r.la x.r.ln x.r.lc, .string x.r.text, .int .i64 x.r.value, .bool x.r.null, .int .i64 x.who, .int .i64 x.sq, .int .i64 x.pl] 62)) := by
  have h11 := h.no11 (.inr h10)
  have h14 := h.no14 h11
  refine ⟨h.vals trivial, ?_, ?_, ?_, ?_, ?_⟩
  · intro e; simp [h11] at e
  · intro e; simp [h14] at e
  · intro _
    refine ⟨(h.sA h11).1.alloc (h.sA h11).1.size _, fun _ => ⟨w.heap.size, by simp [upd], row_src w x 62⟩⟩
  · intro e; simp [h11] at e
  · intro e; simp [h14] at e
theorem SpR.put11 (h : SpR wS base M P q pt g x L V w) (h11 : L 11 = false) (h8 : L 8 = true) (h10 : L 10 = true) {wA : World} {v : Value} (hv : StB wS base g x v wA) : SpR wS base M P q pt g x (fun m => L m || decide (m = 11)) (upd V 11 v) wA := by
  have h14 := h.no14 h11
  refine ⟨h.vals trivial, fun _ => by simp [h8, h10], ?_, ?_, ?_, ?_⟩
  · intro e; simp
  · intro e; simp at e
  · intro _ _
    simp [upd]; exact hv
  · intro e; simp [h14] at e
theorem SpR.put14 (h : SpR wS base M P q pt g x L V w) (h11 : L 11 = true) (h14 : L 14 = false) (u : Value) : SpR wS base M P q pt g x (fun m => L m || decide (m = 14)) (upd V 14 u) (w.setCell ⟨P, 2, none⟩ (V 11)) := by
  refine ⟨h.vals trivial, fun _ => by simp [h.c11 h11], fun _ => by simp [h11], ?_, ?_, ?_⟩
  · intro e; simp [h11] at e
  · intro _ e; simp at e
  · intro _
    exact ⟨w, V 11, h.sB h11 h14, rfl⟩
end
/-- behind k rows -/
structure SpI (w w3 wr : World) (M k m : Nat) (a : Option Addr) (cp : Nat) (kf : RowV → Pl) (rs : List RowV) (gs : List GV) : Prop where
  len : gs.length = m
  lek : m ≤ k
  row : wr.ownsRow w3.heap.size 125 1 (.slice a m cp) m (gs.map GV.ptr)
  map : MapG wr M k (lookG gs)
  own : GrpsOwn wr w3.heap.size gs
  inv : Gath.Inv kf (gs.map GV.pair) (rs.take k)
  bel : Below w.heap.size w wr
  bel1 : Bel1 w3.heap.size M w3 wr
  few : ∀ g ∈ gs, g.n ≤ k
/-- in the midst of a round: the row's group is there -/
structure Mid (w w3 wS : World) (M k : Nat) (gs : List GV) : Prop where
  map : MapG wS M (k + 1) (lookG gs)
  own : GrpsOwn wS w3.heap.size gs
  keys : gs.Pairwise fun a b => a.key ≠ b.key
  bel : Below w.heap.size w wS
  bel1 : Bel1 w3.heap.size M w3 wS
  few : ∀ g ∈ gs, g.n ≤ k
theorem keys_ne {kf : RowV → Pl} {gs : List GV} {xs : List RowV} (h : Gath.Inv kf (gs.map GV.pair) xs) : gs.Pairwise fun a b => a.key ≠ b.key := by
  have h1 := h.nodup
  rw [List.pairwise_map] at h1
  exact h1
theorem step_append_own_b {P : Program} {o : Oper} {a : Act} {w : World} {K : Act → World → Prop} {Q : Exit → Act → World → Prop} {E : Prop} {b : Bool} (hgd : b = true) (s x : Operand) (t : TypeId)
    (ho : o.op = .call { callee := .builtin .append, args := #[s, x], argTypes := #[t, t] })
    (base : Nat) (e : TypeId) (i : TypeInfo) (z : Value) (size bytes : Nat) (ht : P.underlying t = some (.slice e)) (hi : P.info? e = some i) (hz : i.zero = some z)
    (hsize : i.size = size) (hby : i.bytes = bytes) (hzs : z.cells.size = size) (hsz : 0 < size)
    (v : Value) (n : Nat) (xs : List Value) (hs : a.eval s = v) (hown : w.ownsRow base e size v n xs)
    (ad : Addr) (m c : Nat) (news : List Value) (hx : a.eval x = .slice (some ad) m c) (hl : news.length = m * size) (hnews : ∀ j u, news[j]? = some u → w.cell? (ad.add j) = some u) (h1 : ∀ u ∈ news, u.oneCell' = true)
    (h63 : n + m ≤ maxLen) (hbytes : (n + m) * bytes ≤ 140737488355328) (hbase : base ≤ w.heap.size)
    (h : ∀ v' w', w'.ownsRow base e size v' (n + m) (xs ++ news) → w.grownBy w' v.ownBlock → (v'.ownBlock = v.ownBlock ∨ v'.ownBlock = some w.heap.size) → K (a.put o.dst v') w') :
    if b = true then Oper.wp P o a w K Q else E := by
  rw [if_pos hgd]
  have h0 := step_append_own_at2 (P := P) (ops := #[]) (E := True) (o := { o with guard := none }) (a := a) (w := w) (K := K) (Q := Q) rfl s x t ho base e i z size bytes ht hi hz hsize hby hzs hsz v n xs hs hown ad m c news hx hl hnews h1 h63 hbytes hbase h
  rw [if_pos (by simp [Region.wanted])] at h0
  exact h0
theorem grown_low {a b c : World} {row : Option Nat} (h : Below a.heap.size a b) (hg : b.grownBy c row) : a.grownBy c row :=
  ⟨hg.os.trans h.os, hg.tape.trans h.tape, hg.output.trans h.output, Nat.le_trans h.size hg.size, fun k hk hne => (hg.block k (Nat.lt_of_lt_of_le hk h.size) hne).trans (h.block k hk)⟩
theorem Bel1.setCell {B M : Nat} {a b : World} (h : Bel1 B M a b) {p : Nat} (hp : B ≤ p) (o : Nat) (v : Value) : Bel1 B M a (b.setCell ⟨p, o, none⟩ v) := by
  have hb : Below B b (b.setCell ⟨p, o, none⟩ v) := (Below.refl _ _).setCell hp _
  exact ⟨hb.os.trans h.os, hb.tape.trans h.tape, hb.output.trans h.output, Nat.le_trans h.size hb.size, fun k hk hm => (hb.block k hk).trans (h.block k hk hm)⟩
theorem SpI.next {w w3 wS wA : World} {M k m j B : Nat} {ag a : Option Addr} {cp c : Nat} {kf : RowV → Pl} {rs : List RowV} {GS : List GV} {g : GV} {x : RowV} (h : Mid w w3 wS M k GS)
    (hrow : wS.ownsRow w3.heap.size 125 1 (.slice ag m cp) m (GS.map GV.ptr)) (hj : j < GS.length) (hg : GS[j] = g) (hlen : GS.length = m) (hm : m ≤ k + 1) (hB : wS.heap.size ≤ B) (h3 : w.heap.size ≤ w3.heap.size)
    (hown : wA.ownsRow w3.heap.size 62 9 (.slice a (g.n + 1) c) (g.n + 1) (rcells g.rows ++ x.cells)) (hgrow : wS.grownBy wA g.v.ownBlock) (hloc : (Value.slice a (g.n + 1) c).ownBlock = g.v.ownBlock ∨ (Value.slice a (g.n + 1) c).ownBlock = some B)
    (hinv : Gath.Inv kf ((GS.set j (g.more a c x)).map GV.pair) (rs.take (k + 1))) :
    SpI w w3 (wA.setCell ⟨g.p, 2, none⟩ (.slice a (g.n + 1) c)) M (k + 1) m ag cp kf rs (GS.set j (g.more a c x)) := by
  have hgm : g ∈ GS := hg ▸ List.getElem_mem hj
  have hgo := h.own.own g hgm
  have hblt : ∀ b, g.v.ownBlock = some b → w3.heap.size ≤ b := fun b hb => (hgo.1.lt b hb).1
  have hp3 := (h.own.blk g hgm).1
  have hgA : wA.heap[g.p]? = some (.cells #[.int .i64 g.win, .string g.part, .slice g.a g.n g.c] 72 (0, 0)) := by
    rw [hgrow.block g.p (h.own.lt hgm) (fun e => by
      obtain ⟨cs, hcs⟩ := own_blk hgo.1 e.symm
      rw [(h.own.blk g hgm).2] at hcs
      have h2 := (Obj.cells.injEq .. ▸ Option.some.inj hcs)
      have h3 : (72 : TypeId) = 62 := h2.2.1
      exact absurd h3 (by decide))]
    exact (h.own.blk g hgm).2
  refine ⟨by rw [List.length_set]; exact hlen, hm, ?_, ?_, h.own.step hj hg hB hown hgrow hloc, hinv, ?_, ?_, ?_⟩
  · have e : (GS.set j (g.more a c x)).map GV.ptr = GS.map GV.ptr := by
      rw [List.map_set]
      have e2 : (g.more a c x).ptr = (GS.map GV.ptr)[j]'(by rw [List.length_map]; exact hj) := by rw [List.getElem_map, hg]; rfl
      rw [e2, List.set_getElem_self]
    rw [e]
    refine own_heap (hrow.kept hgrow (own_ne2 hrow hgo.1 (by decide))) (fun b hb => Below.heap_setCell _ _ _ _ (fun e3 => ?_))
    have hr2 := hrow.kept hgrow (own_ne2 hrow hgo.1 (by decide))
    obtain ⟨cs, hcs⟩ := own_blk hr2 hb
    simp only at e3
    rw [e3, hgA] at hcs
    have h2 := (Obj.cells.injEq .. ▸ Option.some.inj hcs)
    have h3 : (72 : TypeId) = 125 := h2.2.1
    exact absurd h3 (by decide)
  · obtain ⟨es, cl, hms⟩ := h.map.obj
    have e1 : lookG (GS.set j (g.more a c x)) = lookG GS := funext fun k' => lookG_set (j := j) hj (by rw [hg]; rfl) (by rw [hg]; rfl) k'
    rw [e1]
    refine h.map.same ?_
    rw [Below.heap_setCell _ _ _ _ (fun e3 => by
      simp only at e3
      have := (h.own.blk g hgm).2
      rw [← e3, hms] at this
      cases this)]
    exact hgrow.block M h.map.lt (fun e => by
      obtain ⟨cs, hcs⟩ := own_blk hgo.1 e.symm
      rw [hms] at hcs; cases hcs)
  · exact (h.bel.grown hgrow h.bel.size (fun b hb => Nat.le_trans h3 (hblt b hb))).setCell (by show w.heap.size ≤ g.p; omega) _
  · exact (h.bel1.grown hgrow h.bel1.size (fun b hb => .inl (hblt b hb))).setCell hp3 _ _
  · intro y hy
    obtain ⟨i, hi, rfl⟩ := List.getElem_of_mem hy
    rw [List.getElem_set]
    split
    · show g.n + 1 ≤ k + 1
      have := h.few g hgm; omega
    · have := h.few _ (List.getElem_mem (by rw [List.length_set] at hi; exact hi)); omega

/-! ### a group more -/
theorem keys_ne9 {kf : RowV → Pl} {gs : List GV} {xs : List RowV} (h : Gath.Inv kf (gs.map GV.pair) xs) : gs.Pairwise fun a b => a.key ≠ b.key := by
  have h1 := h.nodup
  rw [List.pairwise_map] at h1
  exact h1
theorem grown_any {w w' : World} (h : w.grownBy w' none) (b : Nat) : w.grownBy w' (some b) := ⟨h.os, h.tape, h.output, h.size, fun k hk _ => h.block k hk (by simp)⟩
theorem GrpsOwn.row {w w' : World} {base b9 : Nat} {gs : List GV} (h : GrpsOwn w base gs) {v : Value} {m : Nat} {xs : List Value} (hr : w.ownsRow b9 125 1 v m xs) (hg : w.grownBy w' v.ownBlock) : GrpsOwn w' base gs := by
  cases hv : v.ownBlock with
  | none =>
    rw [hv] at hg
    refine h.other (b := w.heap.size) (grown_any hg _) (fun cs e => ?_) (fun cs e => ?_)
    all_goals
      have := (Array.getElem?_eq_some_iff.1 e).1
      omega
  | some b =>
    rw [hv] at hg
    obtain ⟨cs, hcs⟩ := own_blk hr hv
    refine h.other hg (fun cs' e => ?_) (fun cs' e => ?_)
    · rw [hcs] at e
      have h2 := (Obj.cells.injEq .. ▸ Option.some.inj e)
      have h3 : (125 : TypeId) = 72 := h2.2.1
      exact absurd h3 (by decide)
    · rw [hcs] at e
      have h2 := (Obj.cells.injEq .. ▸ Option.some.inj e)
      have h3 : (125 : TypeId) = 62 := h2.2.1
      exact absurd h3 (by decide)
/-- what has turned since the group was laid: the map, the row of pointers -/
structure New9 (wg wm wa w9 : World) (M b9 : Nat) (v : Value) : Prop where
  gm : wg.grownBy wm (some M)
  ga : Below wm.heap.size wm wa
  rw9 : ∃ m xs, wm.ownsRow b9 125 1 v m xs
  g9 : wa.grownBy w9 v.ownBlock
theorem New9.kept {wg wm wa w9 : World} {M b9 : Nat} {v : Value} (h : New9 wg wm wa w9 M b9 v) {b : Nat} {cs : Array Value} {t : TypeId} (hb : wg.heap[b]? = some (.cells cs t (0, 0))) (hm : ∃ es c, wg.heap[M]? = some (.map es c)) (ht : t ≠ 125) : w9.heap[b]? = some (.cells cs t (0, 0)) := by
  obtain ⟨es, c, hms⟩ := hm
  obtain ⟨m, xs, hr⟩ := h.rw9
  have hlt := (Array.getElem?_eq_some_iff.1 hb).1
  have hbm : b ≠ M := fun e => by rw [e, hms] at hb; cases hb
  have h1 : wm.heap[b]? = some (.cells cs t (0, 0)) := (h.gm.block b hlt (fun e => hbm (Option.some.inj e))).trans hb
  have hlt1 := (Array.getElem?_eq_some_iff.1 h1).1
  have h2 : wa.heap[b]? = some (.cells cs t (0, 0)) := (h.ga.block b hlt1).trans h1
  refine (h.g9.block b (Array.getElem?_eq_some_iff.1 h2).1 (fun e => ?_)).trans h2
  obtain ⟨cs', hcs⟩ := own_blk hr e.symm
  rw [h1] at hcs
  have h5 := (Obj.cells.injEq .. ▸ Option.some.inj hcs)
  exact ht h5.2.1
theorem SpI.mid_new {w w3 wr wg wm wa w9 : World} {M k m cp P : Nat} {a : Option Addr} {kf : RowV → Pl} {rs : List RowV} {gs : List GV} {q : Int} {pt : ByteArray} (HI : SpI w w3 wr M k m a cp kf rs gs)
    (hbg : Below wr.heap.size wr wg) (hP : wr.heap.size ≤ P) (hblk : wg.heap[P]? = some (.cells #[.int .i64 q, .string pt, .slice none 0 0] 72 (0, 0))) (hno : ∀ y ∈ gs, y.key ≠ (q, pt))
    (hmap : MapG wm M (k + 1) (fun j => if j = (q, pt) then some P else lookG gs j)) (h9 : New9 wg wm wa w9 M w3.heap.size (.slice a m cp)) (h3 : w.heap.size ≤ w3.heap.size) (hM : w.heap.size ≤ M) :
    Mid w w3 w9 M k (gs ++ [⟨P, q, pt, none, 0, 0, []⟩]) := by
  have hmg := (HI.map.below hbg).obj
  obtain ⟨es, cl, hms⟩ := hmg
  have hrg := own_below HI.row hbg
  have hrm : wm.ownsRow w3.heap.size 125 1 (.slice a m cp) m (gs.map GV.ptr) := hrg.kept h9.gm (by
    cases hv : (Value.slice a m cp).ownBlock with
    | none => exact .inl rfl
    | some b =>
      refine .inr fun e => ?_
      obtain ⟨cs, hcs⟩ := own_blk hrg hv
      rw [Option.some.inj e, hms] at hcs
      cases hcs)
  have hra := own_below hrm h9.ga
  have hlt3 : w3.heap.size ≤ wr.heap.size := HI.bel1.size
  have hog : GrpsOwn wg w3.heap.size gs := HI.own.below hbg
  have hom : GrpsOwn wm w3.heap.size gs := hog.other h9.gm (fun cs e => by rw [hms] at e; cases e) (fun cs e => by rw [hms] at e; cases e)
  have hlP : P < wg.heap.size := (Array.getElem?_eq_some_iff.1 hblk).1
  have hblkm : wm.heap[P]? = some (.cells #[.int .i64 q, .string pt, .slice none 0 0] 72 (0, 0)) := (h9.gm.block P hlP (fun e => by rw [Option.some.inj e, hms] at hblk; cases hblk)).trans hblk
  have hoS : GrpsOwn wm w3.heap.size (gs ++ [⟨P, q, pt, none, 0, 0, []⟩]) := hom.snoc ⟨rfl, rfl, rfl, rfl⟩ (by show w3.heap.size ≤ P; omega) hblkm (fun y hy e => by
    have := HI.own.lt hy
    simp only at e
    omega)
  have hbelg : Below w.heap.size w wg := HI.bel.trans (hbg.mono HI.bel.size)
  have hbelm : Below w.heap.size w wm := hbelg.grown h9.gm hbelg.size (fun b hb => by cases hb; exact hM)
  have hbela : Below w.heap.size w wa := hbelm.trans (h9.ga.mono hbelm.size)
  have hb1g : Bel1 w3.heap.size M w3 wg := HI.bel1.below (hbg.mono hlt3)
  have hb1m : Bel1 w3.heap.size M w3 wm := hb1g.grown h9.gm hb1g.size (fun b hb => by cases hb; exact .inr rfl)
  have hb1a : Bel1 w3.heap.size M w3 wa := hb1m.below (h9.ga.mono hb1m.size)
  refine ⟨?_, (hoS.below h9.ga).row hra h9.g9, ?_, ?_, ?_, ?_⟩
  · have e : lookG (gs ++ [⟨P, q, pt, none, 0, 0, []⟩]) = fun j => if j = (q, pt) then some P else lookG gs j := funext fun j => lookG_snoc (g := ⟨P, q, pt, none, 0, 0, []⟩) hno j
    rw [e]
    have hma := hmap.below h9.ga
    obtain ⟨es2, cl2, hms2⟩ := hma.obj
    exact hma.kept h9.g9 (fun e => by
      obtain ⟨cs, hcs⟩ := own_blk hra e.symm
      rw [hms2] at hcs; cases hcs)
  · rw [List.pairwise_append]
    refine ⟨keys_ne9 HI.inv, List.pairwise_singleton _ _, fun y hy z hz => ?_⟩
    rw [List.mem_singleton.1 hz]
    exact hno y hy
  · exact hbela.grown h9.g9 hbela.size (fun b hb => Nat.le_trans h3 (hra.lt b hb).1)
  · exact hb1a.grown h9.g9 hb1a.size (fun b hb => .inl (hra.lt b hb).1)
  · intro y hy
    rcases List.mem_append.1 hy with g | g
    · exact HI.few y g
    · rw [List.mem_singleton.1 g]; exact Nat.zero_le _
end Go.Proofs.Ytjbljplgkbnpmaa
end SecSp6
section SecSp7
/- The groups that a split answers: as they lie in memory. -/
namespace Go.Proofs.Ytjbljplgkbnpmaa
open Go.ChangeShapes Go.WideShapes Go.Deep Go.RowKit LabPlain RecPlain Gath
set_option linter.unusedVariables false

def GV.cells (g : GV) : List Value := [.int .i64 g.win, .string g.part, .slice g.a g.n g.c]
def gcells (gs : List GV) : List Value := gs.flatMap GV.cells
theorem gcells_len (l : List GV) : (gcells l).length = l.length * 3 := flat_len GV.cells 3 (fun _ => rfl) l
theorem gcells_snoc (l : List GV) (x : GV) : gcells (l ++ [x]) = gcells l ++ x.cells := by unfold gcells; simp
theorem gcells_one (x : GV) : ∀ u ∈ x.cells, u.oneCell' = true := by
  intro u hu
  simp [GV.cells] at hu
  rcases hu with rfl | rfl | rfl <;> rfl
theorem group_info : (Try.prog.info? 72).map (fun i => (i.zero, i.size, i.bytes)) = some (some (.agg #[.int .i64 0, .string ByteArray.empty, .slice none 0 0]), 3, 48) := by kernel_rfl
structure GrpsAt (w : World) (a : Option Addr) (n c : Nat) (l : List GV) : Prop where
  len : l.length = n
  cap : n ≤ c
  capm : c ≤ 9223372036854775807
  nl : a = none → c = 0
  rows : ∀ g ∈ l, RowsAt w g.a g.n g.c g.rows
  cells : 0 < n → ∃ b off, a = some ⟨b, off, none⟩ ∧ b < w.heap.size ∧ ∀ i, i < n → ∀ j u, (l.getD i grp0).cells[j]? = some u → w.cell? ⟨b, off + i * 3 + j, none⟩ = some u
theorem GrpsAt.keep {w w' : World} {a : Option Addr} {n c : Nat} {l : List GV} (h : GrpsAt w a n c l) {B : Nat} (hb : Below B w w') (hB : w.heap.size ≤ B) : GrpsAt w' a n c l :=
  ⟨h.len, h.cap, h.capm, h.nl, fun x hx => (h.rows x hx).keep hb hB, fun hn => by
    obtain ⟨b, off, ha, hlt, hc⟩ := h.cells hn
    exact ⟨b, off, ha, Nat.lt_of_lt_of_le hlt hb.size, fun i hi j u hu => (hb.cell (p := ⟨b, off + i * 3 + j, none⟩) (Nat.lt_of_lt_of_le hlt hB)).trans (hc i hi j u hu)⟩⟩
theorem GrpsAt.kept {w w' : World} {a : Option Addr} {n c : Nat} {l : List GV} (h : GrpsAt w a n c l) (hb : Below w.heap.size w w') : GrpsAt w' a n c l := h.keep hb (Nat.le_refl _)
theorem grp_mem {l : List GV} {i : Nat} (h : i < l.length) : l.getD i grp0 ∈ l := by
  have : l.getD i grp0 = l[i] := by simp [h]
  rw [this]; exact List.getElem_mem h
theorem GrpsAt.three {w : World} {b off n : Nat} {l : List GV} (hc : ∀ i, i < n → ∀ j u, (l.getD i grp0).cells[j]? = some u → w.cell? ⟨b, off + i * 3 + j, none⟩ = some u) {i : Nat} (hi : i < n) {x : GV} (hr : x = l.getD i grp0) :
    w.cell? ⟨b, off + i * 3, none⟩ = some (.int .i64 x.win) ∧ w.cell? ⟨b, off + i * 3 + 1, none⟩ = some (.string x.part) ∧ w.cell? ⟨b, off + i * 3 + 2, none⟩ = some (.slice x.a x.n x.c) := by
  subst hr
  exact ⟨hc i hi 0 _ rfl, hc i hi 1 _ rfl, hc i hi 2 _ rfl⟩
theorem GrpsAt.ofOwn {w : World} {base : Nat} {a : Option Addr} {n c : Nat} {l : List GV} (h : w.ownsRow base 72 3 (.slice a n c) n (gcells l)) (hl : l.length = n) (hr : ∀ g ∈ l, RowsAt w g.a g.n g.c g.rows) : GrpsAt w a n c l := by
  rcases h.2 with ⟨he, h0⟩ | ⟨g, cap, cur, he, hg, hh, hnc, hcap, hsz, htake⟩
  · cases he
    obtain rfl : l = [] := List.eq_nil_of_length_eq_zero hl
    exact ⟨rfl, Nat.le_refl _, by omega, (fun _ => rfl), (fun x hx => by cases hx), fun h => absurd h (Nat.lt_irrefl 0)⟩
  · cases he
    refine ⟨hl, hnc, by unfold maxLen at hcap; exact hcap, (fun e => by cases e), hr, fun hp => ⟨g, 0, rfl, (Array.getElem?_eq_some_iff.1 hh).1, fun i hi j u hu => ?_⟩⟩
    have hj : j < 3 := (List.getElem?_eq_some_iff.1 hu).1
    have h2 : (gcells l)[i * 3 + j]? = some u := by
      unfold gcells
      rw [flat_at GV.cells 3 (fun _ => rfl) grp0 l i j (by omega) hj, hu]
    rw [Nat.zero_add, cell_of_row w _ _ _ _ (0, 0) hh, ← h2, ← htake, List.getElem?_take_of_lt (by omega), Array.getElem?_toList]
theorem rows_of_own {w : World} {base : Nat} {a : Option Addr} {n c : Nat} {l : List RowV} (h : w.ownsRow base 62 9 (.slice a n c) n (rcells l)) (hl : l.length = n) (hf : ∀ x ∈ l, x.fits) (hb : ∀ x ∈ l, LabsAt w x.r.la x.r.ln x.r.lc x.r.labs) : RowsAt w a n c l := by
  rcases h.2 with ⟨he, h0⟩ | ⟨g, cap, cur, he, hg, hh, hnc, hcap, hsz, htake⟩
  · cases he
    obtain rfl : l = [] := List.eq_nil_of_length_eq_zero hl
    exact RowsAt.empty w none 0 (by omega) (fun _ => rfl)
  · cases he
    refine ⟨hl, hnc, by unfold maxLen at hcap; exact hcap, (fun e => by cases e), hf, hb, fun hp => ⟨g, 0, rfl, (Array.getElem?_eq_some_iff.1 hh).1, fun i hi j u hu => ?_⟩⟩
    have hj : j < 9 := (List.getElem?_eq_some_iff.1 hu).1
    have h2 : (rcells l)[i * 9 + j]? = some u := by
      unfold rcells
      rw [flat_at RowV.cells 9 (fun _ => rfl) row0 l i j (by omega) hj, hu]
    rw [Nat.zero_add, cell_of_row w _ _ _ _ (0, 0) hh, ← h2, ← htake, List.getElem?_take_of_lt (by omega), Array.getElem?_toList]
theorem grp_src (w : World) (x : GV) (t : TypeId) : ∀ j u, x.cells[j]? = some u → (w.alloc (.cells #[.int .i64 x.win, .string x.part, .slice x.a x.n x.c] t)).cell? ((⟨w.heap.size, 0, none⟩ : Addr).add j) = some u := by
  intro j u hj
  have hblk := heap_alloc_new w (.cells #[.int .i64 x.win, .string x.part, .slice x.a x.n x.c] t)
  have hadd : (⟨w.heap.size, 0, none⟩ : Addr).add j = ⟨w.heap.size, 0 + j, none⟩ := by unfold Addr.add; split <;> simp_all
  rw [hadd, Nat.zero_add, cell_of_row _ _ _ _ _ (0, 0) hblk]
  show ([.int .i64 x.win, .string x.part, .slice x.a x.n x.c] : List Value).toArray[j]? = some u
  rw [List.getElem?_toArray]
  exact hj

/-- the sort of the pointers, of however many -/
theorem gsort_all {w : World} {base gb m cap : Nat} {a : Option Addr} {gs : List GV} (h : w.ownsRow base 125 1 (.slice a m cap) m (gs.map GV.ptr)) (hl : gs.length = m) (hsm : m ≤ 1000000) (hg : GrpsOwn w gb gs) (hk : gs.Pairwise fun a b => a.key ≠ b.key) :
    Calls Try.prog 83 #[.slice a m cap, .func (.func 84) #[] #[]] w fun e w' => e = .returned (.tuple #[]) ∧ ∃ gs' : List GV, gs'.Perm gs ∧ (gs'.Pairwise fun a b => ltK a.key b.key = true) ∧ w'.ownsRow base 125 1 (.slice a m cap) m (gs'.map GV.ptr) ∧ w.grownBy w' (Value.slice a m cap).ownBlock := by
  rcases Nat.eq_zero_or_pos m with h0 | hp
  · subst h0
    obtain rfl : gs = [] := List.eq_nil_of_length_eq_zero hl
    refine gsort_nil.mono ?_
    rintro e w' ⟨rfl, rfl⟩
    exact ⟨rfl, [], List.Perm.refl _, List.Pairwise.nil, h, World.grownBy.refl _ _⟩
  · obtain ⟨g, c, he⟩ := own_some2 h hp
    cases he
    refine (gsort_any h hl hp hsm hg hk).mono ?_
    rintro e w' ⟨rfl, gs', h1, h2, h3, h4⟩
    exact ⟨rfl, gs', h1, h2, h3, h4⟩
/-- behind the gathering: all that is needed of the sorted groups -/
structure Parted (w w3 w' : World) (kf : RowV → Pl) (rs : List RowV) (gs : List GV) : Prop where
  own : GrpsOwn w' w3.heap.size gs
  rows : ∀ g ∈ gs, RowsAt w' g.a g.n g.c g.rows
  inv : Gath.Inv kf (gs.map GV.pair) rs
  up : gs.Pairwise fun a b => ltK a.key b.key = true
  bel : Below w.heap.size w w'
  le3 : w3.heap.size ≤ w'.heap.size
theorem SpI.parted {w w3 wr w' : World} {M k m cp g3 n c : Nat} {a : Option Addr} {kf : RowV → Pl} {rs : List RowV} {gs gs' : List GV} (HI : SpI w w3 wr M k m a cp kf rs gs) (hk : rs.length ≤ k) (h3 : w.heap.size ≤ w3.heap.size) (hM : M < w3.heap.size) {es : Array MapEntry} {cl : Nat} (hom : w3.heap[M]? = some (.map es cl))
    (hrs : RowsAt w3 (some ⟨g3, 0, none⟩) n c rs) (hp : gs'.Perm gs) (hup : gs'.Pairwise fun a b => ltK a.key b.key = true) (hg : wr.grownBy w' (Value.slice a m cp).ownBlock) : Parted w w3 w' kf rs gs' := by
  have hown : GrpsOwn w' w3.heap.size gs := HI.own.row HI.row hg
  have hb1 : Bel1 w3.heap.size M w3 w' := HI.bel1.grown hg HI.bel1.size (fun b hb => .inl (HI.row.lt b hb).1)
  have hinv : Gath.Inv kf (gs'.map GV.pair) rs := by
    have h := HI.inv
    rw [List.take_of_length_le hk] at h
    exact h.perm (hp.map _)
  refine ⟨hown.perm hp, fun g hgm => ?_, hinv, hup, HI.bel.grown hg HI.bel.size (fun b hb => Nat.le_trans h3 (HI.row.lt b hb).1), hb1.size⟩
  have hgo := hown.own g (hp.mem_iff.1 hgm)
  have hsub : ∀ x ∈ g.rows, x ∈ rs := fun x hx => by
    have h1 := hinv.rows g.pair (List.mem_map_of_mem hgm)
    have h2 : x ∈ g.pair.2 := hx
    rw [h1] at h2
    exact (List.mem_filter.1 h2).1
  exact rows_of_own hgo.1 hgo.2 (fun x hx => hrs.fits x (hsub x hx)) (fun x hx => (hrs.labs x (hsub x hx)).keep1 hb1 hom)
theorem Parted.below {w w3 wr w' : World} {kf : RowV → Pl} {rs : List RowV} {gs : List GV} (h : Parted w w3 wr kf rs gs) (hb : Below wr.heap.size wr w') : Parted w w3 w' kf rs gs :=
  ⟨h.own.below hb, fun g hg => (h.rows g hg).kept hb, h.inv, h.up, h.bel.trans (hb.mono h.bel.size), Nat.le_trans h.le3 hb.size⟩
end Go.Proofs.Ytjbljplgkbnpmaa
end SecSp7
end SecSpAll0
section SecSpAll1
/- record.Split, walked: rows are gathered by their places. Written by genspwalk.py. -/
namespace Go.Proofs.Ytjbljplgkbnpmaa
open Go.ChangeShapes Go.WideShapes Go.Deep Go.RowKit LabPlain RecPlain Gath Stab
set_option linter.unusedVariables false

theorem grp_info : (Try.prog.info? 125).map (fun i => (i.zero, i.size, i.bytes)) = some (some (.pointer none), 1, 8) := by kernel_rfl
theorem take_snoc {rs : List RowV} {k : Nat} {x : RowV} (hk : k < rs.length) (hx : x = rs.getD k row0) : rs.take (k + 1) = rs.take k ++ [x] := by
  rw [List.take_add_one, hx, List.getElem?_eq_getElem hk]
  simp [List.getD_eq_getElem?_getD, hk]
theorem tdiv_fits {t win : Int} (ht : -9223372036854775808 ≤ t ∧ t ≤ 9223372036854775807) (hw : 1 ≤ win) : -9223372036854775808 ≤ t.tdiv win ∧ t.tdiv win ≤ 9223372036854775807 := by
  rcases Int.le_total 0 t with h | h
  · have h1 : t.tdiv win ≤ t := by rw [Int.tdiv_eq_ediv_of_nonneg h]; exact Int.ediv_le_self _ h
    have h2 : 0 ≤ t.tdiv win := Int.tdiv_nonneg h (by omega)
    omega
  · obtain ⟨s, rfl⟩ : ∃ s, t = -s := ⟨-t, by omega⟩
    rw [Int.neg_tdiv]
    have h0 : 0 ≤ s := by omega
    have h1 : s.tdiv win ≤ s := by rw [Int.tdiv_eq_ediv_of_nonneg h0]; exact Int.ediv_le_self _ h0
    have h2 : 0 ≤ s.tdiv win := Int.tdiv_nonneg h0 (by omega)
    omega
theorem wrap_id {x : Int} (h1 : -9223372036854775808 ≤ x) (h2 : x ≤ 9223372036854775807) : IntKind.i64.wrap x = x := by
  rw [IntKind.wrap_i64]; omega
theorem tdiv_wrap {t win : Int} (ht : -9223372036854775808 ≤ t ∧ t ≤ 9223372036854775807) (hw : 1 ≤ win) : IntKind.i64.wrap (t.tdiv win) = t.tdiv win := by
  have h2 := tdiv_fits ht hw
  exact wrap_id h2.1 h2.2

/-- what a split answers -/
structure SplitOut (w w' : World) (a' : Option Addr) (n' c' : Nat) (win : Int) (ss : List ByteArray) (l l1 rs : List RowV) (gs : List GV) (n : Nat) : Prop where
  at' : GrpsAt w' a' n' c' gs
  inv : Gath.Inv (plS win ss) (gs.map GV.pair) rs
  up : gs.Pairwise fun a b => ltK a.key b.key = true
  len : rs.length = n
  says : ∀ j, j < n → (atL l1 j).says = (atL l j).says
  stab : Stable ltR (atL l1) (atL rs) n
  bel : Below w.heap.size w w'
set_option maxRecDepth 100000 in
set_option maxHeartbeats 4000000 in
theorem split_any {w : World} {a b : Option Addr} {n c m d : Nat} {l : List RowV} {ss : List ByteArray} {win : Int} (h : RowsAt w a n c l) (hn : n ≤ 1000) (h' : StrsAt w b m d ss) (hw1 : 1 ≤ win) (hw2 : win ≤ 9223372036854775807) :
    Calls Try.prog 47 #[.slice a n c, .int .i64 win, .slice b m d] w fun e w' => ∃ a' n' c' l1 rs gs, e = .returned (.slice a' n' c') ∧ SplitOut w w' a' n' c' win ss l l1 rs gs n := by
  obtain ⟨i0, hi, hz0, hz1, hz2⟩ := info_parts row_info
  obtain ⟨j0, gi, gz0, gz1, gz2⟩ := info_parts grp_info
  obtain ⟨k0, pi, pz0, pz1, pz2⟩ := info_parts group_info
  have HW1 := Lib.hid hw1
  have HW2 := Lib.hid hw2
  have hwi : ¬ win < 1 := by omega
  have hw0 : ¬ win = 0 := by omega
  have HH := Lib.hid h
  have HS := Lib.hid h'
  have hcap := h.cap
  have hcm := h.capm
  clear h h' hw1 hw2
  have hmm := @run_makeMap Try.prog
  go_enter Try.func47, Try.ntmps47
  go_wp2_with fail
  obtain ⟨w0, hw0'⟩ : ∃ w0, w0 = w.alloc (.map #[] 0) := ⟨_, rfl⟩
  obtain ⟨M, hM⟩ : ∃ M, M = w.heap.size := ⟨_, rfl⟩
  have hb0 : Below w.heap.size w w0 := by rw [hw0']; exact (Below.refl _ _).alloc (Nat.le_refl _) _
  have hm0 : MapG w0 M 0 (fun _ => none) := by rw [hw0', hM]; exact MapG.made w
  rw [← hw0', ← hM]
  have HB0 := Lib.hid hb0
  have HM0 := Lib.hid hm0
  have HMW := Lib.hid hM
  clear hb0 hm0 hM hw0'
  refine (sort_new (HH.out.kept HB0.out) (by omega)).mono ?_
  rintro e w3 ⟨c', l1, rs, he, hcn, hnew, hsays, hst, hb3⟩
  rw [hcn] at he hnew
  subst he
  clear hcn
  obtain ⟨g3, hg3⟩ : ∃ g3, g3 = w0.heap.size := ⟨_, rfl⟩
  rw [← hg3] at hnew ⊢
  clear hg3
  have HNEW := Lib.hid hnew
  have HSY := Lib.hid hsays
  have HST := Lib.hid hst
  have hm3 := HM0.out.below hb3
  obtain ⟨es3, cl3, hM3⟩ := hm3.obj
  have HOM := Lib.hid hM3
  have hs3 := HB0.out.size
  have hM1 : M < w0.heap.size := HM0.out.lt
  have HI0 := Lib.hid (show SpI w w3 w3 M 0 0 none 0 (plS win ss) rs [] from ⟨rfl, Nat.le_refl _, World.ownsRow_nil _ _ _ _, hm3, GrpsOwn.nil _ _, Gath.Inv.nil _, HB0.out.trans (hb3.mono HB0.out.size), Bel1.refl _ _ _, (fun g hg => by cases hg)⟩)
  have hwM : w.heap.size ≤ M := by have := HMW.out; omega
  have hM3lt : M < w3.heap.size := Nat.lt_of_lt_of_le hM1 hb3.size
  have HWM := Lib.hid hwM
  have HM3L := Lib.hid hM3lt
  have h3s := Nat.le_trans HB0.out.size hb3.size
  have H3S := Lib.hid h3s
  clear hnew hsays hst hb3 hm3 hM3 hs3 hM1 hwM hM3lt h3s
  go_wp2_with fail
  go_loopw [8, 23] (fun s8 s23 wr => ∃ (k m cp : Nat) (a : Option Addr) (gs : List GV), k ≤ n ∧ s23 = .int .i64 (k : Int) ∧ s8 = .slice a m cp ∧ Hid (SpI w w3 wr M k m a cp (plS win ss) rs gs)) (fun _ s23 _ => n - (intOf s23).toNat)
  case atStart => exact ⟨0, 0, 0, none, [], by omega, rfl, rfl, HI0⟩
  case round =>
    clear HI0
    obtain ⟨k, m', cp, ag, gs, hk, rfl, rfl, HI⟩ := hrel
    rename World => wr
    by_cases hkn : k < n
    · have hkp := HNEW.out.rows.keep1 HI.out.bel1 HOM.out
      obtain ⟨b1, off, e0, hlt, hcell⟩ := hkp.cells (by omega)
      simp only [Option.some.injEq, Addr.mk.injEq, and_true] at e0
      obtain ⟨rfl, rfl⟩ := e0
      have hlab := hkp.labs _ (row_mem (l := rs) (i := k) (by have := HNEW.out.rows.len; omega))
      have hfit := hkp.fits _ (row_mem (l := rs) (i := k) (by have := HNEW.out.rows.len; omega))
      obtain ⟨r, hr⟩ : ∃ r, r = rs.getD k row0 := ⟨_, rfl⟩
      obtain ⟨d0, d1, d2, d3, d4, d5, d6, d7, d8⟩ := RowsAt.nine hcell hkn hr
      have HR := Lib.hid hr
      rw [← hr] at hlab hfit
      clear hr hcell hkp
      obtain ⟨⟨kd, tm, la, ln, lc, L, tx, v, nl⟩, mk, sq, pl⟩ := r
      simp only [Nat.zero_add] at d0 d1 d2 d3 d4 d5 d6 d7 d8 hlab
      obtain rfl : L.length = ln := hlab.len
      obtain ⟨wx, hwx⟩ : ∃ wx, wx = wr.alloc (.cells #[.int .i64 kd, .int .i64 tm, .slice la L.length lc, .string tx, .int .i64 v, .bool nl, .int .i64 mk, .int .i64 sq, .int .i64 pl] 62) := ⟨_, rfl⟩
      obtain ⟨bx, hbx⟩ : ∃ bx, bx = wr.heap.size := ⟨_, rfl⟩
      have hbwx : Below wr.heap.size wr wx := by rw [hwx]; exact (Below.refl _ _).alloc (Nat.le_refl _) _
      have hblk : wx.heap[bx]? = some (.cells #[.int .i64 kd, .int .i64 tm, .slice la L.length lc, .string tx, .int .i64 v, .bool nl, .int .i64 mk, .int .i64 sq, .int .i64 pl] 62 (0, 0)) := by rw [hwx, hbx]; exact heap_alloc_new wr _
      have hc2 : wx.cell? ⟨bx, 2, none⟩ = some (.slice la L.length lc) := cell_blk hblk rfl
      have hsr := HI.out.bel1.size
      have hPART := part_big (hlab.kept hbwx) ((HS.out.kept HI.out.bel).kept hbwx) hfit.1.2.2.2.2
      have HPART := Lib.hid hPART
      have HXB := Lib.hid hblk
      have HBX := Lib.hid hbx
      have HWX := Lib.hid hwx
      have HBWX := Lib.hid hbwx
      have HFIT := Lib.hid hfit
      have HSR := Lib.hid hsr
      clear hblk hbx hwx hbwx hfit hPART hlab hsr
      go_wp2_with fail
      rw [← HWX.out, ← HBX.out]
      refine HPART.out.mono ?_
      rintro e w4 ⟨a4, c4, rfl, hl4, hb4, _⟩
      have HT4 := Lib.hid (ptxt_any hl4)
      have HB4 := Lib.hid hb4
      clear hl4 hb4
      go_wp2_with fail
      refine HT4.out.mono ?_
      rintro e w5 ⟨er, rfl, hb5⟩
      obtain ⟨pt, hpt⟩ : ∃ pt, pt = ptext L ss := ⟨_, rfl⟩
      obtain ⟨q, hq⟩ : ∃ q, q = tm.tdiv win := ⟨_, rfl⟩
      rw [← hpt]
      have hb45 := HB4.out.trans (hb5.mono HB4.out.size)
      have HB5 := Lib.hid hb45
      have x0 : w5.heap[bx]? = some (.cells #[.int .i64 kd, .int .i64 tm, .slice la L.length lc, .string tx, .int .i64 v, .bool nl, .int .i64 mk, .int .i64 sq, .int .i64 pl] 62 (0, 0)) := (hb45.block bx (Array.getElem?_eq_some_iff.1 HXB.out).1).trans HXB.out
      have HX5 := Lib.hid x0
      have c1 : w5.cell? ⟨bx, 1, none⟩ = some (.int .i64 tm) := cell_blk x0 rfl
      have hqw : IntKind.i64.wrap (tm.tdiv win) = q := by
        rw [hq]
        exact tdiv_wrap HFIT.out.1.2.1 HW1.out
      have hok : okPl (q, pt) := ⟨by rw [hq]; exact tdiv_fits HFIT.out.1.2.1 HW1.out, by have := ptext_size L ss; show pt.size ≤ _; rw [hpt]; omega⟩
      have HOK := Lib.hid hok
      have HPT := Lib.hid hpt
      have HQ := Lib.hid hq
      have hbr5 := HBWX.out.trans (hb45.mono HBWX.out.size)
      have hby : Below wr.heap.size wr (w5.alloc (.cells #[.int .i64 q, .string pt] 124)) := hbr5.alloc hbr5.size _
      have hybk := heap_alloc_new w5 (.cells #[.int .i64 q, .string pt] 124)
      have hxbk : (w5.alloc (.cells #[.int .i64 q, .string pt] 124)).heap[bx]? = some (.cells #[.int .i64 kd, .int .i64 tm, .slice la L.length lc, .string tx, .int .i64 v, .bool nl, .int .i64 mk, .int .i64 sq, .int .i64 pl] 62 (0, 0)) := (((Below.refl w5.heap.size w5).alloc (Nat.le_refl _) _).block bx (Array.getElem?_eq_some_iff.1 x0).1).trans x0
      have hmap := HI.out.map.below hby
      have hown := HI.out.own.below hby
      have hrow := own_below HI.out.row hby
      have hbel := HI.out.bel.trans (hby.mono HI.out.bel.size)
      have hbel1 := HI.out.bel1.below (hby.mono HSR.out)
      by_cases hex : ∃ j, ∃ hj : j < gs.length, gs[j].key = (q, pt)
      · obtain ⟨j, hj, hkey⟩ := hex
        obtain ⟨g, hg⟩ : ∃ g, gs[j] = g := ⟨_, rfl⟩
        have hl1 : (Instr.lookup 121 (.map (some M)) (.agg #[.int .i64 q, .string pt]) false).run Try.prog (w5.alloc (.cells #[.int .i64 q, .string pt] 124)) = .ok (.pointer (some ⟨g.p, 0, none⟩)) (w5.alloc (.cells #[.int .i64 q, .string pt] 124)) := by
          have e := hmap.look (k := (q, pt)) hok
          have e2 := lookG_at hj (keys_ne HI.out.inv)
          rw [hkey, hg] at e2
          rw [e2] at e
          exact e
        have HMD := Lib.hid (show Mid w w3 (w5.alloc (.cells #[.int .i64 q, .string pt] 124)) M k gs from ⟨hmap.mono (Nat.le_succ k), hown, keys_ne HI.out.inv, hbel, hbel1, HI.out.few⟩)
        have HG := Lib.hid (show ∃ hj : j < gs.length, gs[j] = g from ⟨hj, hg⟩)
        have HKEY := Lib.hid (show g.key = (q, pt) from by rw [← hg]; exact hkey)
        have HYS := Lib.hid hybk
        have HXS := Lib.hid hxbk
        have HROW := Lib.hid hrow
        have HBXN := Lib.hid (show some bx ≠ g.v.ownBlock from fun e => by
          have h2 := ((HI.out.own.own g (by rw [← hg]; exact List.getElem_mem hj)).1.lt bx e.symm).2
          rw [HBX.out] at h2; omega)
        have HINV := Lib.hid (show ∀ a9 c9, Gath.Inv (plS win ss) ((gs.set j (g.more a9 c9 (⟨⟨kd, tm, la, L.length, lc, L, tx, v, nl⟩, mk, sq, pl⟩ : RowV))).map GV.pair) (rs.take (k + 1)) from fun a9 c9 => by
          have hgp : (gs.map GV.pair)[j]? = some g.pair := by rw [List.getElem?_map, List.getElem?_eq_getElem hj, hg]; rfl
          have h2 := HI.out.inv.old hgp (x := (⟨⟨kd, tm, la, L.length, lc, L, tx, v, nl⟩, mk, sq, pl⟩ : RowV)) (by show plS win ss _ = g.key; rw [← hg, hkey]; unfold plS; rw [hq, hpt])
          rw [List.map_set]
          rw [take_snoc (by have := HNEW.out.rows.len; omega) HR.out]
          exact h2)
        clear hb5 hb45 x0 hpt hq hbr5 hby hybk hxbk hmap hown hrow hbel hbel1 hok hkey hg hj
        go_wp2_with fail
        obtain ⟨wS, hwS⟩ : ∃ wS, wS = w5.alloc (.cells #[.int .i64 q, .string pt] 124) := ⟨_, rfl⟩
        obtain ⟨by', hby'⟩ : ∃ b, b = w5.heap.size := ⟨_, rfl⟩
        rw [← hwS] at HMD HXS HYS HROW
        rw [← hby'] at HYS
        rw [← hwS, ← hby']
        clear hwS hby' hl1 c1 hqw
        obtain ⟨GS, hGS⟩ : ∃ GS, GS = gs := ⟨_, rfl⟩
        rw [← hGS] at HMD HG HROW HINV
        have HGS := Lib.hid hGS
        clear hGS
        have lx : bx < wS.heap.size := (Array.getElem?_eq_some_iff.1 HXS.out).1
        have ly : by' < wS.heap.size := (Array.getElem?_eq_some_iff.1 HYS.out).1
        have hgm : g ∈ GS := by rw [← HG.out.2]; exact List.getElem_mem _
        have gb := (HMD.out.own.blk g hgm).2
        obtain ⟨P, hP⟩ : ∃ P, P = g.p := ⟨_, rfl⟩
        rw [← hP] at gb
        have lp : P < wS.heap.size := (Array.getElem?_eq_some_iff.1 gb).1
        have hgo := (HMD.out.own.own g hgm).1
        have hno : ∀ b, (∀ cs, wS.heap[b]? ≠ some (.cells cs 62 (0, 0))) → some b ≠ g.v.ownBlock := fun b hb e => by
          obtain ⟨cs, hcs⟩ := own_blk hgo e.symm
          exact hb cs hcs
        have hblt : ∀ b, g.v.ownBlock = some b → w3.heap.size ≤ b := fun b hb => (hgo.lt b hb).1
        have hbx3 : some bx ≠ g.v.ownBlock ∧ bx ≠ P := ⟨HBXN.out, fun e => by
          have h1 := HXS.out
          rw [e, gb] at h1
          have h2 := (Obj.cells.injEq .. ▸ Option.some.inj h1)
          have h3 : (72 : TypeId) = 62 := h2.2.1
          exact absurd h3 (by decide)⟩
        have hby3 : some by' ≠ g.v.ownBlock ∧ by' ≠ P := ⟨hno by' (fun cs e => by
          rw [HYS.out] at e
          have h2 := (Obj.cells.injEq .. ▸ Option.some.inj e)
          have h3 : (124 : TypeId) = 62 := h2.2.1
          exact absurd h3 (by decide)), fun e => by
          have h1 := HYS.out
          rw [e, gb] at h1
          have h2 := (Obj.cells.injEq .. ▸ Option.some.inj h1)
          have h3 : (72 : TypeId) = 124 := h2.2.1
          exact absurd h3 (by decide)⟩
        have hM3 : some M ≠ g.v.ownBlock ∧ M ≠ P := by
          obtain ⟨es, cl, hms⟩ := HMD.out.map.obj
          refine ⟨hno M (fun cs e => by rw [hms] at e; cases e), fun e => ?_⟩
          rw [e, gb] at hms; cases hms
        have e2 : lookG GS (q, pt) = some P := by
          have := lookG_at HG.out.1 HMD.out.keys
          rw [HG.out.2, HKEY.out] at this
          rw [hP]; exact this
        have HE2 := Lib.hid e2
        have HAX := Lib.hid (show ∀ L7 V7 w9, SpR wS w3.heap.size M P q pt g (⟨⟨kd, tm, la, L.length, lc, L, tx, v, nl⟩, mk, sq, pl⟩ : RowV) L7 V7 w9 → w9.heap[bx]? = some (.cells #[.int .i64 kd, .int .i64 tm, .slice la L.length lc, .string tx, .int .i64 v, .bool nl, .int .i64 mk, .int .i64 sq, .int .i64 pl] 62 (0, 0)) from fun L7 V7 w9 h => (h.keep lx hbx3.1 hbx3.2).trans HXS.out)
        have HAY := Lib.hid (show ∀ L7 V7 w9, SpR wS w3.heap.size M P q pt g (⟨⟨kd, tm, la, L.length, lc, L, tx, v, nl⟩, mk, sq, pl⟩ : RowV) L7 V7 w9 → w9.heap[by']? = some (.cells #[.int .i64 q, .string pt] 124 (0, 0)) from fun L7 V7 w9 h => (h.keep ly hby3.1 hby3.2).trans HYS.out)
        have HAM := Lib.hid (show ∀ L7 V7 w9, SpR wS w3.heap.size M P q pt g (⟨⟨kd, tm, la, L.length, lc, L, tx, v, nl⟩, mk, sq, pl⟩ : RowV) L7 V7 w9 → (Instr.lookup 121 (.map (some M)) (.agg #[.int .i64 q, .string pt]) false).run Try.prog w9 = .ok (.pointer (some ⟨P, 0, none⟩)) w9 from fun L7 V7 w9 h => by
          have e := (HMD.out.map.same (h.keep HMD.out.map.lt hM3.1 hM3.2)).look (k := (q, pt)) HOK.out
          rw [HE2.out] at e
          exact e)
        have HGB := Lib.hid gb
        have HP := Lib.hid hP
        have HGO := Lib.hid hgo
        have HTYP := Lib.hid (show some P ≠ g.v.ownBlock from hno P (fun cs e => by
          rw [gb] at e
          have h2 := (Obj.cells.injEq .. ▸ Option.some.inj e)
          have h3 : (72 : TypeId) = 62 := h2.2.1
          exact absurd h3 (by decide)))
        have hgn : g.n ≤ 1000 := by have := HMD.out.few g hgm; omega
        have hbase := HMD.out.bel1.size
        have HBASE := Lib.hid hbase
        have HGM := Lib.hid hgm
        have HLP := Lib.hid lp
        clear gb hgm hP hgo hno hblt hbx3 hby3 hM3 e2 lx ly lp hbase
        refine wp_region_inv (by kernel_rfl) (by kernel_rfl) (by kernel_rfl) (SpR wS w3.heap.size M P q pt g (⟨⟨kd, tm, la, L.length, lc, L, tx, v, nl⟩, mk, sq, pl⟩ : RowV)) (fun V => SpR.start V) ?_ ?_
        · intro j9 o ho L9 V w9 K hI hL hdep hK
          have HI := Lib.hid hI
          have hin : j9 < 15 := (Array.getElem?_eq_some_iff.1 ho).1
          have hcs : j9 = 0 ∨ j9 = 1 ∨ j9 = 2 ∨ j9 = 3 ∨ j9 = 4 ∨ j9 = 5 ∨ j9 = 6 ∨ j9 = 7 ∨ j9 = 8 ∨ j9 = 9 ∨ j9 = 10 ∨ j9 = 11 ∨ j9 = 12 ∨ j9 = 13 ∨ j9 = 14 := by omega
          clear hin
          rcases hcs with rfl | rfl | rfl | rfl | rfl | rfl | rfl | rfl | rfl | rfl | rfl | rfl | rfl | rfl | rfl
          · obtain rfl := Option.some.inj ho.symm
            clear hdep ho hI hL
            try simp only [fill, slotOf, List.size_toArray, List.length_cons, List.length_nil, Nat.reduceAdd, List.getElem?_toArray, List.getElem?_cons_zero, List.getElem?_cons_succ, Option.bind_some, Act.put, List.setIfInBounds_toArray, List.set_cons_zero, List.set_cons_succ] at hK ⊢
            go_simp
            exact hK (.map (some M)) _ (HI.out.put 0 _ (by decide) rfl) _ rfl
          · obtain rfl := Option.some.inj ho.symm
            have r0 : w9.cell? ⟨by', 0, none⟩ = some (.int .i64 q) := cell_blk (HAY.out _ _ _ hI) rfl
            have r1 : w9.cell? ⟨by', 1, none⟩ = some (.string pt) := cell_blk (HAY.out _ _ _ hI) rfl
            clear hdep ho hI hL
            try simp only [fill, slotOf, List.size_toArray, List.length_cons, List.length_nil, Nat.reduceAdd, List.getElem?_toArray, List.getElem?_cons_zero, List.getElem?_cons_succ, Option.bind_some, Act.put, List.setIfInBounds_toArray, List.set_cons_zero, List.set_cons_succ] at hK ⊢
            go_simp
            exact hK (.agg #[.int .i64 q, .string pt]) _ (HI.out.put 1 _ (by decide) rfl) _ rfl
          · obtain rfl := Option.some.inj ho.symm
            have d0 : V 0 = .map (some M) := hI.val 0 (hdep ⟨0, .data⟩ (by simp) rfl)
            have d1 : V 1 = .agg #[.int .i64 q, .string pt] := hI.val 1 (hdep ⟨1, .data⟩ (by simp) rfl)
            have lk := HAM.out _ _ _ hI
            clear hdep ho hI hL
            try simp only [fill, slotOf, List.size_toArray, List.length_cons, List.length_nil, Nat.reduceAdd, List.getElem?_toArray, List.getElem?_cons_zero, List.getElem?_cons_succ, Option.bind_some, Act.put, List.setIfInBounds_toArray, List.set_cons_zero, List.set_cons_succ] at hK ⊢
            rw [d0, d1] at hK ⊢
            go_simp
            exact hK (.pointer (some ⟨P, 0, none⟩)) _ (HI.out.put 2 _ (by decide) rfl) _ rfl
          · obtain rfl := Option.some.inj ho.symm
            clear hdep ho hI hL
            try simp only [fill, slotOf, List.size_toArray, List.length_cons, List.length_nil, Nat.reduceAdd, List.getElem?_toArray, List.getElem?_cons_zero, List.getElem?_cons_succ, Option.bind_some, Act.put, List.setIfInBounds_toArray, List.set_cons_zero, List.set_cons_succ] at hK ⊢
            go_simp
            exact hK (.map (some M)) _ (HI.out.put 3 _ (by decide) rfl) _ rfl
          · obtain rfl := Option.some.inj ho.symm
            have r0 : w9.cell? ⟨by', 0, none⟩ = some (.int .i64 q) := cell_blk (HAY.out _ _ _ hI) rfl
            have r1 : w9.cell? ⟨by', 1, none⟩ = some (.string pt) := cell_blk (HAY.out _ _ _ hI) rfl
            clear hdep ho hI hL
            try simp only [fill, slotOf, List.size_toArray, List.length_cons, List.length_nil, Nat.reduceAdd, List.getElem?_toArray, List.getElem?_cons_zero, List.getElem?_cons_succ, Option.bind_some, Act.put, List.setIfInBounds_toArray, List.set_cons_zero, List.set_cons_succ] at hK ⊢
            go_simp
            exact hK (.agg #[.int .i64 q, .string pt]) _ (HI.out.put 4 _ (by decide) rfl) _ rfl
          · obtain rfl := Option.some.inj ho.symm
            have d3 : V 3 = .map (some M) := hI.val 3 (hdep ⟨3, .data⟩ (by simp) rfl)
            have d4 : V 4 = .agg #[.int .i64 q, .string pt] := hI.val 4 (hdep ⟨4, .data⟩ (by simp) rfl)
            have lk := HAM.out _ _ _ hI
            clear hdep ho hI hL
            try simp only [fill, slotOf, List.size_toArray, List.length_cons, List.length_nil, Nat.reduceAdd, List.getElem?_toArray, List.getElem?_cons_zero, List.getElem?_cons_succ, Option.bind_some, Act.put, List.setIfInBounds_toArray, List.set_cons_zero, List.set_cons_succ] at hK ⊢
            rw [d3, d4] at hK ⊢
            go_simp
            exact hK (.pointer (some ⟨P, 0, none⟩)) _ (HI.out.put 5 _ (by decide) rfl) _ rfl
          · obtain rfl := Option.some.inj ho.symm
            have d5 : V 5 = .pointer (some ⟨P, 0, none⟩) := hI.val 5 (hdep ⟨5, .data⟩ (by simp) rfl)
            clear hdep ho hI hL
            try simp only [fill, slotOf, List.size_toArray, List.length_cons, List.length_nil, Nat.reduceAdd, List.getElem?_toArray, List.getElem?_cons_zero, List.getElem?_cons_succ, Option.bind_some, Act.put, List.setIfInBounds_toArray, List.set_cons_zero, List.set_cons_succ] at hK ⊢
            rw [d5] at hK ⊢
            go_simp
            exact hK (.pointer (some ⟨P, 0, none⟩)) _ (HI.out.put 6 _ (by decide) rfl) _ rfl
          · obtain rfl := Option.some.inj ho.symm
            have d6 : V 6 = .pointer (some ⟨P, 0, none⟩) := hI.val 6 (hdep ⟨6, .data⟩ (by simp) rfl)
            clear hdep ho hI hL
            try simp only [fill, slotOf, List.size_toArray, List.length_cons, List.length_nil, Nat.reduceAdd, List.getElem?_toArray, List.getElem?_cons_zero, List.getElem?_cons_succ, Option.bind_some, Act.put, List.setIfInBounds_toArray, List.set_cons_zero, List.set_cons_succ] at hK ⊢
            rw [d6] at hK ⊢
            go_simp
            exact hK (.pointer (some ⟨P, 2, none⟩)) _ (HI.out.put 7 _ (by decide) rfl) _ rfl
          · obtain rfl := Option.some.inj ho.symm
            have d7 : V 7 = .pointer (some ⟨P, 2, none⟩) := hI.val 7 (hdep ⟨7, .data⟩ (by simp) rfl)
            have hg9 := ((hI.sA (hI.no11 (.inl hL))).1.block P HLP.out).trans HGB.out
            have cc : w9.cell? ⟨P, 2, none⟩ = some (.slice g.a g.n g.c) := cell_blk hg9 rfl
            clear hdep ho hI hL
            clear hg9
            try simp only [fill, slotOf, List.size_toArray, List.length_cons, List.length_nil, Nat.reduceAdd, List.getElem?_toArray, List.getElem?_cons_zero, List.getElem?_cons_succ, Option.bind_some, Act.put, List.setIfInBounds_toArray, List.set_cons_zero, List.set_cons_succ] at hK ⊢
            rw [d7] at hK ⊢
            go_simp
            exact hK (.slice g.a g.n g.c) _ (HI.out.put 8 _ (by decide) rfl) _ rfl
          · obtain rfl := Option.some.inj ho.symm
            have s0 : w9.cell? ⟨bx, 0, none⟩ = some (.int .i64 kd) := cell_blk (HAX.out _ _ _ hI) rfl
            have s1 : w9.cell? ⟨bx, 1, none⟩ = some (.int .i64 tm) := cell_blk (HAX.out _ _ _ hI) rfl
            have s2 : w9.cell? ⟨bx, 2, none⟩ = some (.slice la L.length lc) := cell_blk (HAX.out _ _ _ hI) rfl
            have s3 : w9.cell? ⟨bx, 3, none⟩ = some (.string tx) := cell_blk (HAX.out _ _ _ hI) rfl
            have s4 : w9.cell? ⟨bx, 4, none⟩ = some (.int .i64 v) := cell_blk (HAX.out _ _ _ hI) rfl
            have s5 : w9.cell? ⟨bx, 5, none⟩ = some (.bool nl) := cell_blk (HAX.out _ _ _ hI) rfl
            have s6 : w9.cell? ⟨bx, 6, none⟩ = some (.int .i64 mk) := cell_blk (HAX.out _ _ _ hI) rfl
            have s7 : w9.cell? ⟨bx, 7, none⟩ = some (.int .i64 sq) := cell_blk (HAX.out _ _ _ hI) rfl
            have s8 : w9.cell? ⟨bx, 8, none⟩ = some (.int .i64 pl) := cell_blk (HAX.out _ _ _ hI) rfl
            clear hdep ho hI hL
            try simp only [fill, slotOf, List.size_toArray, List.length_cons, List.length_nil, Nat.reduceAdd, List.getElem?_toArray, List.getElem?_cons_zero, List.getElem?_cons_succ, Option.bind_some, Act.put, List.setIfInBounds_toArray, List.set_cons_zero, List.set_cons_succ] at hK ⊢
            go_simp
            exact hK (.agg #[.int .i64 kd, .int .i64 tm, .slice la L.length lc, .string tx, .int .i64 v, .bool nl, .int .i64 mk, .int .i64 sq, .int .i64 pl]) _ (HI.out.put 9 _ (by decide) rfl) _ rfl
          · obtain rfl := Option.some.inj ho.symm
            have d9 : V 9 = .agg #[.int .i64 kd, .int .i64 tm, .slice la L.length lc, .string tx, .int .i64 v, .bool nl, .int .i64 mk, .int .i64 sq, .int .i64 pl] := hI.val 9 (hdep ⟨9, .data⟩ (by simp) rfl)
            have HI4 := Lib.hid (hI.put10 hL)
            clear hdep ho hI hL
            try simp only [fill, slotOf, List.size_toArray, List.length_cons, List.length_nil, Nat.reduceAdd, List.getElem?_toArray, List.getElem?_cons_zero, List.getElem?_cons_succ, Option.bind_some, Act.put, List.setIfInBounds_toArray, List.set_cons_zero, List.set_cons_succ] at hK ⊢
            rw [d9] at hK ⊢
            go_simp
            exact hK (.slice (some ⟨w9.heap.size, 0, none⟩) 1 1) _ HI4.out _ rfl
          · have hoo := Option.some.inj ho.symm
            have HL11 := Lib.hid hL
            have d8 : V 8 = .slice g.a g.n g.c := hI.val 8 (hdep ⟨8, .data⟩ (by rw [hoo]; simp) rfl)
            have l8 := hdep ⟨8, .data⟩ (by rw [hoo]; simp) rfl
            have l10 := hdep ⟨10, .data⟩ (by rw [hoo]; simp) rfl
            have hA := hI.sA hL
            obtain ⟨bb, d10, hbb⟩ := hA.2 l10
            have HOW := Lib.hid (own_below HGO.out hA.1)
            have HBB := Lib.hid hbb
            have HAB := Lib.hid hA.1
            have hs9 := hA.1.size
            subst hoo
            clear hdep ho hI hL
            clear hA
            clear hbb
            try simp only [fill, slotOf, List.size_toArray, List.length_cons, List.length_nil, Nat.reduceAdd, List.getElem?_toArray, List.getElem?_cons_zero, List.getElem?_cons_succ, Option.bind_some, Act.put, List.setIfInBounds_toArray, List.set_cons_zero, List.set_cons_succ] at hK ⊢
            rw [d8, d10] at hK ⊢
            refine step_append_own_b (by first | rfl | kernel_rfl) (.tmp 69) (.tmp 71) 58 rfl w3.heap.size 62 i0 _ 9 96 Try.underlying58 hi hz0 hz1 hz2 rfl (by decide) (.slice g.a g.n g.c) g.n (rcells g.rows) (by rfl) HOW.out ⟨bb, 0, none⟩ 1 1 (RowV.cells (⟨⟨kd, tm, la, L.length, lc, L, tx, v, nl⟩, mk, sq, pl⟩ : RowV)) (by rfl) rfl HBB.out (rcells_one _) (by unfold maxLen; omega) (by omega) (Nat.le_trans HBASE.out hs9) ?_
            intro vN wA hownA hgrowA hlocA
            obtain ⟨gN, cN, rfl⟩ := own_some2 hownA (by omega)
            exact hK (.slice (some ⟨gN, 0, none⟩) (g.n + 1) cN) _ (HI.out.put11 HL11.out l8 l10 ⟨_, _, w9.heap.size, rfl, hownA, grown_low HAB.out hgrowA, hlocA, hs9⟩) _ rfl
          · obtain rfl := Option.some.inj ho.symm
            have d2 : V 2 = .pointer (some ⟨P, 0, none⟩) := hI.val 2 (hdep ⟨2, .data⟩ (by simp) rfl)
            clear hdep ho hI hL
            try simp only [fill, slotOf, List.size_toArray, List.length_cons, List.length_nil, Nat.reduceAdd, List.getElem?_toArray, List.getElem?_cons_zero, List.getElem?_cons_succ, Option.bind_some, Act.put, List.setIfInBounds_toArray, List.set_cons_zero, List.set_cons_succ] at hK ⊢
            rw [d2] at hK ⊢
            go_simp
            exact hK (.pointer (some ⟨P, 0, none⟩)) _ (HI.out.put 12 _ (by decide) rfl) _ rfl
          · obtain rfl := Option.some.inj ho.symm
            have d12 : V 12 = .pointer (some ⟨P, 0, none⟩) := hI.val 12 (hdep ⟨12, .data⟩ (by simp) rfl)
            clear hdep ho hI hL
            try simp only [fill, slotOf, List.size_toArray, List.length_cons, List.length_nil, Nat.reduceAdd, List.getElem?_toArray, List.getElem?_cons_zero, List.getElem?_cons_succ, Option.bind_some, Act.put, List.setIfInBounds_toArray, List.set_cons_zero, List.set_cons_succ] at hK ⊢
            rw [d12] at hK ⊢
            go_simp
            exact hK (.pointer (some ⟨P, 2, none⟩)) _ (HI.out.put 13 _ (by decide) rfl) _ rfl
          · have hoo := Option.some.inj ho.symm
            have d13 : V 13 = .pointer (some ⟨P, 2, none⟩) := hI.val 13 (hdep ⟨13, .data⟩ (by rw [hoo]; simp) rfl)
            have l11 := hdep ⟨11, .data⟩ (by rw [hoo]; simp) rfl
            have hB := hI.sB l11 hL
            obtain ⟨aN, cN, BN, d11, ho11, hg11, hlo11, hB11⟩ := hB
            have hg9 := (hg11.block P HLP.out HTYP.out).trans HGB.out
            have cc : w9.cell? ⟨P, 2, none⟩ = some (.slice g.a g.n g.c) := cell_blk hg9 rfl
            have ff : w9.frozen? ⟨P, 2, none⟩ = false := by simp [World.frozen?, hg9]
            have HI4 := Lib.hid (hI.put14 l11 hL undef)
            rw [d11] at HI4
            subst hoo
            clear hdep ho hI hL
            clear ho11
            clear hg11
            clear hlo11
            clear hB11
            clear hg9
            clear l11
            try simp only [fill, slotOf, List.size_toArray, List.length_cons, List.length_nil, Nat.reduceAdd, List.getElem?_toArray, List.getElem?_cons_zero, List.getElem?_cons_succ, Option.bind_some, Act.put, List.setIfInBounds_toArray, List.set_cons_zero, List.set_cons_succ] at hK ⊢
            rw [d13, d11] at hK ⊢
            go_simp
            exact hK (undef) _ HI4.out _ rfl
        · intro L9 V w9 hI hall
          obtain ⟨wA, vN, hStB, hw9⟩ := hI.sC (hall 14 (by decide))
          obtain ⟨aN, cN, BN, rfl, ho11, hg11, hlo11, hB11⟩ := hStB
          have HW9 := Lib.hid hw9
          have HO11 := Lib.hid ho11
          have HG11 := Lib.hid hg11
          have HL11 := Lib.hid hlo11
          have HB11 := Lib.hid hB11
          clear hall hI hw9 ho11 hg11 hlo11 hB11
          simp only [fill, slotOf, List.size_toArray, List.length_cons, List.length_nil, Nat.reduceAdd, List.getElem?_toArray, List.getElem?_cons_zero, List.getElem?_cons_succ, Option.bind_some, Act.put, List.setIfInBounds_toArray, List.set_cons_zero, List.set_cons_succ]
          have hnx := SpI.next HMD.out HROW.out HG.out.1 HG.out.2 (by rw [HGS.out]; exact HI.out.len) (by have := HI.out.lek; omega) HB11.out H3S.out HO11.out HG11.out HL11.out (HINV.out aN cN)
          rw [← HP.out, ← HW9.out] at hnx
          have HNX := Lib.hid hnx
          clear hnx
          go_wp2_with fail
          go_roundw
          case rel => exact ⟨k + 1, m', cp, ag, _, by omega, by go_num, rfl, HNX⟩
          case measure => simp [intOf]; omega
      · have hno : ∀ y ∈ gs, y.key ≠ (q, pt) := fun y hy e => by
          obtain ⟨j, hj, rfl⟩ := List.getElem_of_mem hy
          exact hex ⟨j, hj, e⟩
        have hl1 : (Instr.lookup 121 (.map (some M)) (.agg #[.int .i64 q, .string pt]) false).run Try.prog (w5.alloc (.cells #[.int .i64 q, .string pt] 124)) = .ok (.pointer none) (w5.alloc (.cells #[.int .i64 q, .string pt] 124)) := by
          have e := hmap.look (k := (q, pt)) hok
          rw [lookG_none hno] at e
          exact e
        have HNO := Lib.hid hno
        have HYS := Lib.hid hybk
        have HXS := Lib.hid hxbk
        have HMAP := Lib.hid hmap
        have HOWN := Lib.hid hown
        have HROW := Lib.hid hrow
        have HBEL := Lib.hid hbel
        have HBEL1 := Lib.hid hbel1
        have hbg : Below wr.heap.size wr ((w5.alloc (.cells #[.int .i64 q, .string pt] 124)).alloc (.cells #[.int .i64 q, .string pt, .slice none 0 0] 72)) := hby.alloc hby.size _
        have hsz1 : (w5.alloc (.cells #[.int .i64 q, .string pt] 124)).heap.size = w5.heap.size + 1 := by show (w5.heap.push _).size = _; rw [Array.size_push]
        have hgbk : ((w5.alloc (.cells #[.int .i64 q, .string pt] 124)).alloc (.cells #[.int .i64 q, .string pt, .slice none 0 0] 72)).heap[w5.heap.size + 1]? = some (.cells #[.int .i64 q, .string pt, .slice none 0 0] 72 (0, 0)) := by rw [← hsz1]; exact heap_alloc_new _ _
        have hbyg : Below (w5.alloc (.cells #[.int .i64 q, .string pt] 124)).heap.size (w5.alloc (.cells #[.int .i64 q, .string pt] 124)) ((w5.alloc (.cells #[.int .i64 q, .string pt] 124)).alloc (.cells #[.int .i64 q, .string pt, .slice none 0 0] 72)) := (Below.refl _ _).alloc (Nat.le_refl _) _
        have hyg := (hbyg.block w5.heap.size (by rw [hsz1]; omega)).trans hybk
        have hxg := (hbyg.block bx (Array.getElem?_eq_some_iff.1 hxbk).1).trans hxbk
        have hmapg := HI.out.map.below hbg
        have hobj := hmapg.obj
        have hPr : wr.heap.size ≤ w5.heap.size + 1 := by have := hbr5.size; omega
        obtain ⟨wm, hst, hmapm, hgm⟩ := hmapg.store (k := (q, pt)) hok (w5.heap.size + 1) (by unfold maxLen; omega)
        unfold plv at hst
        have hne : ∀ (b : Nat) (cs : Array Value) (t : TypeId), ((w5.alloc (.cells #[.int .i64 q, .string pt] 124)).alloc (.cells #[.int .i64 q, .string pt, .slice none 0 0] 72)).heap[b]? = some (.cells cs t (0, 0)) → wm.heap[b]? = some (.cells cs t (0, 0)) := fun b cs t hb => (hgm.block b (Array.getElem?_eq_some_iff.1 hb).1 (fun e => by
          obtain ⟨es, cl, hms⟩ := hobj
          rw [Option.some.inj e, hms] at hb; cases hb)).trans hb
        have y0 : wm.cell? ⟨w5.heap.size, 0, none⟩ = some (.int .i64 q) := cell_blk (hne _ _ _ hyg) rfl
        have y1 : wm.cell? ⟨w5.heap.size, 1, none⟩ = some (.string pt) := cell_blk (hne _ _ _ hyg) rfl
        have lkm : (Instr.lookup 121 (.map (some M)) (.agg #[.int .i64 q, .string pt]) false).run Try.prog wm = .ok (.pointer (some ⟨w5.heap.size + 1, 0, none⟩)) wm := by
          have e := hmapm.look (k := (q, pt)) hok
          simpa [plv, ptrV] using e
        have hrg := own_below HI.out.row hbg
        have hrm : wm.ownsRow w3.heap.size 125 1 (.slice ag m' cp) m' (gs.map GV.ptr) := hrg.kept hgm (by
          cases hv : (Value.slice ag m' cp).ownBlock with
          | none => exact .inl rfl
          | some b =>
            refine .inr fun e => ?_
            obtain ⟨cs, hcs⟩ := own_blk hrg hv
            obtain ⟨es, cl, hms⟩ := hobj
            rw [Option.some.inj e, hms] at hcs
            cases hcs)
        have HRMA := Lib.hid (hrm.alloc (.cells #[.pointer (some ⟨w5.heap.size + 1, 0, none⟩)] 125))
        have HRM := Lib.hid hrm
        have hszm : w3.heap.size ≤ wm.heap.size := by have := HI.out.bel1.size; have := hbg.size; have := hgm.size; omega
        have hm9 : m' ≤ 1000 := by have := HI.out.lek; omega
        have HSZM := Lib.hid hszm
        have HBG := Lib.hid hbg
        have HGBK := Lib.hid hgbk
        have HYG := Lib.hid hyg
        have HXG := Lib.hid hxg
        have HOBJ := Lib.hid hobj
        have HPR := Lib.hid hPr
        have HMM := Lib.hid hmapm
        have HGM9 := Lib.hid hgm
        clear hex hno hb5 hb45 x0 hpt hq hbr5 hby hybk hxbk hmap hown hrow hbel hbel1 hok hbg hsz1 hgbk hbyg hyg hxg hmapg hobj hPr hmapm hgm hne hrg hrm hszm
        go_wp2_with (at_builtin; refine wpList_append_own_at _ rfl (.tmp 55) (.tmp 59) 122 rfl w3.heap.size 125 j0 (.pointer none) 1 8 Try.underlying122 gi gz0 gz1 gz2 rfl (by decide) _ m' _ rfl HRMA.out ⟨wm.heap.size, 0, none⟩ 1 1 [.pointer (some ⟨w5.heap.size + 1, 0, none⟩)] rfl rfl (one_src _ _ _) (one_oneCell rfl) (by unfold maxLen; omega) (by omega) (Nat.le_trans HSZM.out (by simp)) ?_)
        intro v9 wS hown9 hgrow9 _ _
        obtain ⟨g9, c9, rfl⟩ := own_some2 hown9 (by omega)
        have h9 : New9 _ wm (wm.alloc (.cells #[.pointer (some ⟨w5.heap.size + 1, 0, none⟩)] 125)) wS M w3.heap.size (.slice ag m' cp) := ⟨HGM9.out, (Below.refl _ _).alloc (Nat.le_refl _) _, ⟨_, _, HRM.out⟩, hgrow9⟩
        have hmid := SpI.mid_new HI.out HBG.out HPR.out HGBK.out HNO.out HMM.out h9 H3S.out HWM.out
        have hys9 := h9.kept HYG.out HOBJ.out (by decide)
        have hxs9 := h9.kept HXG.out HOBJ.out (by decide)
        obtain ⟨by', hby'⟩ : ∃ b, b = w5.heap.size := ⟨_, rfl⟩
        obtain ⟨g, hg⟩ : ∃ g : GV, g = ⟨w5.heap.size + 1, q, pt, none, 0, 0, []⟩ := ⟨_, rfl⟩
        obtain ⟨GS, hGS⟩ : ∃ GS, GS = gs ++ [g] := ⟨_, rfl⟩
        rw [← hg, ← hGS] at hmid
        rw [← hby'] at hys9
        have HMD := Lib.hid hmid
        have HYS := Lib.hid hys9
        have HXS := Lib.hid hxs9
        have HG := Lib.hid (show ∃ hj : gs.length < GS.length, GS[gs.length] = g from ⟨by rw [hGS]; simp, by simp [hGS]⟩)
        have HKEY := Lib.hid (show g.key = (q, pt) from by rw [hg]; rfl)
        have HROW := Lib.hid (show wS.ownsRow w3.heap.size 125 1 (.slice (some ⟨g9, 0, none⟩) (m' + 1) c9) (m' + 1) (GS.map GV.ptr) from by
          rw [hGS, List.map_append, hg]; exact hown9)
        have HBXN := Lib.hid (show some bx ≠ g.v.ownBlock from by rw [hg]; exact fun e => by cases e)
        have HGL := Lib.hid (show GS.length = m' + 1 from by rw [hGS, List.length_append, HI.out.len]; rfl)
        have HINV := Lib.hid (show ∀ a9 c9, Gath.Inv (plS win ss) ((GS.set gs.length (g.more a9 c9 (⟨⟨kd, tm, la, L.length, lc, L, tx, v, nl⟩, mk, sq, pl⟩ : RowV))).map GV.pair) (rs.take (k + 1)) from fun a9 c9 => by
          have hkf : plS win ss (⟨⟨kd, tm, la, L.length, lc, L, tx, v, nl⟩, mk, sq, pl⟩ : RowV) = (q, pt) := by unfold plS; rw [HQ.out, HPT.out]
          have h2 := HI.out.inv.new (x := (⟨⟨kd, tm, la, L.length, lc, L, tx, v, nl⟩, mk, sq, pl⟩ : RowV)) (fun p hp => by
            obtain ⟨y, hy, rfl⟩ := List.mem_map.1 hp
            rw [hkf]; exact HNO.out y hy)
          rw [hkf] at h2
          rw [hGS, List.set_append_right _ _ (Nat.le_refl _), Nat.sub_self, List.map_append, hg]
          rw [take_snoc (by have := HNEW.out.rows.len; omega) HR.out]
          exact h2)
        clear hown9 hgrow9 h9 hmid hys9 hxs9 hg hGS hst y0 y1 lkm c1 hqw hl1
        go_wp2_with fail
        rw [← hby']
        clear hby'
        have lx : bx < wS.heap.size := (Array.getElem?_eq_some_iff.1 HXS.out).1
        have ly : by' < wS.heap.size := (Array.getElem?_eq_some_iff.1 HYS.out).1
        have hgm : g ∈ GS := by rw [← HG.out.2]; exact List.getElem_mem _
        have gb := (HMD.out.own.blk g hgm).2
        obtain ⟨P, hP⟩ : ∃ P, P = g.p := ⟨_, rfl⟩
        rw [← hP] at gb
        have lp : P < wS.heap.size := (Array.getElem?_eq_some_iff.1 gb).1
        have hgo := (HMD.out.own.own g hgm).1
        have hno : ∀ b, (∀ cs, wS.heap[b]? ≠ some (.cells cs 62 (0, 0))) → some b ≠ g.v.ownBlock := fun b hb e => by
          obtain ⟨cs, hcs⟩ := own_blk hgo e.symm
          exact hb cs hcs
        have hblt : ∀ b, g.v.ownBlock = some b → w3.heap.size ≤ b := fun b hb => (hgo.lt b hb).1
        have hbx3 : some bx ≠ g.v.ownBlock ∧ bx ≠ P := ⟨HBXN.out, fun e => by
          have h1 := HXS.out
          rw [e, gb] at h1
          have h2 := (Obj.cells.injEq .. ▸ Option.some.inj h1)
          have h3 : (72 : TypeId) = 62 := h2.2.1
          exact absurd h3 (by decide)⟩
        have hby3 : some by' ≠ g.v.ownBlock ∧ by' ≠ P := ⟨hno by' (fun cs e => by
          rw [HYS.out] at e
          have h2 := (Obj.cells.injEq .. ▸ Option.some.inj e)
          have h3 : (124 : TypeId) = 62 := h2.2.1
          exact absurd h3 (by decide)), fun e => by
          have h1 := HYS.out
          rw [e, gb] at h1
          have h2 := (Obj.cells.injEq .. ▸ Option.some.inj h1)
          have h3 : (72 : TypeId) = 124 := h2.2.1
          exact absurd h3 (by decide)⟩
        have hM3 : some M ≠ g.v.ownBlock ∧ M ≠ P := by
          obtain ⟨es, cl, hms⟩ := HMD.out.map.obj
          refine ⟨hno M (fun cs e => by rw [hms] at e; cases e), fun e => ?_⟩
          rw [e, gb] at hms; cases hms
        have e2 : lookG GS (q, pt) = some P := by
          have := lookG_at HG.out.1 HMD.out.keys
          rw [HG.out.2, HKEY.out] at this
          rw [hP]; exact this
        have HE2 := Lib.hid e2
        have HAX := Lib.hid (show ∀ L7 V7 w9, SpR wS w3.heap.size M P q pt g (⟨⟨kd, tm, la, L.length, lc, L, tx, v, nl⟩, mk, sq, pl⟩ : RowV) L7 V7 w9 → w9.heap[bx]? = some (.cells #[.int .i64 kd, .int .i64 tm, .slice la L.length lc, .string tx, .int .i64 v, .bool nl, .int .i64 mk, .int .i64 sq, .int .i64 pl] 62 (0, 0)) from fun L7 V7 w9 h => (h.keep lx hbx3.1 hbx3.2).trans HXS.out)
        have HAY := Lib.hid (show ∀ L7 V7 w9, SpR wS w3.heap.size M P q pt g (⟨⟨kd, tm, la, L.length, lc, L, tx, v, nl⟩, mk, sq, pl⟩ : RowV) L7 V7 w9 → w9.heap[by']? = some (.cells #[.int .i64 q, .string pt] 124 (0, 0)) from fun L7 V7 w9 h => (h.keep ly hby3.1 hby3.2).trans HYS.out)
        have HAM := Lib.hid (show ∀ L7 V7 w9, SpR wS w3.heap.size M P q pt g (⟨⟨kd, tm, la, L.length, lc, L, tx, v, nl⟩, mk, sq, pl⟩ : RowV) L7 V7 w9 → (Instr.lookup 121 (.map (some M)) (.agg #[.int .i64 q, .string pt]) false).run Try.prog w9 = .ok (.pointer (some ⟨P, 0, none⟩)) w9 from fun L7 V7 w9 h => by
          have e := (HMD.out.map.same (h.keep HMD.out.map.lt hM3.1 hM3.2)).look (k := (q, pt)) HOK.out
          rw [HE2.out] at e
          exact e)
        have HGB := Lib.hid gb
        have HP := Lib.hid hP
        have HGO := Lib.hid hgo
        have HTYP := Lib.hid (show some P ≠ g.v.ownBlock from hno P (fun cs e => by
          rw [gb] at e
          have h2 := (Obj.cells.injEq .. ▸ Option.some.inj e)
          have h3 : (72 : TypeId) = 62 := h2.2.1
          exact absurd h3 (by decide)))
        have hgn : g.n ≤ 1000 := by have := HMD.out.few g hgm; omega
        have hbase := HMD.out.bel1.size
        have HBASE := Lib.hid hbase
        have HGM := Lib.hid hgm
        have HLP := Lib.hid lp
        clear gb hgm hP hgo hno hblt hbx3 hby3 hM3 e2 lx ly lp hbase
        refine wp_region_inv (by kernel_rfl) (by kernel_rfl) (by kernel_rfl) (SpR wS w3.heap.size M P q pt g (⟨⟨kd, tm, la, L.length, lc, L, tx, v, nl⟩, mk, sq, pl⟩ : RowV)) (fun V => SpR.start V) ?_ ?_
        · intro j9 o ho L9 V w9 K hI hL hdep hK
          have HI := Lib.hid hI
          have hin : j9 < 15 := (Array.getElem?_eq_some_iff.1 ho).1
          have hcs : j9 = 0 ∨ j9 = 1 ∨ j9 = 2 ∨ j9 = 3 ∨ j9 = 4 ∨ j9 = 5 ∨ j9 = 6 ∨ j9 = 7 ∨ j9 = 8 ∨ j9 = 9 ∨ j9 = 10 ∨ j9 = 11 ∨ j9 = 12 ∨ j9 = 13 ∨ j9 = 14 := by omega
          clear hin
          rcases hcs with rfl | rfl | rfl | rfl | rfl | rfl | rfl | rfl | rfl | rfl | rfl | rfl | rfl | rfl | rfl
          · obtain rfl := Option.some.inj ho.symm
            clear hdep ho hI hL
            try simp only [fill, slotOf, List.size_toArray, List.length_cons, List.length_nil, Nat.reduceAdd, List.getElem?_toArray, List.getElem?_cons_zero, List.getElem?_cons_succ, Option.bind_some, Act.put, List.setIfInBounds_toArray, List.set_cons_zero, List.set_cons_succ] at hK ⊢
            go_simp
            exact hK (.map (some M)) _ (HI.out.put 0 _ (by decide) rfl) _ rfl
          · obtain rfl := Option.some.inj ho.symm
            have r0 : w9.cell? ⟨by', 0, none⟩ = some (.int .i64 q) := cell_blk (HAY.out _ _ _ hI) rfl
            have r1 : w9.cell? ⟨by', 1, none⟩ = some (.string pt) := cell_blk (HAY.out _ _ _ hI) rfl
            clear hdep ho hI hL
            try simp only [fill, slotOf, List.size_toArray, List.length_cons, List.length_nil, Nat.reduceAdd, List.getElem?_toArray, List.getElem?_cons_zero, List.getElem?_cons_succ, Option.bind_some, Act.put, List.setIfInBounds_toArray, List.set_cons_zero, List.set_cons_succ] at hK ⊢
            go_simp
            exact hK (.agg #[.int .i64 q, .string pt]) _ (HI.out.put 1 _ (by decide) rfl) _ rfl
          · obtain rfl := Option.some.inj ho.symm
            have d0 : V 0 = .map (some M) := hI.val 0 (hdep ⟨0, .data⟩ (by simp) rfl)
            have d1 : V 1 = .agg #[.int .i64 q, .string pt] := hI.val 1 (hdep ⟨1, .data⟩ (by simp) rfl)
            have lk := HAM.out _ _ _ hI
            clear hdep ho hI hL
            try simp only [fill, slotOf, List.size_toArray, List.length_cons, List.length_nil, Nat.reduceAdd, List.getElem?_toArray, List.getElem?_cons_zero, List.getElem?_cons_succ, Option.bind_some, Act.put, List.setIfInBounds_toArray, List.set_cons_zero, List.set_cons_succ] at hK ⊢
            rw [d0, d1] at hK ⊢
            go_simp
            exact hK (.pointer (some ⟨P, 0, none⟩)) _ (HI.out.put 2 _ (by decide) rfl) _ rfl
          · obtain rfl := Option.some.inj ho.symm
            clear hdep ho hI hL
            try simp only [fill, slotOf, List.size_toArray, List.length_cons, List.length_nil, Nat.reduceAdd, List.getElem?_toArray, List.getElem?_cons_zero, List.getElem?_cons_succ, Option.bind_some, Act.put, List.setIfInBounds_toArray, List.set_cons_zero, List.set_cons_succ] at hK ⊢
            go_simp
            exact hK (.map (some M)) _ (HI.out.put 3 _ (by decide) rfl) _ rfl
          · obtain rfl := Option.some.inj ho.symm
            have r0 : w9.cell? ⟨by', 0, none⟩ = some (.int .i64 q) := cell_blk (HAY.out _ _ _ hI) rfl
            have r1 : w9.cell? ⟨by', 1, none⟩ = some (.string pt) := cell_blk (HAY.out _ _ _ hI) rfl
            clear hdep ho hI hL
            try simp only [fill, slotOf, List.size_toArray, List.length_cons, List.length_nil, Nat.reduceAdd, List.getElem?_toArray, List.getElem?_cons_zero, List.getElem?_cons_succ, Option.bind_some, Act.put, List.setIfInBounds_toArray, List.set_cons_zero, List.set_cons_succ] at hK ⊢
            go_simp
            exact hK (.agg #[.int .i64 q, .string pt]) _ (HI.out.put 4 _ (by decide) rfl) _ rfl
          · obtain rfl := Option.some.inj ho.symm
            have d3 : V 3 = .map (some M) := hI.val 3 (hdep ⟨3, .data⟩ (by simp) rfl)
            have d4 : V 4 = .agg #[.int .i64 q, .string pt] := hI.val 4 (hdep ⟨4, .data⟩ (by simp) rfl)
            have lk := HAM.out _ _ _ hI
            clear hdep ho hI hL
            try simp only [fill, slotOf, List.size_toArray, List.length_cons, List.length_nil, Nat.reduceAdd, List.getElem?_toArray, List.getElem?_cons_zero, List.getElem?_cons_succ, Option.bind_some, Act.put, List.setIfInBounds_toArray, List.set_cons_zero, List.set_cons_succ] at hK ⊢
            rw [d3, d4] at hK ⊢
            go_simp
            exact hK (.pointer (some ⟨P, 0, none⟩)) _ (HI.out.put 5 _ (by decide) rfl) _ rfl
          · obtain rfl := Option.some.inj ho.symm
            have d5 : V 5 = .pointer (some ⟨P, 0, none⟩) := hI.val 5 (hdep ⟨5, .data⟩ (by simp) rfl)
            clear hdep ho hI hL
            try simp only [fill, slotOf, List.size_toArray, List.length_cons, List.length_nil, Nat.reduceAdd, List.getElem?_toArray, List.getElem?_cons_zero, List.getElem?_cons_succ, Option.bind_some, Act.put, List.setIfInBounds_toArray, List.set_cons_zero, List.set_cons_succ] at hK ⊢
            rw [d5] at hK ⊢
            go_simp
            exact hK (.pointer (some ⟨P, 0, none⟩)) _ (HI.out.put 6 _ (by decide) rfl) _ rfl
          · obtain rfl := Option.some.inj ho.symm
            have d6 : V 6 = .pointer (some ⟨P, 0, none⟩) := hI.val 6 (hdep ⟨6, .data⟩ (by simp) rfl)
            clear hdep ho hI hL
            try simp only [fill, slotOf, List.size_toArray, List.length_cons, List.length_nil, Nat.reduceAdd, List.getElem?_toArray, List.getElem?_cons_zero, List.getElem?_cons_succ, Option.bind_some, Act.put, List.setIfInBounds_toArray, List.set_cons_zero, List.set_cons_succ] at hK ⊢
            rw [d6] at hK ⊢
            go_simp
            exact hK (.pointer (some ⟨P, 2, none⟩)) _ (HI.out.put 7 _ (by decide) rfl) _ rfl
          · obtain rfl := Option.some.inj ho.symm
            have d7 : V 7 = .pointer (some ⟨P, 2, none⟩) := hI.val 7 (hdep ⟨7, .data⟩ (by simp) rfl)
            have hg9 := ((hI.sA (hI.no11 (.inl hL))).1.block P HLP.out).trans HGB.out
            have cc : w9.cell? ⟨P, 2, none⟩ = some (.slice g.a g.n g.c) := cell_blk hg9 rfl
            clear hdep ho hI hL
            clear hg9
            try simp only [fill, slotOf, List.size_toArray, List.length_cons, List.length_nil, Nat.reduceAdd, List.getElem?_toArray, List.getElem?_cons_zero, List.getElem?_cons_succ, Option.bind_some, Act.put, List.setIfInBounds_toArray, List.set_cons_zero, List.set_cons_succ] at hK ⊢
            rw [d7] at hK ⊢
            go_simp
            exact hK (.slice g.a g.n g.c) _ (HI.out.put 8 _ (by decide) rfl) _ rfl
          · obtain rfl := Option.some.inj ho.symm
            have s0 : w9.cell? ⟨bx, 0, none⟩ = some (.int .i64 kd) := cell_blk (HAX.out _ _ _ hI) rfl
            have s1 : w9.cell? ⟨bx, 1, none⟩ = some (.int .i64 tm) := cell_blk (HAX.out _ _ _ hI) rfl
            have s2 : w9.cell? ⟨bx, 2, none⟩ = some (.slice la L.length lc) := cell_blk (HAX.out _ _ _ hI) rfl
            have s3 : w9.cell? ⟨bx, 3, none⟩ = some (.string tx) := cell_blk (HAX.out _ _ _ hI) rfl
            have s4 : w9.cell? ⟨bx, 4, none⟩ = some (.int .i64 v) := cell_blk (HAX.out _ _ _ hI) rfl
            have s5 : w9.cell? ⟨bx, 5, none⟩ = some (.bool nl) := cell_blk (HAX.out _ _ _ hI) rfl
            have s6 : w9.cell? ⟨bx, 6, none⟩ = some (.int .i64 mk) := cell_blk (HAX.out _ _ _ hI) rfl
            have s7 : w9.cell? ⟨bx, 7, none⟩ = some (.int .i64 sq) := cell_blk (HAX.out _ _ _ hI) rfl
            have s8 : w9.cell? ⟨bx, 8, none⟩ = some (.int .i64 pl) := cell_blk (HAX.out _ _ _ hI) rfl
            clear hdep ho hI hL
            try simp only [fill, slotOf, List.size_toArray, List.length_cons, List.length_nil, Nat.reduceAdd, List.getElem?_toArray, List.getElem?_cons_zero, List.getElem?_cons_succ, Option.bind_some, Act.put, List.setIfInBounds_toArray, List.set_cons_zero, List.set_cons_succ] at hK ⊢
            go_simp
            exact hK (.agg #[.int .i64 kd, .int .i64 tm, .slice la L.length lc, .string tx, .int .i64 v, .bool nl, .int .i64 mk, .int .i64 sq, .int .i64 pl]) _ (HI.out.put 9 _ (by decide) rfl) _ rfl
          · obtain rfl := Option.some.inj ho.symm
            have d9 : V 9 = .agg #[.int .i64 kd, .int .i64 tm, .slice la L.length lc, .string tx, .int .i64 v, .bool nl, .int .i64 mk, .int .i64 sq, .int .i64 pl] := hI.val 9 (hdep ⟨9, .data⟩ (by simp) rfl)
            have HI4 := Lib.hid (hI.put10 hL)
            clear hdep ho hI hL
            try simp only [fill, slotOf, List.size_toArray, List.length_cons, List.length_nil, Nat.reduceAdd, List.getElem?_toArray, List.getElem?_cons_zero, List.getElem?_cons_succ, Option.bind_some, Act.put, List.setIfInBounds_toArray, List.set_cons_zero, List.set_cons_succ] at hK ⊢
            rw [d9] at hK ⊢
            go_simp
            exact hK (.slice (some ⟨w9.heap.size, 0, none⟩) 1 1) _ HI4.out _ rfl
          · have hoo := Option.some.inj ho.symm
            have HL11 := Lib.hid hL
            have d8 : V 8 = .slice g.a g.n g.c := hI.val 8 (hdep ⟨8, .data⟩ (by rw [hoo]; simp) rfl)
            have l8 := hdep ⟨8, .data⟩ (by rw [hoo]; simp) rfl
            have l10 := hdep ⟨10, .data⟩ (by rw [hoo]; simp) rfl
            have hA := hI.sA hL
            obtain ⟨bb, d10, hbb⟩ := hA.2 l10
            have HOW := Lib.hid (own_below HGO.out hA.1)
            have HBB := Lib.hid hbb
            have HAB := Lib.hid hA.1
            have hs9 := hA.1.size
            subst hoo
            clear hdep ho hI hL
            clear hA
            clear hbb
            try simp only [fill, slotOf, List.size_toArray, List.length_cons, List.length_nil, Nat.reduceAdd, List.getElem?_toArray, List.getElem?_cons_zero, List.getElem?_cons_succ, Option.bind_some, Act.put, List.setIfInBounds_toArray, List.set_cons_zero, List.set_cons_succ] at hK ⊢
            rw [d8, d10] at hK ⊢
            refine step_append_own_b (by first | rfl | kernel_rfl) (.tmp 69) (.tmp 71) 58 rfl w3.heap.size 62 i0 _ 9 96 Try.underlying58 hi hz0 hz1 hz2 rfl (by decide) (.slice g.a g.n g.c) g.n (rcells g.rows) (by rfl) HOW.out ⟨bb, 0, none⟩ 1 1 (RowV.cells (⟨⟨kd, tm, la, L.length, lc, L, tx, v, nl⟩, mk, sq, pl⟩ : RowV)) (by rfl) rfl HBB.out (rcells_one _) (by unfold maxLen; omega) (by omega) (Nat.le_trans HBASE.out hs9) ?_
            intro vN wA hownA hgrowA hlocA
            obtain ⟨gN, cN, rfl⟩ := own_some2 hownA (by omega)
            exact hK (.slice (some ⟨gN, 0, none⟩) (g.n + 1) cN) _ (HI.out.put11 HL11.out l8 l10 ⟨_, _, w9.heap.size, rfl, hownA, grown_low HAB.out hgrowA, hlocA, hs9⟩) _ rfl
          · obtain rfl := Option.some.inj ho.symm
            have d2 : V 2 = .pointer (some ⟨P, 0, none⟩) := hI.val 2 (hdep ⟨2, .data⟩ (by simp) rfl)
            clear hdep ho hI hL
            try simp only [fill, slotOf, List.size_toArray, List.length_cons, List.length_nil, Nat.reduceAdd, List.getElem?_toArray, List.getElem?_cons_zero, List.getElem?_cons_succ, Option.bind_some, Act.put, List.setIfInBounds_toArray, List.set_cons_zero, List.set_cons_succ] at hK ⊢
            rw [d2] at hK ⊢
            go_simp
            exact hK (.pointer (some ⟨P, 0, none⟩)) _ (HI.out.put 12 _ (by decide) rfl) _ rfl
          · obtain rfl := Option.some.inj ho.symm
            have d12 : V 12 = .pointer (some ⟨P, 0, none⟩) := hI.val 12 (hdep ⟨12, .data⟩ (by simp) rfl)
            clear hdep ho hI hL
            try simp only [fill, slotOf, List.size_toArray, List.length_cons, List.length_nil, Nat.reduceAdd, List.getElem?_toArray, List.getElem?_cons_zero, List.getElem?_cons_succ, Option.bind_some, Act.put, List.setIfInBounds_toArray, List.set_cons_zero, List.set_cons_succ] at hK ⊢
            rw [d12] at hK ⊢
            go_simp
            exact hK (.pointer (some ⟨P, 2, none⟩)) _ (HI.out.put 13 _ (by decide) rfl) _ rfl
          · have hoo := Option.some.inj ho.symm
            have d13 : V 13 = .pointer (some ⟨P, 2, none⟩) := hI.val 13 (hdep ⟨13, .data⟩ (by rw [hoo]; simp) rfl)
            have l11 := hdep ⟨11, .data⟩ (by rw [hoo]; simp) rfl
            have hB := hI.sB l11 hL
            obtain ⟨aN, cN, BN, d11, ho11, hg11, hlo11, hB11⟩ := hB
            have hg9 := (hg11.block P HLP.out HTYP.out).trans HGB.out
            have cc : w9.cell? ⟨P, 2, none⟩ = some (.slice g.a g.n g.c) := cell_blk hg9 rfl
            have ff : w9.frozen? ⟨P, 2, none⟩ = false := by simp [World.frozen?, hg9]
            have HI4 := Lib.hid (hI.put14 l11 hL undef)
            rw [d11] at HI4
            subst hoo
            clear hdep ho hI hL
            clear ho11
            clear hg11
            clear hlo11
            clear hB11
            clear hg9
            clear l11
            try simp only [fill, slotOf, List.size_toArray, List.length_cons, List.length_nil, Nat.reduceAdd, List.getElem?_toArray, List.getElem?_cons_zero, List.getElem?_cons_succ, Option.bind_some, Act.put, List.setIfInBounds_toArray, List.set_cons_zero, List.set_cons_succ] at hK ⊢
            rw [d13, d11] at hK ⊢
            go_simp
            exact hK (undef) _ HI4.out _ rfl
        · intro L9 V w9 hI hall
          obtain ⟨wA, vN, hStB, hw9⟩ := hI.sC (hall 14 (by decide))
          obtain ⟨aN, cN, BN, rfl, ho11, hg11, hlo11, hB11⟩ := hStB
          have HW9 := Lib.hid hw9
          have HO11 := Lib.hid ho11
          have HG11 := Lib.hid hg11
          have HL11 := Lib.hid hlo11
          have HB11 := Lib.hid hB11
          clear hall hI hw9 ho11 hg11 hlo11 hB11
          simp only [fill, slotOf, List.size_toArray, List.length_cons, List.length_nil, Nat.reduceAdd, List.getElem?_toArray, List.getElem?_cons_zero, List.getElem?_cons_succ, Option.bind_some, Act.put, List.setIfInBounds_toArray, List.set_cons_zero, List.set_cons_succ]
          have hnx := SpI.next HMD.out HROW.out HG.out.1 HG.out.2 HGL.out (by have := HI.out.lek; omega) HB11.out H3S.out HO11.out HG11.out HL11.out (HINV.out aN cN)
          rw [← HP.out, ← HW9.out] at hnx
          have HNX := Lib.hid hnx
          clear hnx
          go_wp2_with fail
          go_roundw
          case rel => exact ⟨k + 1, m' + 1, c9, _, _, by omega, by go_num, rfl, HNX⟩
          case measure => simp [intOf]; omega
    · obtain rfl : k = n := by omega
      have hm9 : m' ≤ 1000 := by have := HI.out.lek; omega
      have HSORT := Lib.hid (gsort_all HI.out.row HI.out.len (by omega) HI.out.own (keys_ne HI.out.inv))
      clear hkn
      go_wp2_with fail
      refine HSORT.out.mono ?_
      rintro e w6 ⟨rfl, gs', hp6, hup6, hrow6, hg6⟩
      have hpar := HI.out.parted (by have := HNEW.out.rows.len; omega) H3S.out HM3L.out HOM.out HNEW.out.rows hp6 hup6 hg6
      have HPAR := Lib.hid hpar
      have hlen6 : gs'.length = m' := by rw [hp6.length_eq]; exact HI.out.len
      have HLEN6 := Lib.hid hlen6
      have HROW6 := Lib.hid hrow6
      have hc6 : m' ≤ cp ∧ cp ≤ 9223372036854775807 := by
        rcases hrow6.2 with ⟨he, h0⟩ | ⟨g, cap, cur, he, hg, hh, hnc, hcap, _⟩
        · cases he; exact ⟨Nat.le_refl _, by omega⟩
        · cases he; exact ⟨hnc, by unfold maxLen at hcap; exact hcap⟩
      have hc61 := hc6.1
      have hc62 := hc6.2
      have HB60 := Lib.hid (Below.refl w6.heap.size w6)
      have HO60 := Lib.hid (World.ownsRow_nil w6 w6.heap.size 72 3)
      clear hp6 hup6 hrow6 hg6 hpar hlen6 hc6
      go_wp2_with fail
      go_loopw [14, 80] (fun s14 s80 wr => ∃ (i c9 : Nat) (a9 : Option Addr), i ≤ m' ∧ s80 = .int .i64 (i : Int) ∧ s14 = .slice a9 i c9 ∧ Hid (wr.ownsRow w6.heap.size 72 3 (.slice a9 i c9) i (gcells (gs'.take i))) ∧ Hid (Below w6.heap.size w6 wr)) (fun _ s80 _ => m' - (intOf s80).toNat)
      case atStart => exact ⟨0, 0, none, by omega, rfl, rfl, HO60, HB60⟩
      case round =>
        clear HB60 HO60
        obtain ⟨i, c9, a9, hi9, rfl, rfl, HO, HB⟩ := hrel
        rename World => wt
        by_cases him : i < m'
        · have himi : (i : Int) < (m' : Int) := by omega
          have hpw := HPAR.out.below HB.out
          have hrw := own_below HROW6.out HB.out
          obtain ⟨g6, cc6, he6⟩ := own_some2 hrw (by omega)
          cases he6
          obtain ⟨g, hg⟩ : ∃ g, g = gs'[i]'(by have := HLEN6.out; omega) := ⟨_, rfl⟩
          have hgm : g ∈ gs' := by rw [hg]; exact List.getElem_mem _
          have hgb := (hpw.own.blk g hgm).2
          obtain ⟨P, hP⟩ : ∃ P, P = g.p := ⟨_, rfl⟩
          rw [← hP] at hgb
          have z0 : wt.cell? ⟨P, 0, none⟩ = some (.int .i64 g.win) := cell_blk hgb rfl
          have z1 : wt.cell? ⟨P, 1, none⟩ = some (.string g.part) := cell_blk hgb rfl
          have z2 : wt.cell? ⟨P, 2, none⟩ = some (.slice g.a g.n g.c) := cell_blk hgb rfl
          have zp : wt.cell? ⟨g6, i, none⟩ = some (.pointer (some ⟨P, 0, none⟩)) := by
            have h1 := hrw.cellAt i (by omega)
            rw [h1, List.getElem?_map, List.getElem?_eq_getElem (by have := HLEN6.out; omega), ← hg, hP]; rfl
          have HT := Lib.hid (show gs'.take (i + 1) = gs'.take i ++ [g] from by
            have hlt : i < gs'.length := by have := HLEN6.out; omega
            rw [List.take_add_one, List.getElem?_eq_getElem hlt, hg]; rfl)
          have hbt := HB.out.size
          have HSRC := Lib.hid (grp_src wt g 72)
          have HOA := Lib.hid (HO.out.alloc (.cells #[.int .i64 g.win, .string g.part, .slice g.a g.n g.c] 72))
          have HBA := Lib.hid (HB.out.alloc HB.out.size (.cells #[.int .i64 g.win, .string g.part, .slice g.a g.n g.c] 72))
          have HBT := Lib.hid hbt
          clear hpw hrw hg hgm hgb hP hbt
          go_wp2_with (at_builtin; refine wpList_append_own_at _ rfl (.tmp 84) (.tmp 88) 67 rfl w6.heap.size 72 k0 _ 3 48 Try.underlying67 pi pz0 pz1 pz2 rfl (by decide) _ i _ rfl HOA.out ⟨wt.heap.size, 0, none⟩ 1 1 (GV.cells g) rfl rfl HSRC.out (gcells_one _) (by unfold maxLen; omega) (by omega) (Nat.le_trans HBT.out (by simp)) ?_)
          intro v7 w7 ho7 hg7 _ _
          obtain ⟨g7, c7, rfl⟩ := own_some2 ho7 (by omega)
          have HO7 := Lib.hid (show w7.ownsRow w6.heap.size 72 3 (.slice (some ⟨g7, 0, none⟩) (i + 1) c7) (i + 1) (gcells (gs'.take (i + 1))) from by rw [HT.out, gcells_snoc]; exact ho7)
          have HB7 := Lib.hid (below_own HBA.out HOA.out hg7 (Nat.le_refl _) (Nat.le_trans HBT.out (by simp)))
          clear ho7 hg7 z0 z1 z2 zp
          go_wp2_with fail
          go_roundw
          case rel => exact ⟨i + 1, c7, _, by omega, by go_num, rfl, HO7, HB7⟩
          case measure => simp [intOf]; omega
        · obtain rfl : i = m' := by omega
          have hpw := HPAR.out.below HB.out
          have ho := HO.out
          rw [List.take_of_length_le (by have := HLEN6.out; omega)] at ho
          have HAT := Lib.hid (GrpsAt.ofOwn ho HLEN6.out hpw.rows)
          have HPW := Lib.hid hpw
          clear him ho hpw
          go_wp2_with fail
          go_ret
          exact ⟨a9, i, c9, l1, rs, gs', rfl, ⟨HAT.out, HPW.out.inv, HPW.out.up, HNEW.out.rows.len, HSY.out, HST.out, HPW.out.bel⟩⟩
end Go.Proofs.Ytjbljplgkbnpmaa
end SecSpAll1
