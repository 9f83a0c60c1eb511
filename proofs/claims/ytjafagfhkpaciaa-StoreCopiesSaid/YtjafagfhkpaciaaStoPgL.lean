/- A page, plainly; rows read. -/
import Derived.Test.YtjafagfhkpaciaaStoPg0
import Derived.Test.YtjafagfhkpaciaaStoInv
import Derived.Test.YtjafagfhkpaciaaStoKeys
import Derived.Test.YtjafagfhkpaciaaParts
namespace Go.Proofs.Ytjafagfhkpaciaa
open Go.RowKit Go.Shelf Go.Maps Go.Sort
set_option linter.unusedVariables false

def pageL {κ α : Type} (P : κ → Bool) (f : κ × α → ItemV) (l : List (κ × α)) : List ItemV := (l.filter fun p => P p.1).map f
section
variable {κ α : Type} {P : κ → Bool} {f : κ × α → ItemV} {l : List (κ × α)}
theorem pageL_split (i : Nat) : pageL P f l = pageL P f (l.take i) ++ pageL P f (l.drop i) := by
  unfold pageL
  rw [← List.map_append, ← List.filter_append, List.take_append_drop]
theorem pageL_succ {i : Nat} {p : κ × α} (h : l[i]? = some p) : pageL P f (l.take (i + 1)) = pageL P f (l.take i) ++ (if P p.1 = true then [f p] else []) := by
  obtain ⟨hi, he⟩ := List.getElem?_eq_some_iff.1 h
  rw [List.take_add_one, h]
  unfold pageL
  simp only [Option.toList_some, List.filter_append, List.map_append]
  congr 1
  rw [List.filter_cons]
  split <;> simp_all
theorem pageL_drop {i : Nat} {p : κ × α} (h : l[i]? = some p) (hp : P p.1 = true) : 1 ≤ (pageL P f (l.drop i)).length := by
  obtain ⟨hi, he⟩ := List.getElem?_eq_some_iff.1 h
  rw [List.drop_eq_getElem_cons hi, he]
  unfold pageL
  rw [List.filter_cons, if_pos hp, List.map_cons, List.length_cons]
  omega
end
def KeyS : Sty ByteArray := ⟨fun z => [.string z], 1, ByteArray.empty, fun _ _ => True, by decide, fun _ => rfl, (fun x u hu => by rw [List.mem_singleton.1 hu]; rfl), fun _ h => h⟩
theorem kys_flat (l : List (ByteArray × ObjS)) : (kysOf l).map encStr = KeyS.flat (l.map (·.1)) := by
  unfold kysOf Sty.flat
  induction l with
  | nil => rfl
  | cons p l ih =>
    rw [List.map_cons, List.map_cons, List.map_cons, List.flatMap_cons, ih]
    rfl
theorem ids_flat (l : List (Int × UplS)) : (idsOf l).map encZ = IntS.flat (l.map (·.1)) := by
  unfold idsOf Sty.flat
  induction l with
  | nil => rfl
  | cons p l ih =>
    rw [List.map_cons, List.map_cons, List.flatMap_cons, ih]
    rfl
theorem row_get {α : Type} {S : Sty α} {w : World} {base n : Nat} {e : TypeId} {v : Value} {l : List α} (h : w.ownsRow base e S.K v n (S.flat l)) (hl : l.length = n) (hok : ∀ x ∈ l, S.ok w x) :
    ∃ a c, v = .slice a n c ∧ ∀ i, i < n → ∃ g, a = some ⟨g, 0, none⟩ ∧ base ≤ g ∧ g < w.heap.size ∧ ∀ j u, (S.f (l.getD i S.z))[j]? = some u → w.cell? ⟨g, i * S.K + j, none⟩ = some u := by
  rcases h.2 with ⟨rfl, hz⟩ | ⟨g, cap, cu, rfl, hbg, hh, _⟩
  · exact ⟨none, 0, by rw [hz], fun i hi => by omega⟩
  · refine ⟨_, _, rfl, fun i hi => ?_⟩
    obtain ⟨b, off, ha, hb, _, hc⟩ := (VecAt.ofOwn h hl hok).get hi
    cases ha
    refine ⟨g, rfl, hbg, hb, fun j u hu => ?_⟩
    have := hc j u hu
    rwa [Nat.zero_add] at this
theorem get_of_mem {κ α : Type} {lit : κ → Lit} (h : LitOk lit) : ∀ {l : List (κ × α)}, l.Pairwise (fun p q => lit p.1 ≠ lit q.1) → ∀ {p : κ × α}, p ∈ l → getK lit p.1 l = some p.2
  | [], _, p, hp => by cases hp
  | y :: r, hw, p, hp => by
    obtain ⟨h1, h2⟩ := List.pairwise_cons.1 hw
    unfold getK
    rw [List.find?_cons]
    rcases List.mem_cons.1 hp with rfl | g
    · rw [h.same]; rfl
    · have h3 : (lit y.1).sameKey (lit p.1) = false := by
        rw [Bool.eq_false_iff]; intro e
        exact h1 p g (WideAt.sameKey_eq e)
      rw [h3]
      exact get_of_mem h h2 g
theorem map_getD {κ α : Type} {l : List (κ × α)} {i : Nat} {p : κ × α} (h : l[i]? = some p) (d : κ) : (l.map (·.1)).getD i d = p.1 := by
  rw [List.getD_eq_getElem?_getD, List.getElem?_map, h]
  rfl
theorem info_item : (Try.prog.info? 46).map (fun i => (i.zero, i.size, i.bytes)) = some (some (itemV ⟨ByteArray.empty, 0, 0, 0⟩), 4, 40) := by kernel_rfl
/-- while a page is filled -/
structure PgAt (w2 W : World) (base R : Nat) (v : Value) (m : Nat) (xs : List ItemV) (mo : Bool) : Prop where
  frm : Frm (fun b => b = R) w2 W
  rb : W.heap[R]? = some (.cells #[.int .i64 0, .slice none 0 0, .int .i64 0, .int .i64 0, .int .i64 0, v, .bool mo] 35 (0, 0))
  own : W.ownsRow base 46 4 v m (ItemS.flat xs)
  len : xs.length = m
theorem PgAt.below {w2 W W' : World} {base R : Nat} {v : Value} {m : Nat} {xs : List ItemV} {mo : Bool} (h : PgAt w2 W base R v m xs mo) (hb : Below W.heap.size W W') : PgAt w2 W' base R v m xs mo :=
  ⟨h.frm.below hb, (hb.block _ (Array.getElem?_eq_some_iff.1 h.rb).1).trans h.rb, own_below h.own hb, h.len⟩
theorem PgAt.grow {w2 W W' : World} {base R : Nat} {v v' : Value} {m m' : Nat} {xs xs' : List ItemV} {mo : Bool} (h : PgAt w2 W base R v m xs mo) (hb : w2.heap.size ≤ base) (hg : W.grownBy W' v.ownBlock) : Frm (fun b => b = R) w2 W' ∧ W'.heap[R]? = some (.cells #[.int .i64 0, .slice none 0 0, .int .i64 0, .int .i64 0, .int .i64 0, v, .bool mo] 35 (0, 0)) := by
  have hF : Frm (fun b => some b = v.ownBlock) W W' := ⟨hg.os, hg.tape, hg.output, hg.size, fun k hk hf => hg.block k hk hf⟩
  refine ⟨h.frm.trans hF (fun i e => .inr ?_), hF.at h.rb fun e => own_ne h.own h.rb (by decide) e.symm⟩
  exact Nat.le_trans hb (h.own.lt i e.symm).1
theorem PgAt.set {w2 W : World} {base R : Nat} {v v' : Value} {m : Nat} {xs : List ItemV} {mo : Bool} (hf : Frm (fun b => b = R) w2 W) (hr : W.heap[R]? = some (.cells #[.int .i64 0, .slice none 0 0, .int .i64 0, .int .i64 0, .int .i64 0, v, .bool mo] 35 (0, 0))) (ho : W.ownsRow base 46 4 v' m (ItemS.flat xs)) (hl : xs.length = m) (hne : v'.ownBlock ≠ some R) :
    PgAt w2 (W.setCell ⟨R, 5, none⟩ v') base R v' m xs mo := by
  have h1 := heap_setCell_same W R 5 _ _ v' hr
  have hF : Frm (fun b => b = R) W (W.setCell ⟨R, 5, none⟩ v') := (Frm.refl (fun b => b = R) W).set (p := R) (.inl rfl) 5 v'
  refine ⟨hf.set (.inl rfl) 5 v', h1.trans rfl, ?_, hl⟩
  exact ho.kept (row := some R) ⟨hF.os, hF.tape, hF.output, hF.size, fun k hk hf => hF.block k hk (fun e => hf (by rw [e]))⟩ (.inr hne)
theorem PgAt.more {w2 W : World} {base R : Nat} {v : Value} {m : Nat} {xs : List ItemV} {mo : Bool} (h : PgAt w2 W base R v m xs mo) : PgAt w2 (W.setCell ⟨R, 6, none⟩ (.bool true)) base R v m xs true := by
  have h1 := heap_setCell_same W R 6 _ _ (.bool true) h.rb
  have hF : Frm (fun b => b = R) W (W.setCell ⟨R, 6, none⟩ (.bool true)) := (Frm.refl (fun b => b = R) W).set (p := R) (.inl rfl) 6 _
  refine ⟨h.frm.set (.inl rfl) 6 _, h1.trans rfl, ?_, h.len⟩
  exact h.own.kept (row := some R) ⟨hF.os, hF.tape, hF.output, hF.size, fun k hk hf => hF.block k hk (fun e => hf (by rw [e]))⟩ (.inr (own_ne h.own h.rb (by decide)))
theorem own_base {w : World} {base base' n : Nat} {e : TypeId} {k : Nat} {v : Value} {xs : List Value} (h : w.ownsRow base e k v n xs) (hb : base' ≤ base) : w.ownsRow base' e k v n xs := by
  refine ⟨h.1, ?_⟩
  rcases h.2 with g | ⟨g, cap, cu, h1, h2, h3⟩
  · exact .inl g
  · exact .inr ⟨g, cap, cu, h1, Nat.le_trans hb h2, h3⟩
theorem page_fin {w w2 wX : World} {R m cc : Nat} {aa : Option Addr} {xs : List ItemV} {mo : Bool} (h : PgAt w2 wX w2.heap.size R (.slice aa m cc) m xs mo) (hb : Below w.heap.size w w2) (hR : R = w.heap.size + 1) (h6 : w2.heap[w.heap.size]? = some (.cells zrep 35 (0, 0))) :
    wX.heap[w.heap.size]? = some (.cells zrep 35 (0, 0)) ∧
    (setR wX w.heap.size (.int .i64 0) (.slice none 0 0) (.int .i64 0) (.int .i64 0) (.int .i64 0) (.slice aa m cc) (.bool mo)).heap[w.heap.size]? = some (.cells #[.int .i64 0, .slice none 0 0, .int .i64 0, .int .i64 0, .int .i64 0, .slice aa m cc, .bool mo] 35 (0, 0)) ∧
    (setR wX w.heap.size (.int .i64 0) (.slice none 0 0) (.int .i64 0) (.int .i64 0) (.int .i64 0) (.slice aa m cc) (.bool mo)).ownsRow w.heap.size 46 4 (.slice aa m cc) m (ItemS.flat xs) ∧
    RowKit.Below w.heap.size w (setR wX w.heap.size (.int .i64 0) (.slice none 0 0) (.int .i64 0) (.int .i64 0) (.int .i64 0) (.slice aa m cc) (.bool mo)) := by
  have hx := h.frm.at h6 (by rw [hR]; omega)
  have hF := (Frm.refl (fun b => b = w.heap.size) wX).setR (R := w.heap.size) (.inl rfl) (.int .i64 0) (.slice none 0 0) (.int .i64 0) (.int .i64 0) (.int .i64 0) (.slice aa m cc) (.bool mo)
  refine ⟨hx, setR_at0 hx _ _ _ _ _ _ _, own_base (h.own.kept (row := some w.heap.size) ⟨hF.os, hF.tape, hF.output, hF.size, fun k hk hf => hF.block k hk (fun e => hf (by rw [e]))⟩ (.inr (own_ne h.own hx (by decide)))) hb.size, ?_⟩
  have h1 := hb.trans (h.frm.toBelow hb.size (fun i e => by rw [e, hR]; omega))
  exact h1.trans (hF.toBelow h1.size (fun i e => by rw [e]; exact Nat.le_refl _))
end Go.Proofs.Ytjafagfhkpaciaa
