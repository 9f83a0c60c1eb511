/- A bay where it lies: boxes under keys. -/
import Derived.Test.YtpcohkhdbjimgaaByG
import Derived.Test.YtpcohkhdbjimgaaByVec
import Derived.Test.YtpcohkhdbjimgaaBay3
namespace Go.Proofs.Ytpcohkhdbjimgaa
open Go.RowKit Go.Conc
open Go.Maps (Keyed int_keyed string_keyed)
open Go.ChangeMaps
set_option linter.unusedVariables false

theorem GM.clear {κ α : Type} {lit : κ → Lit} {f : α → Value} {l : List (κ × α)} {T : MTy} {w : World} {M : Nat} (h : GM T lit f w M l) (ty : TypeId) :
    ∃ w', (Builtin.clear_ #[T.t] ty #[.map (some M)]).run Try.prog w = .ok (.tuple #[]) w' ∧ GM T lit f w' M [] ∧ w.mapTurned w' M := by
  obtain ⟨es, clock, hb, F, hs, hD⟩ := h
  refine ⟨setBlock w M (.map #[] clock), ?_, ⟨#[], clock, ?_, ⟨by simp, MapKept.stamped_empty clock, by simp⟩, Nat.le_refl _, rfl⟩, ⟨es, clock, #[], clock, hb, rfl⟩⟩
  · simp [Builtin.clear_, run_underlying T.ht, MapKept.run_getObj_map hb, MapKept.run_setObj_map _ hb, Result.andThen]
    rfl
  · exact (MapKept.heap_set hb).1
structure BoxV where
  B : Nat
  C : Nat
  xs : List Int
def boxC (b : BoxV) : Value := .pointer (some ⟨b.B, 0, none⟩)
def cntC (z : Nat) : Value := .int .i64 (z : Int)
def TB : MTy := ⟨65, 9, 23, .pointer none, string_keyed Try.underlying9, Try.underlying65, fun w => by kernel_rfl⟩
def TC : MTy := ⟨75, 9, 3, .int .i64 0, string_keyed Try.underlying9, Try.underlying75, fun w => by kernel_rfl⟩
theorem lookB {W : World} {M : Nat} {l : List (ByteArray × BoxV)} (h : GM TB slit boxC W M l) (k : ByteArray) (hk : k.size ≤ 1000000000000000) : (Instr.lookup 65 (.map (some M)) (.string k) false).run Try.prog W = .ok ((getK slit k l).elim (.pointer none) boxC) W := h.look (k := k) (keyS (by unfold maxLen; omega))
theorem storeB {W : World} {M : Nat} {l : List (ByteArray × BoxV)} (h : GM TB slit boxC W M l) (k : ByteArray) (hk : k.size ≤ 1000000000000000) (a : BoxV) (hn : l.length ≤ 1000000) : ∃ w', (Instr.mapUpdate 65 (.map (some M)) (.string k) (boxC a)).run Try.prog W = .ok () w' ∧ GM TB slit boxC w' M (putK slit k a l) ∧ W.mapTurned w' M := h.store (k := k) (keyS (by unfold maxLen; omega)) rfl (by unfold maxLen; omega)
theorem lookC {W : World} {M : Nat} {l : List (ByteArray × Nat)} (h : GM TC slit cntC W M l) (k : ByteArray) (hk : k.size ≤ 1000000000000000) : (Instr.lookup 75 (.map (some M)) (.string k) false).run Try.prog W = .ok ((getK slit k l).elim (.int .i64 0) cntC) W := h.look (k := k) (keyS (by unfold maxLen; omega))
theorem storeC {W : World} {M : Nat} {l : List (ByteArray × Nat)} (h : GM TC slit cntC W M l) (k : ByteArray) (hk : k.size ≤ 1000000000000000) (a : Nat) (hn : l.length ≤ 1000000) : ∃ w', (Instr.mapUpdate 75 (.map (some M)) (.string k) (.int .i64 (a : Int))).run Try.prog W = .ok () w' ∧ GM TC slit cntC w' M (putK slit k a l) ∧ W.mapTurned w' M := h.store (k := k) (a := a) (keyS (by unfold maxLen; omega)) rfl (by unfold maxLen; omega)
def KdS : Sty (ByteArray × Int) := ⟨fun x => [.string x.1, .int .i64 x.2], 2, (ByteArray.empty, 0), fun _ x => x.1.size ≤ 1000000000000000, by decide, fun _ => rfl, (fun x u hu => by
  simp only [List.mem_cons, List.not_mem_nil, or_false] at hu
  rcases hu with rfl | rfl <;> rfl), fun _ h => h⟩
/-- a bay -/
structure BayAt (w : World) (Y M room : Nat) (l : List (ByteArray × BoxV)) : Prop where
  blk : w.heap[Y]? = some (.cells #[.int .i64 (room : Int), .map (some M)] 67 (0, 0))
  map : GM TB slit boxC w M l
  box : ∀ p ∈ l, BoxAt w p.2.B p.2.C room p.2.xs
  fit : ∀ p ∈ l, p.2.xs.length ≤ room
  apart : ∀ p ∈ l, ∀ q ∈ l, p.2.C = q.2.C → p.1 = q.1
/-- the blocks that a bay's doings turn -/
def BayF (Y M : Nat) (l : List (ByteArray × BoxV)) (b : Nat) : Prop := b = Y ∨ b = M ∨ ∃ p ∈ l, b = p.2.C
theorem BoxAt.same {w w' : World} {B C room : Nat} {xs : List Int} (h : BoxAt w B C room xs) (e1 : w'.heap[B]? = w.heap[B]?) (e2 : w'.heap[C]? = w.heap[C]?) : BoxAt w' B C room xs := by
  obtain ⟨s, r, hc⟩ := h.ch
  exact ⟨e1.trans h.blk, s, r, e2.trans hc⟩
theorem BayAt.same {w w' : World} {Y M room : Nat} {l : List (ByteArray × BoxV)} (h : BayAt w Y M room l) (e : ∀ b, BayF Y M l b → w'.heap[b]? = w.heap[b]?) (e2 : ∀ p ∈ l, w'.heap[p.2.B]? = w.heap[p.2.B]?) : BayAt w' Y M room l :=
  ⟨(e Y (.inl rfl)).trans h.blk, h.map.same (e M (.inr (.inl rfl))), fun p hp => (h.box p hp).same (e2 p hp) (e _ (.inr (.inr ⟨p, hp, rfl⟩))), h.fit, h.apart⟩
theorem BayAt.lt {w : World} {Y M room : Nat} {l : List (ByteArray × BoxV)} (h : BayAt w Y M room l) {b : Nat} (hb : BayF Y M l b) : b < w.heap.size := by
  rcases hb with rfl | rfl | ⟨p, hp, rfl⟩
  · exact (Array.getElem?_eq_some_iff.1 h.blk).1
  · exact h.map.lt
  · exact (h.box p hp).ltC
theorem BayAt.below {w w' : World} {Y M room : Nat} {l : List (ByteArray × BoxV)} (h : BayAt w Y M room l) (hb : Below w.heap.size w w') : BayAt w' Y M room l :=
  h.same (fun b hF => hb.block b (h.lt hF)) (fun p hp => hb.block _ (h.box p hp).ltB)
/-- a box's own block is none that is turned -/
theorem BayAt.notB {w : World} {Y M room : Nat} {l : List (ByteArray × BoxV)} (h : BayAt w Y M room l) {p : ByteArray × BoxV} (hp : p ∈ l) : ¬ BayF Y M l p.2.B := by
  have hb := (h.box p hp).blk
  rintro (e | e | ⟨q, hq, e⟩)
  · rw [e, h.blk] at hb; simp at hb
  · obtain ⟨es, c, hm⟩ := gm_obj h.map
    rw [e, hm] at hb; cases hb
  · obtain ⟨s, r, hc⟩ := (h.box q hq).ch
    rw [e, hc] at hb; cases hb
/-- what a bay has under a key -/
def cont (l : List (ByteArray × BoxV)) (k : ByteArray) : List Int := match getK slit k l with | some b => b.xs | none => []
/-- a key's box told anew -/
def setXs (k : ByteArray) (ys : List Int) (l : List (ByteArray × BoxV)) : List (ByteArray × BoxV) := l.map fun p => if p.1 = k then (p.1, { p.2 with xs := ys }) else p
theorem enc_setXs (k : ByteArray) (ys : List Int) (l : List (ByteArray × BoxV)) : encK slit boxC (setXs k ys l) = encK slit boxC l := by
  unfold encK setXs
  rw [List.map_map]
  apply List.map_congr_left
  intro p _
  by_cases h : p.1 = k
  · simp only [Function.comp, if_pos h]; rfl
  · simp only [Function.comp, if_neg h]
theorem GM.setXs {w : World} {M : Nat} {l : List (ByteArray × BoxV)} (h : GM TB slit boxC w M l) (k : ByteArray) (ys : List Int) : GM TB slit boxC w M (setXs k ys l) := by
  unfold GM at h ⊢
  rw [enc_setXs]
  unfold Go.Proofs.Ytpcohkhdbjimgaa.setXs
  rw [List.length_map]
  exact h
theorem get_setXs {k : ByteArray} {ys : List Int} {l : List (ByteArray × BoxV)} (j : ByteArray) : getK slit j (setXs k ys l) = if j = k then (getK slit j l).map fun b => { b with xs := ys } else getK slit j l := by
  unfold getK setXs
  induction l with
  | nil => simp
  | cons p l ih =>
    rw [List.map_cons, List.find?_cons, List.find?_cons]
    have e1 : (if p.1 = k then (p.1, ({ p.2 with xs := ys } : BoxV)) else p).1 = p.1 := by split <;> rfl
    rw [e1]
    cases hs : (slit p.1).sameKey (slit j) with
    | true =>
      have e := (litS.iff _ _).1 hs
      show some (if p.1 = k then (p.1, ({ p.2 with xs := ys } : BoxV)) else p).2 = if j = k then some { p.2 with xs := ys } else some p.2
      rw [e]
      split <;> rfl
    | false => exact ih
theorem cont_setXs {k : ByteArray} {ys : List Int} {l : List (ByteArray × BoxV)} (h : (getK slit k l).isSome = true) (j : ByteArray) : cont (setXs k ys l) j = if j = k then ys else cont l j := by
  unfold cont
  rw [get_setXs]
  by_cases e : j = k
  · subst e
    rw [if_pos rfl, if_pos rfl]
    obtain ⟨b, hb⟩ := Option.isSome_iff_exists.1 h
    rw [hb]
    rfl
  · rw [if_neg e, if_neg e]
theorem cont_put {k : ByteArray} {b : BoxV} {l : List (ByteArray × BoxV)} (j : ByteArray) : cont (putK slit k b l) j = if j = k then b.xs else cont l j := by
  unfold cont
  by_cases e : j = k
  · subst e
    rw [if_pos rfl, get_put_same litS]
  · rw [if_neg e, get_put_ne litS e]
end Go.Proofs.Ytpcohkhdbjimgaa
