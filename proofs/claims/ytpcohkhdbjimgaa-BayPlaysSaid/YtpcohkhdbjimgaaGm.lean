/- Maps of any type, whose elements are told of as they are: an ordered list of keys and things beside them. -/
import Derived.Test.YtpcohkhdbjimgaaRows
import Derived.WalkKit
import Derived.Lib.Hide
import Derived.Maps.OwnSet
import Derived.Maps.Range
import Derived.Maps.Ext
namespace Go.Proofs.Ytpcohkhdbjimgaa
open Go.RowKit
open Go.Maps (Keyed)
set_option linter.unusedVariables false

def heldR (v : Value) : Option (DataW Value × List MemPlace) := some (.held v, [])
section
variable {κ α : Type} (lit : κ → Lit)
def insK (x : κ × α) : List (κ × α) → List (κ × α)
  | [] => [x]
  | y :: r => if (lit x.1).before (lit y.1) = true then x :: y :: r else y :: insK x r
def dropK (k : κ) (l : List (κ × α)) : List (κ × α) := l.filter fun p => !(lit p.1).sameKey (lit k)
def putK (k : κ) (a : α) (l : List (κ × α)) : List (κ × α) := insK lit (k, a) (dropK lit k l)
def getK (k : κ) (l : List (κ × α)) : Option α := (l.find? fun p => (lit p.1).sameKey (lit k)).map (·.2)
def encK (f : α → Value) (l : List (κ × α)) : List (Lit × DataW Value) := l.map fun p => (lit p.1, .held (f p.2))
variable {lit} {f : α → Value} {l : List (κ × α)} {k : κ} {a : α}
theorem enc_ins (x : κ × α) : ∀ l : List (κ × α), encK lit f (insK lit x l) = DataW.insert (lit x.1, .held (f x.2)) (encK lit f l)
  | [] => rfl
  | y :: r => by
    unfold insK encK
    rw [List.map_cons]
    unfold DataW.insert
    show List.map _ (if _ then _ else _) = if (lit x.1).before (lit y.1) = true then _ else _
    split
    · rfl
    · rw [List.map_cons]
      exact congrArg _ (enc_ins x r)
theorem enc_drop : encK lit f (dropK lit k l) = (encK lit f l).filter fun p => !p.1.sameKey (lit k) := by
  unfold encK dropK
  rw [List.filter_map]
  rfl
theorem enc_put : (DataW.map (encK lit f l)).put (lit k) (.held (f a)) = .map (encK lit f (putK lit k a l)) := by
  unfold putK
  rw [enc_ins, enc_drop]
  rfl
theorem enc_del : (DataW.map (encK lit f l)).del (lit k) = .map (encK lit f (dropK lit k l)) := by
  rw [enc_drop]; rfl
theorem enc_find : ∀ l : List (κ × α), (encK lit f l).find? (fun p => p.1.sameKey (lit k)) = (l.find? fun p => (lit p.1).sameKey (lit k)).map fun p => (lit p.1, .held (f p.2)) := by
  intro l
  unfold encK
  rw [List.find?_map]
  rfl
theorem enc_at (z : DataW Value) : (DataW.map (encK lit f l)).atKey (lit k) z = match getK lit k l with | some a => .held (f a) | none => z := by
  unfold DataW.atKey getK
  simp only [enc_find]
  cases l.find? fun p => (lit p.1).sameKey (lit k) <;> rfl
theorem enc_has : Maps.has (DataW.map (encK lit f l)) (lit k) = (getK lit k l).isSome := by
  show (encK lit f l).any _ = _
  unfold getK encK
  rw [List.any_map, Option.isSome_map, Bool.eq_iff_iff, List.any_eq_true, List.find?_isSome]
  rfl
theorem enc_size : Maps.size (DataW.map (encK lit f l)) = l.length := by
  show (encK lit f l).length = _
  unfold encK; rw [List.length_map]
end
/-- a map's type: its number, its key's, its element's; the element's zero value -/
structure MTy where
  t : TypeId
  k : TypeId
  e : TypeId
  zv : Value
  K : Keyed Try.prog k
  ht : Try.prog.underlying t = some (.map k e)
  hz : ∀ w, (zeroValue e).run Try.prog w = .ok zv w
theorem own_tight {w : World} {k : TypeId} {R : Value → Option (DataW Value × List MemPlace)} {M n : Nat} {D : DataW Value} (h : w.ownsMap Try.prog k R M n D) : w.ownsMap Try.prog k R M (Maps.size D) D := by
  obtain ⟨es, clock, hb, F, hs, rfl⟩ := h
  exact ⟨es, clock, hb, F, by simp [Maps.size, length_sorted], rfl⟩
section
variable {κ α : Type} {lit : κ → Lit} {f : α → Value} {l : List (κ × α)} {k : κ} {a : α} {T : MTy} {w w' : World} {M : Nat}
/-- block M is a map of these keys and things -/
def GM (T : MTy) (lit : κ → Lit) (f : α → Value) (w : World) (M : Nat) (l : List (κ × α)) : Prop := w.ownsMap Try.prog T.k heldR M l.length (.map (encK lit f l))
theorem GM.made (T : MTy) (lit : κ → Lit) (f : α → Value) (w : World) : GM T lit f (w.alloc (.map #[] 0)) w.heap.size [] := World.ownsMap_made _ _ _ _
theorem GM.lt (h : GM T lit f w M l) : M < w.heap.size := World.ownsMap.lt h
theorem GM.same (h : GM T lit f w M l) (e : w'.heap[M]? = w.heap[M]?) : GM T lit f w' M l := by
  obtain ⟨es, clock, hb, F⟩ := h
  exact ⟨es, clock, e.trans hb, F⟩
theorem GM.below (h : GM T lit f w M l) (hb : Below w.heap.size w w') : GM T lit f w' M l := h.same (hb.block M h.lt)
/-- 'm[k]' -/
theorem GM.look (h : GM T lit f w M l) {key : Value} (hk : keyOf Try.prog T.k key = some (lit k)) :
    (Instr.lookup T.t (.map (some M)) key false).run Try.prog w = .ok ((getK lit k l).elim T.zv f) w := by
  obtain ⟨v, ps, hrun, hv⟩ := World.ownsMap.lookup h T.K T.ht (T.hz w) (zd := .held T.zv) (zp := []) rfl hk
  rw [enc_at] at hv
  rw [hrun]
  cases hg : getK lit k l with
  | none => rw [hg] at hv; simp [heldR] at hv; rw [hv.1]; rfl
  | some a => rw [hg] at hv; simp [heldR] at hv; rw [hv.1]; rfl
/-- 'v, ok := m[k]' -/
theorem GM.look_ok (h : GM T lit f w M l) {key : Value} (hk : keyOf Try.prog T.k key = some (lit k)) :
    (Instr.lookup T.t (.map (some M)) key true).run Try.prog w = .ok (.tuple #[(getK lit k l).elim T.zv f, .bool (getK lit k l).isSome]) w := by
  obtain ⟨v, ps, hrun, hv⟩ := World.ownsMap.look_ok h T.K T.ht (T.hz w) (zd := .held T.zv) (zp := []) rfl hk
  rw [enc_at] at hv
  rw [hrun, enc_has]
  cases hg : getK lit k l with
  | none => rw [hg] at hv; simp [heldR] at hv; rw [hv.1]; rfl
  | some a => rw [hg] at hv; simp [heldR] at hv; rw [hv.1]; rfl
/-- 'm[k] = v' -/
theorem GM.store (h : GM T lit f w M l) {key val : Value} (hk : keyOf Try.prog T.k key = some (lit k)) (hv : val = f a) (hn : l.length < maxLen) :
    ∃ w', (Instr.mapUpdate T.t (.map (some M)) key val).run Try.prog w = .ok () w' ∧ GM T lit f w' M (putK lit k a l) ∧ w.mapTurned w' M := by
  obtain ⟨w', hrun, r1, r2⟩ := World.ownsMap.store h T.K T.ht hn (val := val) (d := .held (f a)) (ps := []) hk (by rw [hv]; rfl)
  rw [enc_put] at r1
  have r3 := own_tight r1
  rw [enc_size] at r3
  exact ⟨w', hrun, r3, r2⟩
/-- 'delete(m, k)' -/
theorem GM.drop (h : GM T lit f w M l) {key : Value} (hk : keyOf Try.prog T.k key = some (lit k)) (ty : TypeId) :
    ∃ w', (Builtin.delete_ #[T.t, T.k] ty #[.map (some M), key]).run Try.prog w = .ok (.tuple #[]) w' ∧ GM T lit f w' M (dropK lit k l) ∧ w.mapTurned w' M := by
  obtain ⟨w', hrun, r1, r2⟩ := World.ownsMap.drop h T.K T.ht hk ty
  rw [enc_del] at r1
  have r3 := own_tight r1
  rw [enc_size] at r3
  exact ⟨w', hrun, r3, r2⟩
/-- 'len(m)' -/
theorem GM.len (h : GM T lit f w M l) (ty : TypeId) : (Builtin.len_ #[T.t] ty #[.map (some M)]).run Try.prog w = .ok (.int .i64 l.length) w := by
  have := World.ownsMap.len h T.ht ty
  rw [enc_size] at this
  exact this
end
end Go.Proofs.Ytpcohkhdbjimgaa
