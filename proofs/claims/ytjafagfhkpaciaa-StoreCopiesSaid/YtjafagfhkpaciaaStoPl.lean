/- The program's store, plainly; its state in memory; its small functions walked. -/
import Derived.Test.YtjafagfhkpaciaaGm
import Derived.Test.YtjafagfhkpaciaaKit
import Derived.Deep.RegionHeld3
import Derived.BigRegion
import Derived.Laws.RangeAny
import Derived.Laws.Cover1
namespace Go.Proofs.Ytjafagfhkpaciaa
open Go.RowKit
open Go.Maps (Keyed int_keyed string_keyed)
set_option linter.unusedVariables false

structure ObjS where
  data : ByteArray
  ver : Int
  born : Int
structure UplS where
  key : ByteArray
  born : Int
  pb : Nat
  parts : List (Int × ByteArray)
structure Sto where
  objs : List (ByteArray × ObjS)
  ups : List (Int × UplS)
  ver : Int
  id : Int
  size : Int
  now : Int
def slit (s : ByteArray) : Lit := .string s.data.toList
def ilit (i : Int) : Lit := .int .i64 i
def objC (o : ObjS) : Value := .agg #[.string o.data, .int .i64 o.ver, .int .i64 o.born]
def uplC (u : UplS) : Value := .agg #[.string u.key, .int .i64 u.born, .map (some u.pb)]
def prtC (d : ByteArray) : Value := .agg #[.string d]
def objZ : Value := .agg #[.string ByteArray.empty, .int .i64 0, .int .i64 0]
def uplZ : Value := .agg #[.string ByteArray.empty, .int .i64 0, .map none]
def prtZ : Value := .agg #[.string ByteArray.empty]
def TO : MTy := ⟨58, 9, 65, objZ, string_keyed Try.underlying9, Try.underlying58, fun w => by unfold objZ; kernel_rfl⟩
def TU : MTy := ⟨59, 3, 68, uplZ, int_keyed Try.underlying3, Try.underlying59, fun w => by unfold uplZ; kernel_rfl⟩
def TP : MTy := ⟨66, 3, 71, prtZ, int_keyed Try.underlying3, Try.underlying66, fun w => by unfold prtZ; kernel_rfl⟩
theorem keyS {s : ByteArray} (h : s.size ≤ maxLen) : keyOf Try.prog 9 (.string s) = some (slit s) := by
  have := Go.WideMaps.keyOf_string_mk (P := Try.prog) (k := 9) Try.underlying9 h
  exact this
theorem keyI {i : Int} (h : (Lit.int .i64 i).wf = true) : keyOf Try.prog 3 (.int .i64 i) = some (ilit i) := Go.Maps.keyOf_int_mk Try.underlying3 h

theorem lookO {W : World} {M : Nat} {l : List (ByteArray × ObjS)} (h : GM TO slit objC W M l) (k : ByteArray) (hk : k.size ≤ 1000000000000000) : (Instr.lookup 58 (.map (some M)) (.string k) false).run Try.prog W = .ok ((getK slit k l).elim objZ objC) W := h.look (k := k) (keyS (by unfold maxLen; omega))
theorem lookO2 {W : World} {M : Nat} {l : List (ByteArray × ObjS)} (h : GM TO slit objC W M l) (k : ByteArray) (hk : k.size ≤ 1000000000000000) : (Instr.lookup 58 (.map (some M)) (.string k) true).run Try.prog W = .ok (.tuple #[(getK slit k l).elim objZ objC, .bool (getK slit k l).isSome]) W := h.look_ok (k := k) (keyS (by unfold maxLen; omega))
theorem storeO {W : World} {M : Nat} {l : List (ByteArray × ObjS)} (h : GM TO slit objC W M l) (k : ByteArray) (hk : k.size ≤ 1000000000000000) (a : ObjS) (hn : l.length ≤ 1000000) : ∃ w', (Instr.mapUpdate 58 (.map (some M)) (.string k) (objC a)).run Try.prog W = .ok () w' ∧ GM TO slit objC w' M (putK slit k a l) ∧ W.mapTurned w' M := h.store (k := k) (keyS (by unfold maxLen; omega)) rfl (by unfold maxLen; omega)
theorem dropO {W : World} {M : Nat} {l : List (ByteArray × ObjS)} (h : GM TO slit objC W M l) (k : ByteArray) (hk : k.size ≤ 1000000000000000) (ty : TypeId) : ∃ w', (Builtin.delete_ #[58, 9] ty #[.map (some M), .string k]).run Try.prog W = .ok (.tuple #[]) w' ∧ GM TO slit objC w' M (dropK slit k l) ∧ W.mapTurned w' M := h.drop (k := k) (keyS (by unfold maxLen; omega)) ty
theorem lenO {W : World} {M : Nat} {l : List (ByteArray × ObjS)} (h : GM TO slit objC W M l) (ty : TypeId) : (Builtin.len_ #[58] ty #[.map (some M)]).run Try.prog W = .ok (.int .i64 l.length) W := h.len ty
theorem lookU {W : World} {M : Nat} {l : List (Int × UplS)} (h : GM TU ilit uplC W M l) (k : Int) (hk : (Lit.int .i64 k).wf = true) : (Instr.lookup 59 (.map (some M)) (.int .i64 k) false).run Try.prog W = .ok ((getK ilit k l).elim uplZ uplC) W := h.look (k := k) (keyI hk)
theorem lookU2 {W : World} {M : Nat} {l : List (Int × UplS)} (h : GM TU ilit uplC W M l) (k : Int) (hk : (Lit.int .i64 k).wf = true) : (Instr.lookup 59 (.map (some M)) (.int .i64 k) true).run Try.prog W = .ok (.tuple #[(getK ilit k l).elim uplZ uplC, .bool (getK ilit k l).isSome]) W := h.look_ok (k := k) (keyI hk)
theorem storeU {W : World} {M : Nat} {l : List (Int × UplS)} (h : GM TU ilit uplC W M l) (k : Int) (hk : (Lit.int .i64 k).wf = true) (a : UplS) (hn : l.length ≤ 1000000) : ∃ w', (Instr.mapUpdate 59 (.map (some M)) (.int .i64 k) (uplC a)).run Try.prog W = .ok () w' ∧ GM TU ilit uplC w' M (putK ilit k a l) ∧ W.mapTurned w' M := h.store (k := k) (keyI hk) rfl (by unfold maxLen; omega)
theorem dropU {W : World} {M : Nat} {l : List (Int × UplS)} (h : GM TU ilit uplC W M l) (k : Int) (hk : (Lit.int .i64 k).wf = true) (ty : TypeId) : ∃ w', (Builtin.delete_ #[59, 3] ty #[.map (some M), .int .i64 k]).run Try.prog W = .ok (.tuple #[]) w' ∧ GM TU ilit uplC w' M (dropK ilit k l) ∧ W.mapTurned w' M := h.drop (k := k) (keyI hk) ty
theorem lenU {W : World} {M : Nat} {l : List (Int × UplS)} (h : GM TU ilit uplC W M l) (ty : TypeId) : (Builtin.len_ #[59] ty #[.map (some M)]).run Try.prog W = .ok (.int .i64 l.length) W := h.len ty
theorem lookP {W : World} {M : Nat} {l : List (Int × ByteArray)} (h : GM TP ilit prtC W M l) (k : Int) (hk : (Lit.int .i64 k).wf = true) : (Instr.lookup 66 (.map (some M)) (.int .i64 k) false).run Try.prog W = .ok ((getK ilit k l).elim prtZ prtC) W := h.look (k := k) (keyI hk)
theorem lookP2 {W : World} {M : Nat} {l : List (Int × ByteArray)} (h : GM TP ilit prtC W M l) (k : Int) (hk : (Lit.int .i64 k).wf = true) : (Instr.lookup 66 (.map (some M)) (.int .i64 k) true).run Try.prog W = .ok (.tuple #[(getK ilit k l).elim prtZ prtC, .bool (getK ilit k l).isSome]) W := h.look_ok (k := k) (keyI hk)
theorem storeP {W : World} {M : Nat} {l : List (Int × ByteArray)} (h : GM TP ilit prtC W M l) (k : Int) (hk : (Lit.int .i64 k).wf = true) (a : ByteArray) (hn : l.length ≤ 1000000) : ∃ w', (Instr.mapUpdate 66 (.map (some M)) (.int .i64 k) (prtC a)).run Try.prog W = .ok () w' ∧ GM TP ilit prtC w' M (putK ilit k a l) ∧ W.mapTurned w' M := h.store (k := k) (keyI hk) rfl (by unfold maxLen; omega)
theorem dropP {W : World} {M : Nat} {l : List (Int × ByteArray)} (h : GM TP ilit prtC W M l) (k : Int) (hk : (Lit.int .i64 k).wf = true) (ty : TypeId) : ∃ w', (Builtin.delete_ #[66, 3] ty #[.map (some M), .int .i64 k]).run Try.prog W = .ok (.tuple #[]) w' ∧ GM TP ilit prtC w' M (dropK ilit k l) ∧ W.mapTurned w' M := h.drop (k := k) (keyI hk) ty
theorem lenP {W : World} {M : Nat} {l : List (Int × ByteArray)} (h : GM TP ilit prtC W M l) (ty : TypeId) : (Builtin.len_ #[66] ty #[.map (some M)]).run Try.prog W = .ok (.int .i64 l.length) W := h.len ty
theorem GM.drew {κ α : Type} {T : MTy} {lit : κ → Lit} {f : α → Value} {w : World} {M : Nat} {l : List (κ × α)} (h : GM T lit f w M l) : GM T lit f w.drew M l := h.same rfl

/-- the store where it lies -/
def stC (Mo Mu : Nat) (σ : Sto) : Array Value := #[.map (some Mo), .map (some Mu), .int .i64 σ.ver, .int .i64 σ.id, .int .i64 σ.size, .int .i64 σ.now]
structure StAt (w : World) (s Mo Mu : Nat) (σ : Sto) : Prop where
  blk : w.heap[s]? = some (.cells (stC Mo Mu σ) 61 (0, 0))
  obj : GM TO slit objC w Mo σ.objs
  upl : GM TU ilit uplC w Mu σ.ups
  prt : ∀ p ∈ σ.ups, GM TP ilit prtC w p.2.pb p.2.parts
  neM : Mo ≠ Mu
  neP : ∀ p ∈ σ.ups, p.2.pb ≠ Mo ∧ p.2.pb ≠ Mu
  apart : ∀ p ∈ σ.ups, ∀ q ∈ σ.ups, p.2.pb = q.2.pb → p.1 = q.1
/-- the blocks of a store -/
def StF (s Mo Mu : Nat) (σ : Sto) (b : Nat) : Prop := b = s ∨ b = Mo ∨ b = Mu ∨ ∃ p ∈ σ.ups, b = p.2.pb
/-- nothing that was there is turned but these blocks -/
structure Frm (F : Nat → Prop) (w w' : World) : Prop where
  os : w'.os = w.os
  tape : w'.tape = w.tape
  output : w'.output = w.output
  size : w.heap.size ≤ w'.heap.size
  block : ∀ k, k < w.heap.size → ¬ F k → w'.heap[k]? = w.heap[k]?
theorem Frm.refl (F : Nat → Prop) (w : World) : Frm F w w := ⟨rfl, rfl, rfl, Nat.le_refl _, fun _ _ _ => rfl⟩
theorem Frm.below {F : Nat → Prop} {a b c : World} (h : Frm F a b) (k : Below b.heap.size b c) : Frm F a c :=
  ⟨k.os.trans h.os, k.tape.trans h.tape, k.output.trans h.output, Nat.le_trans h.size k.size, fun i hi hp => (k.block i (Nat.lt_of_lt_of_le hi h.size)).trans (h.block i hi hp)⟩
theorem Frm.trans {F F' : Nat → Prop} {a b c : World} (h : Frm F a b) (k : Frm F' b c) (hF : ∀ i, F' i → F i ∨ a.heap.size ≤ i) : Frm F a c :=
  ⟨k.os.trans h.os, k.tape.trans h.tape, k.output.trans h.output, Nat.le_trans h.size k.size, fun i hi hp => (k.block i (Nat.lt_of_lt_of_le hi h.size) (fun hf => by
    rcases hF i hf with g | g
    · exact hp g
    · omega)).trans (h.block i hi hp)⟩
theorem Frm.ofBelow {F : Nat → Prop} {a b : World} (k : Below a.heap.size a b) : Frm F a b := (Frm.refl F a).below k
theorem Frm.set {F : Nat → Prop} {a b : World} (h : Frm F a b) {p : Nat} (hp : F p ∨ a.heap.size ≤ p) (j : Nat) (u : Value) : Frm F a (b.setCell ⟨p, j, none⟩ u) :=
  ⟨h.os, h.tape, h.output, by simpa [World.setCell] using h.size, fun i hi hf => (Below.heap_setCell b ⟨p, j, none⟩ u i (fun e => by
    rcases hp with g | g
    · subst e; exact hf g
    · rw [e] at hi; simp only at hi; omega)).trans (h.block i hi hf)⟩
theorem Frm.turned {F : Nat → Prop} {a b c : World} (h : Frm F a b) {p : Nat} (hp : F p ∨ a.heap.size ≤ p) (k : b.mapTurned c p) : Frm F a c := by
  have g := k.grown
  exact ⟨g.os.trans h.os, g.tape.trans h.tape, g.output.trans h.output, Nat.le_trans h.size g.size, fun i hi hf => (g.block i (Nat.lt_of_lt_of_le hi h.size) (fun e => by
    simp at e; subst e
    rcases hp with g | g
    · exact hf g
    · omega)).trans (h.block i hi hf)⟩
theorem Frm.toBelow {F : Nat → Prop} {a b : World} {B : Nat} (h : Frm F a b) (hB : B ≤ a.heap.size) (hF : ∀ i, F i → B ≤ i) : Below B a b :=
  ⟨h.os, h.tape, h.output, h.size, fun i hi => h.block i (by omega) (fun hf => by have := hF i hf; omega)⟩
theorem Frm.imp {F G : Nat → Prop} {a b : World} (h : Frm F a b) (hi : ∀ i, F i → G i) : Frm G a b := ⟨h.os, h.tape, h.output, h.size, fun k hk hg => h.block k hk fun hf => hg (hi k hf)⟩
theorem Frm.drew {F : Nat → Prop} {a b : World} (h : Frm F a b) : Frm F a b.drew := ⟨h.os, h.tape, h.output, h.size, h.block⟩
theorem Frm.at {F : Nat → Prop} {a b : World} (h : Frm F a b) {k : Nat} {o : Obj} (hk : a.heap[k]? = some o) (hf : ¬ F k) : b.heap[k]? = some o := (h.block k (Array.getElem?_eq_some_iff.1 hk).1 hf).trans hk
theorem StAt.lts {w : World} {s Mo Mu : Nat} {σ : Sto} (h : StAt w s Mo Mu σ) : s < w.heap.size := (Array.getElem?_eq_some_iff.1 h.blk).1
theorem gm_obj {κ α : Type} {T : MTy} {lit : κ → Lit} {f : α → Value} {w : World} {M : Nat} {l : List (κ × α)} (h : GM T lit f w M l) : ∃ es c, w.heap[M]? = some (.map es c) := by
  obtain ⟨es, c, hb, _⟩ := h
  exact ⟨es, c, hb⟩
theorem StAt.neS {w : World} {s Mo Mu : Nat} {σ : Sto} (h : StAt w s Mo Mu σ) : s ≠ Mo ∧ s ≠ Mu ∧ ∀ p ∈ σ.ups, s ≠ p.2.pb := by
  refine ⟨fun e => ?_, fun e => ?_, fun p hp e => ?_⟩
  · obtain ⟨es, c, hb⟩ := gm_obj h.obj
    rw [← e, h.blk] at hb; cases hb
  · obtain ⟨es, c, hb⟩ := gm_obj h.upl
    rw [← e, h.blk] at hb; cases hb
  · obtain ⟨es, c, hb⟩ := gm_obj (h.prt p hp)
    rw [← e, h.blk] at hb; cases hb
theorem StAt.lt {w : World} {s Mo Mu : Nat} {σ : Sto} (h : StAt w s Mo Mu σ) {b : Nat} (hb : StF s Mo Mu σ b) : b < w.heap.size := by
  rcases hb with rfl | rfl | rfl | ⟨p, hp, rfl⟩
  · exact h.lts
  · exact h.obj.lt
  · exact h.upl.lt
  · exact (h.prt p hp).lt
/-- the store stays where its blocks stay -/
theorem StAt.same {w w' : World} {s Mo Mu : Nat} {σ : Sto} (h : StAt w s Mo Mu σ) (e : ∀ b, StF s Mo Mu σ b → w'.heap[b]? = w.heap[b]?) : StAt w' s Mo Mu σ :=
  ⟨(e s (.inl rfl)).trans h.blk, h.obj.same (e Mo (.inr (.inl rfl))), h.upl.same (e Mu (.inr (.inr (.inl rfl)))), fun p hp => (h.prt p hp).same (e _ (.inr (.inr (.inr ⟨p, hp, rfl⟩)))), h.neM, h.neP, h.apart⟩
theorem StAt.below {w w' : World} {s Mo Mu : Nat} {σ : Sto} (h : StAt w s Mo Mu σ) (hb : Below w.heap.size w w') : StAt w' s Mo Mu σ := h.same fun b hF => hb.block b (h.lt hF)

/-- the objects alone turned -/
theorem StAt.obj' {w w' : World} {s Mo Mu : Nat} {σ σ' : Sto} (h : StAt w s Mo Mu σ) (hF : Frm (fun b => b = s ∨ b = Mo) w w') (hb : w'.heap[s]? = some (.cells (stC Mo Mu σ') 61 (0, 0))) (ho : GM TO slit objC w' Mo σ'.objs) (hu : σ'.ups = σ.ups) : StAt w' s Mo Mu σ' := by
  have hn := h.neS
  refine ⟨hb, ho, ?_, ?_, h.neM, ?_, ?_⟩
  · rw [hu]
    exact h.upl.same (hF.block Mu h.upl.lt (fun e => e.elim (fun g => hn.2.1 g.symm) (fun g => h.neM g.symm)))
  · rw [hu]
    intro p hp
    exact (h.prt p hp).same (hF.block _ (h.prt p hp).lt (fun e => e.elim (fun g => hn.2.2 p hp g.symm) (fun g => (h.neP p hp).1 g)))
  · rw [hu]; exact h.neP
  · rw [hu]; exact h.apart
/-- the store's own numbers alone turned -/
theorem StAt.num' {w w' : World} {s Mo Mu : Nat} {σ σ' : Sto} (h : StAt w s Mo Mu σ) (hF : Frm (fun b => b = s) w w') (hb : w'.heap[s]? = some (.cells (stC Mo Mu σ') 61 (0, 0))) (ho : σ'.objs = σ.objs) (hu : σ'.ups = σ.ups) : StAt w' s Mo Mu σ' :=
  h.obj' (hF.imp fun i e => .inl e) hb (by rw [ho]; exact h.obj.same (hF.block Mo h.obj.lt (fun e => h.neS.1 e.symm))) hu
/-- the uploads alone turned: those that are there were there -/
theorem StAt.ups' {w w' : World} {s Mo Mu : Nat} {σ σ' : Sto} (h : StAt w s Mo Mu σ) (hF : Frm (fun b => b = s ∨ b = Mu) w w') (hb : w'.heap[s]? = some (.cells (stC Mo Mu σ') 61 (0, 0))) (hu : GM TU ilit uplC w' Mu σ'.ups) (ho : σ'.objs = σ.objs) (hs : ∀ p ∈ σ'.ups, p ∈ σ.ups) : StAt w' s Mo Mu σ' := by
  have hn := h.neS
  refine ⟨hb, ?_, hu, fun p hp => ?_, h.neM, fun p hp => h.neP p (hs p hp), fun p hp q hq => h.apart p (hs p hp) q (hs q hq)⟩
  · rw [ho]
    exact h.obj.same (hF.block Mo h.obj.lt (fun e => e.elim (fun g => hn.1 g.symm) (fun g => h.neM g)))
  · exact (h.prt p (hs p hp)).same (hF.block _ (h.prt p (hs p hp)).lt (fun e => e.elim (fun g => hn.2.2 p (hs p hp) g.symm) (fun g => (h.neP p (hs p hp)).2 g)))
theorem fldO (d : ByteArray) (v b : Int) (w : World) : (Instr.field 65 (.agg #[.string d, .int .i64 v, .int .i64 b]) 0).run Try.prog w = .ok (.string d) w := by kernel_rfl
theorem fldP (d : ByteArray) (w : World) : (Instr.field 71 (.agg #[.string d]) 0).run Try.prog w = .ok (.string d) w := by kernel_rfl
/-- a reply -/
def rep (e : Int) (d : Value) (v b i : Int) (l : Value) (m : Bool) : Value := .agg #[.int .i64 e, d, .int .i64 v, .int .i64 b, .int .i64 i, l, .bool m]
def rep0 (e : Int) : Value := .agg #[.int .i64 e, .slice none 0 0, .int .i64 0, .int .i64 0, .int .i64 0, .slice none 0 0, .bool false]
theorem cell_blk2 {w : World} {b : Nat} {cs : Array Value} {t : TypeId} (g : w.heap[b]? = some (.cells cs t (0, 0))) {i : Nat} {u : Value} (h : cs[i]? = some u) : w.cell? ⟨b, i, none⟩ = some u := by
  rw [cell_of_row w b i _ _ (0, 0) g]; exact h
theorem fro_blk2 {w : World} {b : Nat} {cs : Array Value} {t : TypeId} (g : w.heap[b]? = some (.cells cs t (0, 0))) (i : Nat) : w.frozen? ⟨b, i, none⟩ = false := by
  unfold World.frozen?
  simp [g]
theorem heap_new (w : World) (o : Obj) : (w.alloc o).heap[w.heap.size]? = some o := (MapKept.heap_alloc w o).1
theorem failed_any (x : Int) (w : World) :
    Calls Try.prog 22 #[.int .i64 x] w fun e w' => e = .returned (rep0 x) ∧ Below w.heap.size w w' := by
  have q := fun j u (h : (#[.int .i64 x, .slice none 0 0, .int .i64 0, .int .i64 0, .int .i64 0, .slice none 0 0, .bool false] : Array Value)[j]? = some u) => cell_blk2 (heap_new w (.cells #[.int .i64 x, .slice none 0 0, .int .i64 0, .int .i64 0, .int .i64 0, .slice none 0 0, .bool false] 35)) h
  have q0 := q 0 _ rfl
  have q1 := q 1 _ rfl
  have q2 := q 2 _ rfl
  have q3 := q 3 _ rfl
  have q4 := q 4 _ rfl
  have q5 := q 5 _ rfl
  have q6 := q 6 _ rfl
  have HB := Lib.hid (show Below w.heap.size w (w.alloc (.cells #[.int .i64 x, .slice none 0 0, .int .i64 0, .int .i64 0, .int .i64 0, .slice none 0 0, .bool false] 35)) from (Below.refl _ _).alloc (Nat.le_refl _) _)
  clear q
  go_enter Try.func22, Try.ntmps22
  go_wp2_with fail
  exact bodyPost_ret (v := rep0 x) (by simp [rep0, results, Try.results22, go_sem, q0, q1, q2, q3, q4, q5, q6]) rfl ⟨rfl, HB.out⟩
theorem new_any (w : World) :
    Calls Try.prog 9 #[] w fun e w' => e = .returned (.pointer (some ⟨w.heap.size, 0, none⟩)) ∧ w' = w.alloc (.cells #[.map none, .map none, .int .i64 0, .int .i64 0, .int .i64 0, .int .i64 0] 61) := by
  go_enter Try.func9, Try.ntmps9
  go_wp2_with fail
  go_ret
  exact ⟨rfl, rfl⟩
theorem holds_any {w : World} {s : Nat} {z m : Int} (h : w.cell? ⟨s, 4, none⟩ = some (.int .i64 z)) (hz : 0 ≤ z ∧ z ≤ 4194304) (hm : -4194304 ≤ m ∧ m ≤ 4194304) :
    Calls Try.prog 41 #[.pointer (some ⟨s, 0, none⟩), .int .i64 m] w fun e w' => e = .returned (.bool (decide (z + m ≤ 4194304))) ∧ w = w' := by
  have w1 : IntKind.i64.wrap (z + m) = z + m := IntWalk.i64_in _ (by omega)
  go_enter Try.func41, Try.ntmps41
  go_wp2_with fail
  go_ret
  exact ⟨rfl, rfl⟩
/-- a key -/
def okB (b : UInt8) : Bool := decide (33 ≤ b.toNat) && decide (b.toNat ≤ 126)
def isKeyB (s : ByteArray) : Bool := decide (1 ≤ s.size) && decide (s.size ≤ 40) && s.data.toList.all okB
end Go.Proofs.Ytjafagfhkpaciaa
