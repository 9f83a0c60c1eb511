/- Texts put together by packtpl2.py: StoPl, SdQ, StoRep, SdPut, StoKey, SdK, SdB, SdU, SdW. -/
import Derived.Test.YtodoklnohedolaaPkUC1
import Derived.Test.YtodoklnohedolaaPkUC2
import Derived.Deep.RegionHeld3
import Derived.BigRegion
import Derived.Laws.RangeAny
import Derived.Laws.Cover1
import Derived.Laws.ResultCell
section PkUC3_0
/- The program's store, plainly; its state in memory; its small functions walked. -/
namespace Go.Proofs.Ytodoklnohedolaa
open Go.RowKit
open Go.Maps (Keyed int_keyed string_keyed)
set_option linter.unusedVariables false

structure ObjS where
  data : ByteArray
  ver : Int
  born : Int
structure UplS where
  key : ByteArray
  born : Int
  pb : Nat
  parts : List (Int × ByteArray)
structure Sto where
  objs : List (ByteArray × ObjS)
  ups : List (Int × UplS)
  ver : Int
  id : Int
  size : Int
  now : Int
def slit (s : ByteArray) : Lit := .string s.data.toList
def ilit (i : Int) : Lit := .int .i64 i
def objC (o : ObjS) : Value := .agg #[.string o.data, .int .i64 o.ver, .int .i64 o.born]
def uplC (u : UplS) : Value := .agg #[.string u.key, .int .i64 u.born, .map (some u.pb)]
def prtC (d : ByteArray) : Value := .agg #[.string d]
def objZ : Value := .agg #[.string ByteArray.empty, .int .i64 0, .int .i64 0]
def uplZ : Value := .agg #[.string ByteArray.empty, .int .i64 0, .map none]
def prtZ : Value := .agg #[.string ByteArray.empty]
def TO : MTy := ⟨63, 9, 92, objZ, string_keyed Try.underlying9, Try.underlying63, fun w => by unfold objZ; kernel_rfl⟩
def TU : MTy := ⟨64, 3, 99, uplZ, int_keyed Try.underlying3, Try.underlying64, fun w => by unfold uplZ; kernel_rfl⟩
def TP : MTy := ⟨97, 3, 102, prtZ, int_keyed Try.underlying3, Try.underlying97, fun w => by unfold prtZ; kernel_rfl⟩
theorem keyS {s : ByteArray} (h : s.size ≤ maxLen) : keyOf Try.prog 9 (.string s) = some (slit s) := by
  have := Go.WideMaps.keyOf_string_mk (P := Try.prog) (k := 9) Try.underlying9 h
  exact this
theorem keyI {i : Int} (h : (Lit.int .i64 i).wf = true) : keyOf Try.prog 3 (.int .i64 i) = some (ilit i) := Go.Maps.keyOf_int_mk Try.underlying3 h

theorem lookO {W : World} {M : Nat} {l : List (ByteArray × ObjS)} (h : GM TO slit objC W M l) (k : ByteArray) (hk : k.size ≤ 1000000000000000) : (Instr.lookup 63 (.map (some M)) (.string k) false).run Try.prog W = .ok ((getK slit k l).elim objZ objC) W := h.look (k := k) (keyS (by unfold maxLen; omega))
theorem lookO2 {W : World} {M : Nat} {l : List (ByteArray × ObjS)} (h : GM TO slit objC W M l) (k : ByteArray) (hk : k.size ≤ 1000000000000000) : (Instr.lookup 63 (.map (some M)) (.string k) true).run Try.prog W = .ok (.tuple #[(getK slit k l).elim objZ objC, .bool (getK slit k l).isSome]) W := h.look_ok (k := k) (keyS (by unfold maxLen; omega))
theorem storeO {W : World} {M : Nat} {l : List (ByteArray × ObjS)} (h : GM TO slit objC W M l) (k : ByteArray) (hk : k.size ≤ 1000000000000000) (a : ObjS) (hn : l.length ≤ 1000000) : ∃ w', (Instr.mapUpdate 63 (.map (some M)) (.string k) (objC a)).run Try.prog W = .ok () w' ∧ GM TO slit objC w' M (putK slit k a l) ∧ W.mapTurned w' M := h.store (k := k) (keyS (by unfold maxLen; omega)) rfl (by unfold maxLen; omega)
theorem dropO {W : World} {M : Nat} {l : List (ByteArray × ObjS)} (h : GM TO slit objC W M l) (k : ByteArray) (hk : k.size ≤ 1000000000000000) (ty : TypeId) : ∃ w', (Builtin.delete_ #[63, 9] ty #[.map (some M), .string k]).run Try.prog W = .ok (.tuple #[]) w' ∧ GM TO slit objC w' M (dropK slit k l) ∧ W.mapTurned w' M := h.drop (k := k) (keyS (by unfold maxLen; omega)) ty
theorem lenO {W : World} {M : Nat} {l : List (ByteArray × ObjS)} (h : GM TO slit objC W M l) (ty : TypeId) : (Builtin.len_ #[63] ty #[.map (some M)]).run Try.prog W = .ok (.int .i64 l.length) W := h.len ty
theorem lookU {W : World} {M : Nat} {l : List (Int × UplS)} (h : GM TU ilit uplC W M l) (k : Int) (hk : (Lit.int .i64 k).wf = true) : (Instr.lookup 64 (.map (some M)) (.int .i64 k) false).run Try.prog W = .ok ((getK ilit k l).elim uplZ uplC) W := h.look (k := k) (keyI hk)
theorem lookU2 {W : World} {M : Nat} {l : List (Int × UplS)} (h : GM TU ilit uplC W M l) (k : Int) (hk : (Lit.int .i64 k).wf = true) : (Instr.lookup 64 (.map (some M)) (.int .i64 k) true).run Try.prog W = .ok (.tuple #[(getK ilit k l).elim uplZ uplC, .bool (getK ilit k l).isSome]) W := h.look_ok (k := k) (keyI hk)
theorem storeU {W : World} {M : Nat} {l : List (Int × UplS)} (h : GM TU ilit uplC W M l) (k : Int) (hk : (Lit.int .i64 k).wf = true) (a : UplS) (hn : l.length ≤ 1000000) : ∃ w', (Instr.mapUpdate 64 (.map (some M)) (.int .i64 k) (uplC a)).run Try.prog W = .ok () w' ∧ GM TU ilit uplC w' M (putK ilit k a l) ∧ W.mapTurned w' M := h.store (k := k) (keyI hk) rfl (by unfold maxLen; omega)
theorem dropU {W : World} {M : Nat} {l : List (Int × UplS)} (h : GM TU ilit uplC W M l) (k : Int) (hk : (Lit.int .i64 k).wf = true) (ty : TypeId) : ∃ w', (Builtin.delete_ #[64, 3] ty #[.map (some M), .int .i64 k]).run Try.prog W = .ok (.tuple #[]) w' ∧ GM TU ilit uplC w' M (dropK ilit k l) ∧ W.mapTurned w' M := h.drop (k := k) (keyI hk) ty
theorem lenU {W : World} {M : Nat} {l : List (Int × UplS)} (h : GM TU ilit uplC W M l) (ty : TypeId) : (Builtin.len_ #[64] ty #[.map (some M)]).run Try.prog W = .ok (.int .i64 l.length) W := h.len ty
theorem lookP {W : World} {M : Nat} {l : List (Int × ByteArray)} (h : GM TP ilit prtC W M l) (k : Int) (hk : (Lit.int .i64 k).wf = true) : (Instr.lookup 97 (.map (some M)) (.int .i64 k) false).run Try.prog W = .ok ((getK ilit k l).elim prtZ prtC) W := h.look (k := k) (keyI hk)
theorem lookP2 {W : World} {M : Nat} {l : List (Int × ByteArray)} (h : GM TP ilit prtC W M l) (k : Int) (hk : (Lit.int .i64 k).wf = true) : (Instr.lookup 97 (.map (some M)) (.int .i64 k) true).run Try.prog W = .ok (.tuple #[(getK ilit k l).elim prtZ prtC, .bool (getK ilit k l).isSome]) W := h.look_ok (k := k) (keyI hk)
theorem storeP {W : World} {M : Nat} {l : List (Int × ByteArray)} (h : GM TP ilit prtC W M l) (k : Int) (hk : (Lit.int .i64 k).wf = true) (a : ByteArray) (hn : l.length ≤ 1000000) : ∃ w', (Instr.mapUpdate 97 (.map (some M)) (.int .i64 k) (prtC a)).run Try.prog W = .ok () w' ∧ GM TP ilit prtC w' M (putK ilit k a l) ∧ W.mapTurned w' M := h.store (k := k) (keyI hk) rfl (by unfold maxLen; omega)
theorem dropP {W : World} {M : Nat} {l : List (Int × ByteArray)} (h : GM TP ilit prtC W M l) (k : Int) (hk : (Lit.int .i64 k).wf = true) (ty : TypeId) : ∃ w', (Builtin.delete_ #[97, 3] ty #[.map (some M), .int .i64 k]).run Try.prog W = .ok (.tuple #[]) w' ∧ GM TP ilit prtC w' M (dropK ilit k l) ∧ W.mapTurned w' M := h.drop (k := k) (keyI hk) ty
theorem lenP {W : World} {M : Nat} {l : List (Int × ByteArray)} (h : GM TP ilit prtC W M l) (ty : TypeId) : (Builtin.len_ #[97] ty #[.map (some M)]).run Try.prog W = .ok (.int .i64 l.length) W := h.len ty
theorem GM.drew {κ α : Type} {T : MTy} {lit : κ → Lit} {f : α → Value} {w : World} {M : Nat} {l : List (κ × α)} (h : GM T lit f w M l) : GM T lit f w.drew M l := h.same rfl

/-- the store where it lies -/
def stC (Mo Mu : Nat) (σ : Sto) : Array Value := #[.map (some Mo), .map (some Mu), .int .i64 σ.ver, .int .i64 σ.id, .int .i64 σ.size, .int .i64 σ.now]
structure StAt (w : World) (s Mo Mu : Nat) (σ : Sto) : Prop where
  blk : w.heap[s]? = some (.cells (stC Mo Mu σ) 66 (0, 0))
  obj : GM TO slit objC w Mo σ.objs
  upl : GM TU ilit uplC w Mu σ.ups
  prt : ∀ p ∈ σ.ups, GM TP ilit prtC w p.2.pb p.2.parts
  neM : Mo ≠ Mu
  neP : ∀ p ∈ σ.ups, p.2.pb ≠ Mo ∧ p.2.pb ≠ Mu
  apart : ∀ p ∈ σ.ups, ∀ q ∈ σ.ups, p.2.pb = q.2.pb → p.1 = q.1
/-- the blocks of a store -/
def StF (s Mo Mu : Nat) (σ : Sto) (b : Nat) : Prop := b = s ∨ b = Mo ∨ b = Mu ∨ ∃ p ∈ σ.ups, b = p.2.pb
/-- nothing that was there is turned but these blocks -/
structure Frm (F : Nat → Prop) (w w' : World) : Prop where
  os : w'.os = w.os
  tape : w'.tape = w.tape
  output : w'.output = w.output
  size : w.heap.size ≤ w'.heap.size
  block : ∀ k, k < w.heap.size → ¬ F k → w'.heap[k]? = w.heap[k]?
theorem Frm.refl (F : Nat → Prop) (w : World) : Frm F w w := ⟨rfl, rfl, rfl, Nat.le_refl _, fun _ _ _ => rfl⟩
theorem Frm.below {F : Nat → Prop} {a b c : World} (h : Frm F a b) (k : Below b.heap.size b c) : Frm F a c :=
  ⟨k.os.trans h.os, k.tape.trans h.tape, k.output.trans h.output, Nat.le_trans h.size k.size, fun i hi hp => (k.block i (Nat.lt_of_lt_of_le hi h.size)).trans (h.block i hi hp)⟩
theorem Frm.trans {F F' : Nat → Prop} {a b c : World} (h : Frm F a b) (k : Frm F' b c) (hF : ∀ i, F' i → F i ∨ a.heap.size ≤ i) : Frm F a c :=
  ⟨k.os.trans h.os, k.tape.trans h.tape, k.output.trans h.output, Nat.le_trans h.size k.size, fun i hi hp => (k.block i (Nat.lt_of_lt_of_le hi h.size) (fun hf => by
    rcases hF i hf with g | g
    · exact hp g
    · omega)).trans (h.block i hi hp)⟩
theorem Frm.ofBelow {F : Nat → Prop} {a b : World} (k : Below a.heap.size a b) : Frm F a b := (Frm.refl F a).below k
theorem Frm.set {F : Nat → Prop} {a b : World} (h : Frm F a b) {p : Nat} (hp : F p ∨ a.heap.size ≤ p) (j : Nat) (u : Value) : Frm F a (b.setCell ⟨p, j, none⟩ u) :=
  ⟨h.os, h.tape, h.output, by simpa [World.setCell] using h.size, fun i hi hf => (Below.heap_setCell b ⟨p, j, none⟩ u i (fun e => by
    rcases hp with g | g
    · subst e; exact hf g
    · rw [e] at hi; simp only at hi; omega)).trans (h.block i hi hf)⟩
theorem Frm.turned {F : Nat → Prop} {a b c : World} (h : Frm F a b) {p : Nat} (hp : F p ∨ a.heap.size ≤ p) (k : b.mapTurned c p) : Frm F a c := by
  have g := k.grown
  exact ⟨g.os.trans h.os, g.tape.trans h.tape, g.output.trans h.output, Nat.le_trans h.size g.size, fun i hi hf => (g.block i (Nat.lt_of_lt_of_le hi h.size) (fun e => by
    simp at e; subst e
    rcases hp with g | g
    · exact hf g
    · omega)).trans (h.block i hi hf)⟩
theorem Frm.toBelow {F : Nat → Prop} {a b : World} {B : Nat} (h : Frm F a b) (hB : B ≤ a.heap.size) (hF : ∀ i, F i → B ≤ i) : Below B a b :=
  ⟨h.os, h.tape, h.output, h.size, fun i hi => h.block i (by omega) (fun hf => by have := hF i hf; omega)⟩
theorem Frm.imp {F G : Nat → Prop} {a b : World} (h : Frm F a b) (hi : ∀ i, F i → G i) : Frm G a b := ⟨h.os, h.tape, h.output, h.size, fun k hk hg => h.block k hk fun hf => hg (hi k hf)⟩
theorem Frm.drew {F : Nat → Prop} {a b : World} (h : Frm F a b) : Frm F a b.drew := ⟨h.os, h.tape, h.output, h.size, h.block⟩
theorem Frm.at {F : Nat → Prop} {a b : World} (h : Frm F a b) {k : Nat} {o : Obj} (hk : a.heap[k]? = some o) (hf : ¬ F k) : b.heap[k]? = some o := (h.block k (Array.getElem?_eq_some_iff.1 hk).1 hf).trans hk
theorem StAt.lts {w : World} {s Mo Mu : Nat} {σ : Sto} (h : StAt w s Mo Mu σ) : s < w.heap.size := (Array.getElem?_eq_some_iff.1 h.blk).1
theorem gm_obj {κ α : Type} {T : MTy} {lit : κ → Lit} {f : α → Value} {w : World} {M : Nat} {l : List (κ × α)} (h : GM T lit f w M l) : ∃ es c, w.heap[M]? = some (.map es c) := by
  obtain ⟨es, c, hb, _⟩ := h
  exact ⟨es, c, hb⟩
theorem StAt.neS {w : World} {s Mo Mu : Nat} {σ : Sto} (h : StAt w s Mo Mu σ) : s ≠ Mo ∧ s ≠ Mu ∧ ∀ p ∈ σ.ups, s ≠ p.2.pb := by
  refine ⟨fun e => ?_, fun e => ?_, fun p hp e => ?_⟩
  · obtain ⟨es, c, hb⟩ := gm_obj h.obj
    rw [← e, h.blk] at hb; cases hb
  · obtain ⟨es, c, hb⟩ := gm_obj h.upl
    rw [← e, h.blk] at hb; cases hb
  · obtain ⟨es, c, hb⟩ := gm_obj (h.prt p hp)
    rw [← e, h.blk] at hb; cases hb
theorem StAt.lt {w : World} {s Mo Mu : Nat} {σ : Sto} (h : StAt w s Mo Mu σ) {b : Nat} (hb : StF s Mo Mu σ b) : b < w.heap.size := by
  rcases hb with rfl | rfl | rfl | ⟨p, hp, rfl⟩
  · exact h.lts
  · exact h.obj.lt
  · exact h.upl.lt
  · exact (h.prt p hp).lt
/-- the store stays where its blocks stay -/
theorem StAt.same {w w' : World} {s Mo Mu : Nat} {σ : Sto} (h : StAt w s Mo Mu σ) (e : ∀ b, StF s Mo Mu σ b → w'.heap[b]? = w.heap[b]?) : StAt w' s Mo Mu σ :=
  ⟨(e s (.inl rfl)).trans h.blk, h.obj.same (e Mo (.inr (.inl rfl))), h.upl.same (e Mu (.inr (.inr (.inl rfl)))), fun p hp => (h.prt p hp).same (e _ (.inr (.inr (.inr ⟨p, hp, rfl⟩)))), h.neM, h.neP, h.apart⟩
theorem StAt.below {w w' : World} {s Mo Mu : Nat} {σ : Sto} (h : StAt w s Mo Mu σ) (hb : Below w.heap.size w w') : StAt w' s Mo Mu σ := h.same fun b hF => hb.block b (h.lt hF)

/-- the objects alone turned -/
theorem StAt.obj' {w w' : World} {s Mo Mu : Nat} {σ σ' : Sto} (h : StAt w s Mo Mu σ) (hF : Frm (fun b => b = s ∨ b = Mo) w w') (hb : w'.heap[s]? = some (.cells (stC Mo Mu σ') 66 (0, 0))) (ho : GM TO slit objC w' Mo σ'.objs) (hu : σ'.ups = σ.ups) : StAt w' s Mo Mu σ' := by
  have hn := h.neS
  refine ⟨hb, ho, ?_, ?_, h.neM, ?_, ?_⟩
  · rw [hu]
    exact h.upl.same (hF.block Mu h.upl.lt (fun e => e.elim (fun g => hn.2.1 g.symm) (fun g => h.neM g.symm)))
  · rw [hu]
    intro p hp
    exact (h.prt p hp).same (hF.block _ (h.prt p hp).lt (fun e => e.elim (fun g => hn.2.2 p hp g.symm) (fun g => (h.neP p hp).1 g)))
  · rw [hu]; exact h.neP
  · rw [hu]; exact h.apart
/-- the store's own numbers alone turned -/
theorem StAt.num' {w w' : World} {s Mo Mu : Nat} {σ σ' : Sto} (h : StAt w s Mo Mu σ) (hF : Frm (fun b => b = s) w w') (hb : w'.heap[s]? = some (.cells (stC Mo Mu σ') 66 (0, 0))) (ho : σ'.objs = σ.objs) (hu : σ'.ups = σ.ups) : StAt w' s Mo Mu σ' :=
  h.obj' (hF.imp fun i e => .inl e) hb (by rw [ho]; exact h.obj.same (hF.block Mo h.obj.lt (fun e => h.neS.1 e.symm))) hu
/-- the uploads alone turned: those that are there were there -/
theorem StAt.ups' {w w' : World} {s Mo Mu : Nat} {σ σ' : Sto} (h : StAt w s Mo Mu σ) (hF : Frm (fun b => b = s ∨ b = Mu) w w') (hb : w'.heap[s]? = some (.cells (stC Mo Mu σ') 66 (0, 0))) (hu : GM TU ilit uplC w' Mu σ'.ups) (ho : σ'.objs = σ.objs) (hs : ∀ p ∈ σ'.ups, p ∈ σ.ups) : StAt w' s Mo Mu σ' := by
  have hn := h.neS
  refine ⟨hb, ?_, hu, fun p hp => ?_, h.neM, fun p hp => h.neP p (hs p hp), fun p hp q hq => h.apart p (hs p hp) q (hs q hq)⟩
  · rw [ho]
    exact h.obj.same (hF.block Mo h.obj.lt (fun e => e.elim (fun g => hn.1 g.symm) (fun g => h.neM g)))
  · exact (h.prt p (hs p hp)).same (hF.block _ (h.prt p (hs p hp)).lt (fun e => e.elim (fun g => hn.2.2 p (hs p hp) g.symm) (fun g => (h.neP p (hs p hp)).2 g)))
theorem fldO (d : ByteArray) (v b : Int) (w : World) : (Instr.field 92 (.agg #[.string d, .int .i64 v, .int .i64 b]) 0).run Try.prog w = .ok (.string d) w := by kernel_rfl
theorem fldP (d : ByteArray) (w : World) : (Instr.field 102 (.agg #[.string d]) 0).run Try.prog w = .ok (.string d) w := by kernel_rfl
/-- a reply -/
def rep (e : Int) (d : Value) (v b i : Int) (l : Value) (m : Bool) : Value := .agg #[.int .i64 e, d, .int .i64 v, .int .i64 b, .int .i64 i, l, .bool m]
def rep0 (e : Int) : Value := .agg #[.int .i64 e, .slice none 0 0, .int .i64 0, .int .i64 0, .int .i64 0, .slice none 0 0, .bool false]
theorem cell_blk2 {w : World} {b : Nat} {cs : Array Value} {t : TypeId} (g : w.heap[b]? = some (.cells cs t (0, 0))) {i : Nat} {u : Value} (h : cs[i]? = some u) : w.cell? ⟨b, i, none⟩ = some u := by
  rw [cell_of_row w b i _ _ (0, 0) g]; exact h
theorem fro_blk2 {w : World} {b : Nat} {cs : Array Value} {t : TypeId} (g : w.heap[b]? = some (.cells cs t (0, 0))) (i : Nat) : w.frozen? ⟨b, i, none⟩ = false := by
  unfold World.frozen?
  simp [g]
theorem heap_new (w : World) (o : Obj) : (w.alloc o).heap[w.heap.size]? = some o := (MapKept.heap_alloc w o).1
theorem failed_any (x : Int) (w : World) :
    Calls Try.prog 24 #[.int .i64 x] w fun e w' => e = .returned (rep0 x) ∧ Below w.heap.size w w' := by
  have q := fun j u (h : (#[.int .i64 x, .slice none 0 0, .int .i64 0, .int .i64 0, .int .i64 0, .slice none 0 0, .bool false] : Array Value)[j]? = some u) => cell_blk2 (heap_new w (.cells #[.int .i64 x, .slice none 0 0, .int .i64 0, .int .i64 0, .int .i64 0, .slice none 0 0, .bool false] 36)) h
  have q0 := q 0 _ rfl
  have q1 := q 1 _ rfl
  have q2 := q 2 _ rfl
  have q3 := q 3 _ rfl
  have q4 := q 4 _ rfl
  have q5 := q 5 _ rfl
  have q6 := q 6 _ rfl
  have HB := Lib.hid (show Below w.heap.size w (w.alloc (.cells #[.int .i64 x, .slice none 0 0, .int .i64 0, .int .i64 0, .int .i64 0, .slice none 0 0, .bool false] 36)) from (Below.refl _ _).alloc (Nat.le_refl _) _)
  clear q
  go_enter Try.func24, Try.ntmps24
  go_wp2_with fail
  exact bodyPost_ret (v := rep0 x) (by simp [rep0, results, Try.results24, go_sem, q0, q1, q2, q3, q4, q5, q6]) rfl ⟨rfl, HB.out⟩
theorem new_any (w : World) :
    Calls Try.prog 8 #[] w fun e w' => e = .returned (.pointer (some ⟨w.heap.size, 0, none⟩)) ∧ w' = w.alloc (.cells #[.map none, .map none, .int .i64 0, .int .i64 0, .int .i64 0, .int .i64 0] 66) := by
  go_enter Try.func8, Try.ntmps8
  go_wp2_with fail
  go_ret
  exact ⟨rfl, rfl⟩
theorem holds_any {w : World} {s : Nat} {z m : Int} (h : w.cell? ⟨s, 4, none⟩ = some (.int .i64 z)) (hz : 0 ≤ z ∧ z ≤ 4194304) (hm : -4194304 ≤ m ∧ m ≤ 4194304) :
    Calls Try.prog 59 #[.pointer (some ⟨s, 0, none⟩), .int .i64 m] w fun e w' => e = .returned (.bool (decide (z + m ≤ 4194304))) ∧ w = w' := by
  have w1 : IntKind.i64.wrap (z + m) = z + m := IntWalk.i64_in _ (by omega)
  go_enter Try.func59, Try.ntmps59
  go_wp2_with fail
  go_ret
  exact ⟨rfl, rfl⟩
/-- a key -/
def okB (b : UInt8) : Bool := decide (33 ≤ b.toNat) && decide (b.toNat ≤ 126)
def isKeyB (s : ByteArray) : Bool := decide (1 ≤ s.size) && decide (s.size ≤ 40) && s.data.toList.all okB
end Go.Proofs.Ytodoklnohedolaa
end PkUC3_0
section PkUC3_1
/- The document's store: its rows, as blocks; its put, plainly. -/
namespace Go.Proofs.Ytodoklnohedolaa
open Go.RowKit
set_option linter.unusedVariables false

theorem DStAt.orow_parts {w : World} {S base : Nat} {σ : DSto} (h : DStAt w S base σ) (hp : 0 < σ.objs.length) : ∃ g cur, σ.oa = some ⟨g, 0, none⟩ ∧ base ≤ g ∧ w.heap[g]? = some (.cells cur 56 (0, 0)) ∧ σ.objs.length * 4 ≤ cur.size := by
  rcases h.orow.2 with ⟨_, h0⟩ | ⟨g, cap, cur, h1, h2, h3, h4, h5, h6, h7⟩
  · omega
  · have e := Value.slice.inj h1
    refine ⟨g, cur, e.1, h2, h3, ?_⟩
    rw [h6]
    exact Nat.mul_le_mul_right _ h4
theorem DStAt.urow_parts {w : World} {S base : Nat} {σ : DSto} (h : DStAt w S base σ) (hp : 0 < σ.ups.length) : ∃ g cur, σ.ua = some ⟨g, 0, none⟩ ∧ base ≤ g ∧ w.heap[g]? = some (.cells cur 85 (0, 0)) ∧ σ.ups.length * 4 ≤ cur.size := by
  rcases h.urow.2 with ⟨_, h0⟩ | ⟨g, cap, cur, h1, h2, h3, h4, h5, h6, h7⟩
  · omega
  · have e := Value.slice.inj h1
    refine ⟨g, cur, e.1, h2, h3, ?_⟩
    rw [h6]
    exact Nat.mul_le_mul_right _ h4
theorem DStAt.obj_cells {w : World} {S base : Nat} {σ : DSto} (h : DStAt w S base σ) {g : Nat} (hg : σ.oa = some ⟨g, 0, none⟩) {i : Nat} (hi : i < σ.objs.length) : (∃ q, w.cell? ⟨g, i * 4, none⟩ = some (.string q)) ∧ (∃ a d c, w.cell? ⟨g, i * 4 + 1, none⟩ = some (.slice a d c)) ∧ (∃ z, w.cell? ⟨g, i * 4 + 2, none⟩ = some (.int .i64 z)) ∧ (∃ z, w.cell? ⟨g, i * 4 + 3, none⟩ = some (.int .i64 z)) := by
  obtain ⟨b, off, ha, _, _, hc⟩ := h.objs.get hi
  rw [hg] at ha
  cases ha
  have h0 := hc 0 _ rfl
  have h1 := hc 1 _ rfl
  have h2 := hc 2 _ rfl
  have h3 := hc 3 _ rfl
  rw [Nat.zero_add] at h0 h1 h2 h3
  exact ⟨⟨_, h0⟩, ⟨_, _, _, h1⟩, ⟨_, h2⟩, ⟨_, h3⟩⟩
theorem DStAt.upl_cells {w : World} {S base : Nat} {σ : DSto} (h : DStAt w S base σ) {g : Nat} (hg : σ.ua = some ⟨g, 0, none⟩) {i : Nat} (hi : i < σ.ups.length) : (∃ q, w.cell? ⟨g, i * 4, none⟩ = some (.int .i64 q)) ∧ (∃ z, w.cell? ⟨g, i * 4 + 1, none⟩ = some (.int .i64 z)) ∧ (∃ z, w.cell? ⟨g, i * 4 + 2, none⟩ = some (.string z)) ∧ (∃ a d c, w.cell? ⟨g, i * 4 + 3, none⟩ = some (.slice a d c)) := by
  obtain ⟨b, off, ha, _, _, hc⟩ := h.ups.get hi
  rw [hg] at ha
  cases ha
  have h0 := hc 0 _ rfl
  have h1 := hc 1 _ rfl
  have h2 := hc 2 _ rfl
  have h3 := hc 3 _ rfl
  rw [Nat.zero_add] at h0 h1 h2 h3
  exact ⟨⟨_, h0⟩, ⟨_, h1⟩, ⟨_, h2⟩, ⟨_, _, _, h3⟩⟩
/-- a key is below -/
def ltK (a b : ByteArray) : Bool := Op.bytesLess a.toList b.toList
/-- an object put -/
def putL (l : List DObj) (o : DObj) : List DObj := match l.findIdx? (fun x => decide (x.key = o.key)) with
  | some i => l.set i o
  | none => l.takeWhile (fun x => ltK x.key o.key) ++ [o] ++ l.dropWhile (fun x => ltK x.key o.key)
/-- the blocks that a put turns -/
def DFo (S : Nat) (σ : DSto) (b : Nat) : Prop := b = S ∨ blkOf σ.oa = some b
/-- what comes of a put -/
def PutP (w : World) (S base : Nat) (σ : DSto) (k : ByteArray) (dn : Nat) (data : List Nat) (w' : World) : Prop :=
  ∃ oa oc da dc, DStAt w' S base { σ with oa := oa, oc := oc, objs := putL σ.objs ⟨k, da, dn, dc, data, σ.ver + 1, σ.now⟩, ver := σ.ver + 1 } ∧ Frm (DFo S σ) w w' ∧ (∀ b, blkOf da = some b → w.heap.size ≤ b)
theorem take_drop_while {α : Type} (p : α → Bool) : ∀ (l : List α) (n : Nat), n ≤ l.length → (∀ j x, j < n → l[j]? = some x → p x = true) → (∀ x, l[n]? = some x → p x = false) → l.take n = l.takeWhile p ∧ l.drop n = l.dropWhile p
  | [], n, h, _, _ => by simp at h; subst h; exact ⟨rfl, rfl⟩
  | a :: r, 0, _, _, h2 => by
    have := h2 a rfl
    rw [List.takeWhile_cons, List.dropWhile_cons, this]
    exact ⟨rfl, rfl⟩
  | a :: r, n + 1, h, h1, h2 => by
    have h0 := h1 0 a (by omega) rfl
    obtain ⟨e1, e2⟩ := take_drop_while p r n (by simpa using h) (fun j x hj hx => h1 (j + 1) x (by omega) (by simpa using hx)) (fun x hx => h2 x (by simpa using hx))
    rw [List.takeWhile_cons, List.dropWhile_cons, h0, List.take_succ_cons, List.drop_succ_cons, e1, e2]
    exact ⟨rfl, rfl⟩
/-- the types of a store's blocks -/
def isD (t : TypeId) : Prop := t = 50 ∨ t = 56 ∨ t = 85 ∨ t = 115 ∨ t = 5
theorem own_blk_ty {w : World} {base n c N k : Nat} {e : TypeId} {a : Option Addr} {xs : List Value} (h : w.ownsRow base e k (.slice a n c) N xs) {b : Nat} (hb : blkOf a = some b) : ∃ cur, w.heap[b]? = some (.cells cur e (0, 0)) := by
  rcases h.2 with ⟨h0, _⟩ | ⟨q, cap, cur, h1, _, h3, _⟩
  · cases h0; cases hb
  · cases h1
    cases hb
    exact ⟨cur, h3⟩
theorem DStAt.ty {w : World} {S base : Nat} {σ : DSto} (h : DStAt w S base σ) {b : Nat} (hb : DF S σ b) : ∃ cs t, w.heap[b]? = some (.cells cs t (0, 0)) ∧ isD t := by
  rcases hb with rfl | e | e | ⟨o, ho, e⟩ | ⟨u, hu, e | ⟨p, hp, e⟩⟩
  · exact ⟨_, _, h.blk, .inl rfl⟩
  · obtain ⟨cur, g⟩ := own_blk_ty h.orow e; exact ⟨_, _, g, .inr (.inl rfl)⟩
  · obtain ⟨cur, g⟩ := own_blk_ty h.urow e; exact ⟨_, _, g, .inr (.inr (.inl rfl))⟩
  · obtain ⟨cur, g⟩ := own_blk_ty (h.obj o ho).row e; exact ⟨_, _, g, .inr (.inr (.inr (.inr rfl)))⟩
  · obtain ⟨cur, g⟩ := own_blk_ty (h.upl u hu).row e; exact ⟨_, _, g, .inr (.inr (.inr (.inl rfl)))⟩
  · obtain ⟨cur, g⟩ := own_blk_ty ((h.upl u hu).prt p hp).row e; exact ⟨_, _, g, .inr (.inr (.inr (.inr rfl)))⟩
theorem rep_notD : ¬ isD 36 := by unfold isD; decide
theorem DStAt.frmT {w w' : World} {S base : Nat} {σ : DSto} (h : DStAt w S base σ) {R : Nat} {cs : Array Value} {t : TypeId} {fr : Nat × Nat} (hR : w.heap[R]? = some (.cells cs t fr)) (ht : ¬ isD t) (hf : Frm (fun b => b = R) w w') : DStAt w' S base σ :=
  h.same fun b hb => hf.block b (h.lt hb) (fun e => by
    obtain ⟨cs', t', g, gt⟩ := h.ty hb
    rw [e, hR] at g
    simp at g
    exact ht (g.2.1 ▸ gt))
theorem setCells_other : ∀ (vs : List Value) (w : World) (g o k : Nat), k ≠ g → (w.setCells g o vs).heap[k]? = w.heap[k]?
  | [], _, _, _, _, _ => rfl
  | v :: r, w, g, o, k, h => by
    rw [World.setCells]
    exact (setCells_other r _ g (o + 1) k h).trans (heap_setCell_other w ⟨g, o, none⟩ k v h)
/-- an object laid in its place -/
theorem DStAt.inPlace {w w' : World} {S base : Nat} {σ : DSto} (h : DStAt w S base σ) {g : Nat} {cur : Array Value} (hoa : σ.oa = some ⟨g, 0, none⟩) (hgk : w.heap[g]? = some (.cells cur 56 (0, 0))) {i : Nat} (hil : i < σ.objs.length) {o : DObj} {base' : Nat} (hrow : w.ownsRow base' 5 1 (.slice o.da o.dn o.dc) o.dn (bv o.data)) (hbb : base ≤ base') (hby : ∀ x ∈ o.data, x < 256) (hle : o.data.length = o.dn) (hsm : o.dn ≤ 262144) (hw : w'.heap = (w.setCells g (i * 4) (DObjS.f o)).heap) : DStAt w' S base { σ with objs := σ.objs.set i o } := by
  have hoth : ∀ b, b ≠ g → w'.heap[b]? = w.heap[b]? := fun b hb => by rw [hw]; exact setCells_other _ _ _ _ _ hb
  refine h.objSet ?_ (fun b _ hb => hoth b (fun e => hb (by rw [hoa, e]; rfl))) ⟨?_, hby, hle, hsm⟩ (fun b hb => by
    rw [hoa] at hb
    cases hb
    exact ⟨_, _, hgk⟩)
  · have h1 := h.orow
    rw [hoa] at h1 ⊢
    exact own_same (own_setCells (S := DObjS) h1 rfl hil o) (fun b _ => by rw [hw]; rfl)
  · refine own_baseD (own_same hrow fun b hb => hoth b fun e => ?_) hbb
    obtain ⟨cu, g2⟩ := own_blk_ty hrow hb
    rw [e, hgk] at g2
    simp at g2
/-- an object put in by its key -/
theorem putL_new {l : List DObj} {o : DObj} (hf : l.findIdx? (fun x => decide (x.key = o.key)) = none) {m : Nat} (hm : m ≤ l.length) (h1 : ∀ j x, j < m → l[j]? = some x → ltK x.key o.key = true) (h2 : ∀ x, l[m]? = some x → ltK x.key o.key = false) : putL l o = l.take m ++ [o] ++ l.drop m := by
  obtain ⟨e1, e2⟩ := take_drop_while (fun x => ltK x.key o.key) l m hm h1 h2
  unfold putL
  rw [hf, e1, e2]
theorem putL_old {l : List DObj} {o : DObj} {i : Nat} (hf : l.findIdx? (fun x => decide (x.key = o.key)) = some i) : putL l o = l.set i o := by
  unfold putL
  rw [hf]
theorem putL_mem {l : List DObj} {o x : DObj} (h : x ∈ putL l o) : x ∈ l ∨ x = o := by
  unfold putL at h
  split at h
  · exact List.mem_or_eq_of_mem_set h
  · rcases List.mem_append.1 h with g | g
    · rcases List.mem_append.1 g with g | g
      · exact .inl ((List.takeWhile_sublist _).subset g)
      · exact .inr (List.mem_singleton.1 g)
    · exact .inl ((List.dropWhile_sublist _).subset g)
/-- one thing, in new memory -/
theorem vec_oneS {α : Type} (S : Sty α) (w : World) (x : α) (hx : ∀ W, S.ok W x) (t : TypeId) {cs : Array Value} (hcs : cs = (S.f x).toArray) : VecAt S (w.alloc (.cells cs t)) (some ⟨w.heap.size, 0, none⟩) 1 1 [x] := by
  refine ⟨rfl, Nat.le_refl _, by omega, (fun e => by cases e), (fun y hy => by rw [List.mem_singleton.1 hy]; exact hx _), fun _ => ⟨w.heap.size, 0, rfl, by simp, fun i hi j v hv => ?_⟩⟩
  obtain rfl : i = 0 := by omega
  have := S.src w x t hcs j v hv
  rw [show (⟨w.heap.size, 0, none⟩ : Addr).add j = ⟨w.heap.size, 0 + 0 * S.K + j, none⟩ from by rw [Nat.zero_mul, Nat.zero_add]; unfold Addr.add; split <;> simp_all] at this
  exact this
/-- the end of a put -/
theorem put_done {F : Nat → Prop} {w WN W5 : World} {S base R : Nat} {σ' : DSto} {cs : Array Value} (hst : DStAt WN S base σ') (hR : WN.heap[R]? = some (.cells cs 36 (0, 0))) (hRw : w.heap.size ≤ R) (hN : Frm F w WN) (h5 : Frm (fun b => b = R) WN W5) : DStAt W5 S base σ' ∧ Frm F w W5 :=
  ⟨hst.frmT hR rep_notD h5, hN.trans h5 (fun i e => .inr (by rw [e]; exact hRw))⟩
end Go.Proofs.Ytodoklnohedolaa
end PkUC3_1
section PkUC3_2
/- A reply in memory: filled, and handed back. -/
namespace Go.Proofs.Ytodoklnohedolaa
open Go.RowKit
set_option linter.unusedVariables false

/-- a reply's block filled cell by cell -/
def setR (w : World) (R : Nat) (x0 x1 x2 x3 x4 x5 x6 : Value) : World :=
  (((((((w.setCell ⟨R, 0, none⟩ x0).setCell ⟨R, 1, none⟩ x1).setCell ⟨R, 2, none⟩ x2).setCell ⟨R, 3, none⟩ x3).setCell ⟨R, 4, none⟩ x4).setCell ⟨R, 5, none⟩ x5).setCell ⟨R, 6, none⟩ x6)
theorem setR_at {w : World} {R : Nat} {y0 y1 y2 y3 y4 y5 y6 : Value} {t : TypeId} (g : w.heap[R]? = some (.cells #[y0, y1, y2, y3, y4, y5, y6] t (0, 0))) (x0 x1 x2 x3 x4 x5 x6 : Value) :
    (setR w R x0 x1 x2 x3 x4 x5 x6).heap[R]? = some (.cells #[x0, x1, x2, x3, x4, x5, x6] t (0, 0)) := by
  unfold setR
  have h0 := heap_setCell_same w R 0 _ _ x0 g
  have h1 := heap_setCell_same _ R 1 _ _ x1 h0
  have h2 := heap_setCell_same _ R 2 _ _ x2 h1
  have h3 := heap_setCell_same _ R 3 _ _ x3 h2
  have h4 := heap_setCell_same _ R 4 _ _ x4 h3
  have h5 := heap_setCell_same _ R 5 _ _ x5 h4
  have h6 := heap_setCell_same _ R 6 _ _ x6 h5
  rw [h6]
  rfl
theorem Frm.setR {F : Nat → Prop} {a b : World} (h : Frm F a b) {R : Nat} (hp : F R ∨ a.heap.size ≤ R) (x0 x1 x2 x3 x4 x5 x6 : Value) : Frm F a (setR b R x0 x1 x2 x3 x4 x5 x6) :=
  ((((((h.set hp 0 x0).set hp 1 x1).set hp 2 x2).set hp 3 x3).set hp 4 x4).set hp 5 x5).set hp 6 x6
theorem ret_cell {P : Program} {fn : Func} {p : Tmp} {ty : TypeId} (h : fn.results = #[.cell p ty]) (tmps : Array Value) (w : World) (g : Nat) (t : TypeId) (cs : Array Value) (fr : Nat × Nat) (d : TypeDesc)
    (hp : tmps.getD p undef = .pointer (some ⟨g, 0, none⟩)) (hg : w.heap[g]? = some (.cells cs t fr))
    (hu : P.underlying ty = some d) (hd : (match d with | .struct _ | .array _ _ => true | _ => false) = true) (hi : (P.info? ty).map (·.size) = some cs.size) :
    (results fn tmps).run P w = .ok (.agg cs) w := by
  have hp' : tmps[p]?.getD undef = .pointer (some ⟨g, 0, none⟩) := by simpa using hp
  simp [results, h, hp', asAddr, run_loadVar_row w g t ty cs fr d hg hu hd hi]
/-- a reply is handed back -/
theorem ret_rep {fn : Func} {p : Tmp} (h : fn.results = #[.cell p 36]) (tmps : Array Value) (w : World) (g : Nat) {e v b i : Int} {d l : Value} {m : Bool}
    (hp : tmps.getD p undef = .pointer (some ⟨g, 0, none⟩)) (hg : w.heap[g]? = some (.cells #[.int .i64 e, d, .int .i64 v, .int .i64 b, .int .i64 i, l, .bool m] 36 (0, 0))) :
    (results fn tmps).run Try.prog w = .ok (rep e d v b i l m) w :=
  ret_cell h tmps w g _ _ _ _ hp hg Try.underlying36 rfl (by kernel_rfl)
/-- a call's cells -/
def callV (ki : Int) (ky : ByteArray) (a : Option Addr) (n c : Nat) (vr at_ nn id : Int) : Array Value := #[.int .i64 ki, .string ky, .slice a n c, .int .i64 vr, .int .i64 at_, .int .i64 nn, .int .i64 id]
def zrep : Array Value := #[.int .i64 0, .slice none 0 0, .int .i64 0, .int .i64 0, .int .i64 0, .slice none 0 0, .bool false]
/-- a method's beginning: the call's box, the reply's -/
structure Ent (w W : World) (s Mo Mu : Nat) (σ : Sto) (cs : Array Value) : Prop where
  st : StAt W s Mo Mu σ
  cb : W.heap[w.heap.size]? = some (.cells cs 30 (0, 0))
  rb : W.heap[w.heap.size + 1]? = some (.cells zrep 36 (0, 0))
  sz : W.heap.size = w.heap.size + 2
  bel : Below w.heap.size w W
theorem ent_mk {w : World} {s Mo Mu : Nat} {σ : Sto} (h : StAt w s Mo Mu σ) (cs : Array Value) : Ent w ((w.alloc (.cells cs 30)).alloc (.cells zrep 36)) s Mo Mu σ cs := by
  have h1 : Below w.heap.size w ((w.alloc (.cells cs 30)).alloc (.cells zrep 36)) := ((Below.refl _ _).alloc (Nat.le_refl _) _).alloc (by simp) _
  have e1 : (w.alloc (.cells cs 30)).heap.size = w.heap.size + 1 := by simp
  refine ⟨h.below h1, ?_, ?_, by simp, h1⟩
  · exact (Below.heap_alloc _ _ _ (by rw [e1]; omega)).trans (heap_new w _)
  · have := heap_new (w.alloc (.cells cs 30)) (.cells zrep 36)
    rwa [e1] at this
theorem rb_cells {w : World} {R : Nat} (g : w.heap[R]? = some (.cells zrep 36 (0, 0))) :
    (w.cell? ⟨R, 0, none⟩ = some (.int .i64 0) ∧ w.cell? ⟨R, 1, none⟩ = some (.slice none 0 0) ∧ w.cell? ⟨R, 2, none⟩ = some (.int .i64 0) ∧ w.cell? ⟨R, 3, none⟩ = some (.int .i64 0) ∧ w.cell? ⟨R, 4, none⟩ = some (.int .i64 0) ∧ w.cell? ⟨R, 5, none⟩ = some (.slice none 0 0) ∧ w.cell? ⟨R, 6, none⟩ = some (.bool false)) ∧
    w.frozen? ⟨R, 0, none⟩ = false ∧ w.frozen? ⟨R, 1, none⟩ = false ∧ w.frozen? ⟨R, 2, none⟩ = false ∧ w.frozen? ⟨R, 3, none⟩ = false ∧ w.frozen? ⟨R, 4, none⟩ = false ∧ w.frozen? ⟨R, 5, none⟩ = false ∧ w.frozen? ⟨R, 6, none⟩ = false :=
  ⟨⟨cell_blk2 g rfl, cell_blk2 g rfl, cell_blk2 g rfl, cell_blk2 g rfl, cell_blk2 g rfl, cell_blk2 g rfl, cell_blk2 g rfl⟩, fro_blk2 g 0, fro_blk2 g 1, fro_blk2 g 2, fro_blk2 g 3, fro_blk2 g 4, fro_blk2 g 5, fro_blk2 g 6⟩
theorem setR_at0 {w : World} {R : Nat} (g : w.heap[R]? = some (.cells zrep 36 (0, 0))) (x0 x1 x2 x3 x4 x5 x6 : Value) :
    (setR w R x0 x1 x2 x3 x4 x5 x6).heap[R]? = some (.cells #[x0, x1, x2, x3, x4, x5, x6] 36 (0, 0)) := setR_at g x0 x1 x2 x3 x4 x5 x6
/-- a method ends with a reply that was laid into its box: nothing below turned but the box -/
theorem ret_set {fn : Func} {p : Tmp} (h : fn.results = #[.cell p 36]) (tmps : Array Value) {w0 w : World} {R : Nat} (g : w.heap[R]? = some (.cells zrep 36 (0, 0))) (hp : tmps.getD p undef = .pointer (some ⟨R, 0, none⟩)) (e v b i : Int) (d l : Value) (m : Bool) :
    (results fn tmps).run Try.prog (setR w R (.int .i64 e) d (.int .i64 v) (.int .i64 b) (.int .i64 i) l (.bool m)) = .ok (rep e d v b i l m) (setR w R (.int .i64 e) d (.int .i64 v) (.int .i64 b) (.int .i64 i) l (.bool m)) :=
  ret_rep h tmps _ R hp (setR_at0 g _ _ _ _ _ _ _)
/-- under way: the call's box, the reply's, and one more -/
structure Md (w W : World) (s Mo Mu : Nat) (σ : Sto) (cs : Array Value) (box : Array Value) (bt : TypeId) : Prop where
  st : StAt W s Mo Mu σ
  cb : W.heap[w.heap.size]? = some (.cells cs 30 (0, 0))
  rb : W.heap[w.heap.size + 1]? = some (.cells zrep 36 (0, 0))
  ob : W.heap[w.heap.size + 2]? = some (.cells box bt (0, 0))
  bel : Below w.heap.size w W
theorem md_mk {w W : World} {s Mo Mu : Nat} {σ : Sto} {cs : Array Value} (h : Ent w W s Mo Mu σ cs) (box : Array Value) (bt : TypeId) : Md w (W.alloc (.cells box bt)).drew s Mo Mu σ cs box bt := by
  have hb : Below W.heap.size W (W.alloc (.cells box bt)).drew := ((Below.refl _ _).alloc (Nat.le_refl _) _).drew
  refine ⟨h.st.below hb, (hb.block _ (by have := h.sz; omega)).trans h.cb, (hb.block _ (by have := h.sz; omega)).trans h.rb, ?_, h.bel.trans (hb.mono h.bel.size)⟩
  have := heap_new W (.cells box bt)
  rw [h.sz] at this
  exact this
theorem Md.kept {w W W' : World} {s Mo Mu : Nat} {σ : Sto} {cs box : Array Value} {bt : TypeId} (h : Md w W s Mo Mu σ cs box bt) (hb : Below W.heap.size W W') : Md w W' s Mo Mu σ cs box bt :=
  ⟨h.st.below hb, (hb.block _ (Array.getElem?_eq_some_iff.1 h.cb).1).trans h.cb, (hb.block _ (Array.getElem?_eq_some_iff.1 h.rb).1).trans h.rb, (hb.block _ (Array.getElem?_eq_some_iff.1 h.ob).1).trans h.ob, h.bel.trans (hb.mono h.bel.size)⟩
/-- a method's end: the reply's box was filled -/
theorem Md.done {w W : World} {s Mo Mu : Nat} {σ : Sto} {cs box : Array Value} {bt : TypeId} (h : Md w W s Mo Mu σ cs box bt) (hs : s < w.heap.size) (hF : ∀ b, StF s Mo Mu σ b → b < w.heap.size) (x0 x1 x2 x3 x4 x5 x6 : Value) :
    StAt (setR W (w.heap.size + 1) x0 x1 x2 x3 x4 x5 x6) s Mo Mu σ ∧ Below w.heap.size w (setR W (w.heap.size + 1) x0 x1 x2 x3 x4 x5 x6) := by
  have h1 : Frm (fun b => b = w.heap.size + 1) W (setR W (w.heap.size + 1) x0 x1 x2 x3 x4 x5 x6) := (Frm.refl (fun b => b = w.heap.size + 1) W).setR (R := w.heap.size + 1) (.inl rfl) _ _ _ _ _ _ _
  refine ⟨h.st.same fun b hb => h1.block b (h.st.lt hb) (fun e => by have := hF b hb; omega), ?_⟩
  exact ⟨h1.os.trans h.bel.os, h1.tape.trans h.bel.tape, h1.output.trans h.bel.output, Nat.le_trans h.bel.size h1.size, fun i hi => (h1.block i (Nat.lt_of_lt_of_le hi h.bel.size) (by omega)).trans (h.bel.block i hi)⟩
end Go.Proofs.Ytodoklnohedolaa
end PkUC3_2
section PkUC3_3
/- The document's put, walked. Written by gensdput.py. -/
namespace Go.Proofs.Ytodoklnohedolaa
open Go.RowKit
set_option linter.unusedVariables false

set_option maxRecDepth 100000 in
set_option maxHeartbeats 8000000 in
theorem dput_any {w : World} {S base : Nat} {σ : DSto} (h : DStAt w S base σ) (k : ByteArray) {da : Option Addr} {dn dc : Nat} {data : List Nat} (hd : BytesAt w da dn dc data) (hv : 0 ≤ σ.ver ∧ σ.ver ≤ 1000000000) (hbs : base ≤ w.heap.size) (hdn : dn ≤ 262144) (hnew : atK σ.objs k = -1 → σ.objs.length < 512) :
    Calls Try.prog 44 #[.pointer (some ⟨S, 0, none⟩), .string k, .slice da dn dc] w fun e w' => e = .returned (rep 0 (.slice none 0 0) (σ.ver + 1) σ.now 0 (.slice none 0 0) false) ∧ PutP w S base σ k dn data w' := by
  have hSl : S < w.heap.size := (Array.getElem?_eq_some_iff.1 h.blk).1
  obtain ⟨v1, hv1⟩ : ∃ v1, v1 = σ.ver + 1 := ⟨_, rfl⟩
  obtain ⟨now, hnow⟩ : ∃ now, now = σ.now := ⟨_, rfl⟩
  obtain ⟨R, hR⟩ : ∃ R, R = w.heap.size := ⟨_, rfl⟩
  obtain ⟨W1, hW1⟩ : ∃ W1, W1 = w.alloc (.cells zrep 36) := ⟨_, rfl⟩
  obtain ⟨W2, hW2⟩ : ∃ W2, W2 = W1.setCell ⟨S, 2, none⟩ (.int .i64 v1) := ⟨_, rfl⟩
  have hb1 : Below w.heap.size w W1 := by rw [hW1]; exact (Below.refl _ _).alloc (Nat.le_refl _) _
  have h1 := h.below hb1
  have h2 : DStAt W2 S base { σ with ver := v1 } := by rw [hW2]; exact h1.verLaid v1
  have c2 : w.cell? ⟨S, 2, none⟩ = some (.int .i64 σ.ver) := cell_blkD h.blk (i := 2) rfl
  have c2' : W1.cell? ⟨S, 2, none⟩ = some (.int .i64 σ.ver) := cell_blkD h1.blk (i := 2) rfl
  have f2 : W1.frozen? ⟨S, 2, none⟩ = false := frz_blkD h1.blk 2
  have d2 : W2.cell? ⟨S, 2, none⟩ = some (.int .i64 v1) := cell_blkD h2.blk (i := 2) rfl
  have d4 : W2.cell? ⟨S, 4, none⟩ = some (.int .i64 now) := by rw [hnow]; exact cell_blkD h2.blk (i := 4) rfl
  have wv : IntKind.i64.wrap (σ.ver + 1) = v1 := by rw [hv1]; exact IntWalk.i64_in _ (by omega)
  have HS2 := Lib.hid h2
  have hSl2 : S < W2.heap.size := (Array.getElem?_eq_some_iff.1 h2.blk).1
  have HE := Lib.hid (And.intro hW1 (And.intro hW2 hR))
  have HI0 := Lib.hid (Below.refl W2.heap.size W2).drew
  have HD2 : Hid (BytesAt W2 da dn dc data) := Lib.hid (by rw [hW2]; exact (hd.kept hb1).turnD (grown_setD _ _ _ _) (bytes_notS h1 (hd.kept hb1)))
  have HVN := Lib.hid (And.intro hv1 hnow)
  have HRB := Lib.hid (show W2.heap[R]? = some (.cells zrep 36 (0, 0)) from by
    rw [hW2]
    refine (heap_setCell_other W1 ⟨S, 2, none⟩ R _ (fun e => by rw [hR] at e; simp only at e; omega)).trans ?_
    rw [hW1, hR]
    exact heap_alloc_newD w _)
  have HFR := Lib.hid (show Frm (DFo S σ) w W2 from by rw [hW2]; exact ((Frm.refl _ w).below hb1).set (.inl (.inl rfl)) _ _)
  have HBW := Lib.hid (show base ≤ W2.heap.size from Nat.le_trans hbs HFR.out.size)
  have HNEW := Lib.hid hnew
  clear h h1 h2 hd hv1 hnow hR hW1 hW2 hb1 hbs hnew
  go_enter Try.func44, Try.ntmps44
  go_upto_region 1 with fail
  rw [show (w.alloc (.cells #[.int .i64 0, .slice none 0 0, .int .i64 0, .int .i64 0, .int .i64 0, .slice none 0 0, .bool false] 36)) = W1 from HE.out.1.symm, ← HE.out.2.2]
  go_upto_region 2 with fail
  rw [← HE.out.2.1]
  refine wp_region_inv (by kernel_rfl) (by kernel_rfl) (by kernel_rfl) (PtI W2 k dn data v1 now (fun j_9 => match j_9 with | 0 => some (.string k) | 1 => some (.slice da dn dc) | 2 => none | 3 => some (.pointer (some ⟨S, 0, none⟩)) | 4 => some (.pointer (some ⟨S, 0, none⟩)) | 5 => some (.pointer (some ⟨S, 2, none⟩)) | 6 => some (.int .i64 v1) | 7 => some (.pointer (some ⟨S, 0, none⟩)) | 8 => some (.pointer (some ⟨S, 0, none⟩)) | 9 => some (.pointer (some ⟨S, 4, none⟩)) | 10 => some (.int .i64 now) | 11 => none | 12 => none | 13 => none | _ => none)) (fun V => ⟨HI0.out, (fun h => by cases h), (fun h => by cases h), (fun h => by cases h), (fun h => by cases h), (fun j u h => by cases h)⟩) ?_ ?_
  · intro i9 o ho T V w9 K hI hT hdep hK
    have HI := Lib.hid hI
    simp only [fill, slotOf, List.size_toArray, List.length_cons, List.length_nil, Nat.reduceAdd, List.getElem?_toArray, List.getElem?_cons_zero, List.getElem?_cons_succ, Option.bind_some, Act.put, List.setIfInBounds_toArray, List.set_cons_zero, List.set_cons_succ] at hK ⊢
    have hin9 : i9 < 14 := (Array.getElem?_eq_some_iff.1 ho).1
    have hcs : i9 = 0 ∨ i9 = 1 ∨ i9 = 2 ∨ i9 = 3 ∨ i9 = 4 ∨ i9 = 5 ∨ i9 = 6 ∨ i9 = 7 ∨ i9 = 8 ∨ i9 = 9 ∨ i9 = 10 ∨ i9 = 11 ∨ i9 = 12 ∨ i9 = 13 := by omega
    clear hin9
    rcases hcs with rfl | rfl | rfl | rfl | rfl | rfl | rfl | rfl | rfl | rfl | rfl | rfl | rfl | rfl
    · obtain rfl := Option.some.inj ho.symm
      clear hdep ho hI hT
      try simp only [fill, slotOf, List.size_toArray, List.length_cons, List.length_nil, Nat.reduceAdd, List.getElem?_toArray, List.getElem?_cons_zero, List.getElem?_cons_succ, Option.bind_some, Act.put, List.setIfInBounds_toArray, List.set_cons_zero, List.set_cons_succ] at hK ⊢
      go_simp
      exact hK (.string k) _ (HI.out.val 0 _ rfl (by decide) (by decide) (by decide) (by decide)) _ rfl
    · obtain rfl := Option.some.inj ho.symm
      clear hdep ho hI hT
      try simp only [fill, slotOf, List.size_toArray, List.length_cons, List.length_nil, Nat.reduceAdd, List.getElem?_toArray, List.getElem?_cons_zero, List.getElem?_cons_succ, Option.bind_some, Act.put, List.setIfInBounds_toArray, List.set_cons_zero, List.set_cons_succ] at hK ⊢
      go_simp
      exact hK (.slice da dn dc) _ (HI.out.val 1 _ rfl (by decide) (by decide) (by decide) (by decide)) _ rfl
    · obtain rfl := Option.some.inj ho.symm
      have d19 : V 1 = .slice da dn dc := HI.out.vs 1 _ (hdep ⟨1, .data⟩ (by simp) rfl) rfl
      have HC := Lib.hid (twin_any (HD2.out.kept HI.out.bel))
      clear hdep ho hI
      try simp only [fill, slotOf, List.size_toArray, List.length_cons, List.length_nil, Nat.reduceAdd, List.getElem?_toArray, List.getElem?_cons_zero, List.getElem?_cons_succ, Option.bind_some, Act.put, List.setIfInBounds_toArray, List.set_cons_zero, List.set_cons_succ] at hK ⊢
      rw [d19] at hK ⊢
      go_simp
      refine HC.out.mono ?_
      rintro e w8 ⟨v8, rfl, ho8, _, hb8⟩
      exact hK v8 _ (HI.out.op2 hT rfl hb8 ho8) _ rfl
    · obtain rfl := Option.some.inj ho.symm
      clear hdep ho hI hT
      try simp only [fill, slotOf, List.size_toArray, List.length_cons, List.length_nil, Nat.reduceAdd, List.getElem?_toArray, List.getElem?_cons_zero, List.getElem?_cons_succ, Option.bind_some, Act.put, List.setIfInBounds_toArray, List.set_cons_zero, List.set_cons_succ] at hK ⊢
      go_simp
      exact hK (.pointer (some ⟨S, 0, none⟩)) _ (HI.out.val 3 _ rfl (by decide) (by decide) (by decide) (by decide)) _ rfl
    · obtain rfl := Option.some.inj ho.symm
      have d39 : V 3 = .pointer (some ⟨S, 0, none⟩) := HI.out.vs 3 _ (hdep ⟨3, .data⟩ (by simp) rfl) rfl
      clear hdep ho hI hT
      try simp only [fill, slotOf, List.size_toArray, List.length_cons, List.length_nil, Nat.reduceAdd, List.getElem?_toArray, List.getElem?_cons_zero, List.getElem?_cons_succ, Option.bind_some, Act.put, List.setIfInBounds_toArray, List.set_cons_zero, List.set_cons_succ] at hK ⊢
      rw [d39] at hK ⊢
      go_simp
      exact hK (.pointer (some ⟨S, 0, none⟩)) _ (HI.out.val 4 _ rfl (by decide) (by decide) (by decide) (by decide)) _ rfl
    · obtain rfl := Option.some.inj ho.symm
      have d49 : V 4 = .pointer (some ⟨S, 0, none⟩) := HI.out.vs 4 _ (hdep ⟨4, .data⟩ (by simp) rfl) rfl
      clear hdep ho hI hT
      try simp only [fill, slotOf, List.size_toArray, List.length_cons, List.length_nil, Nat.reduceAdd, List.getElem?_toArray, List.getElem?_cons_zero, List.getElem?_cons_succ, Option.bind_some, Act.put, List.setIfInBounds_toArray, List.set_cons_zero, List.set_cons_succ] at hK ⊢
      rw [d49] at hK ⊢
      go_simp
      exact hK (.pointer (some ⟨S, 2, none⟩)) _ (HI.out.val 5 _ rfl (by decide) (by decide) (by decide) (by decide)) _ rfl
    · obtain rfl := Option.some.inj ho.symm
      have d59 : V 5 = .pointer (some ⟨S, 2, none⟩) := HI.out.vs 5 _ (hdep ⟨5, .data⟩ (by simp) rfl) rfl
      have u1 : w9.cell? ⟨S, 2, none⟩ = some (.int .i64 v1) := (HI.out.bel.cell (p := ⟨S, 2, none⟩) hSl2).trans d2
      clear hdep ho hI hT
      try simp only [fill, slotOf, List.size_toArray, List.length_cons, List.length_nil, Nat.reduceAdd, List.getElem?_toArray, List.getElem?_cons_zero, List.getElem?_cons_succ, Option.bind_some, Act.put, List.setIfInBounds_toArray, List.set_cons_zero, List.set_cons_succ] at hK ⊢
      rw [d59] at hK ⊢
      go_simp
      exact hK (.int .i64 v1) _ (HI.out.val 6 _ rfl (by decide) (by decide) (by decide) (by decide)) _ rfl
    · obtain rfl := Option.some.inj ho.symm
      clear hdep ho hI hT
      try simp only [fill, slotOf, List.size_toArray, List.length_cons, List.length_nil, Nat.reduceAdd, List.getElem?_toArray, List.getElem?_cons_zero, List.getElem?_cons_succ, Option.bind_some, Act.put, List.setIfInBounds_toArray, List.set_cons_zero, List.set_cons_succ] at hK ⊢
      go_simp
      exact hK (.pointer (some ⟨S, 0, none⟩)) _ (HI.out.val 7 _ rfl (by decide) (by decide) (by decide) (by decide)) _ rfl
    · obtain rfl := Option.some.inj ho.symm
      have d79 : V 7 = .pointer (some ⟨S, 0, none⟩) := HI.out.vs 7 _ (hdep ⟨7, .data⟩ (by simp) rfl) rfl
      clear hdep ho hI hT
      try simp only [fill, slotOf, List.size_toArray, List.length_cons, List.length_nil, Nat.reduceAdd, List.getElem?_toArray, List.getElem?_cons_zero, List.getElem?_cons_succ, Option.bind_some, Act.put, List.setIfInBounds_toArray, List.set_cons_zero, List.set_cons_succ] at hK ⊢
      rw [d79] at hK ⊢
      go_simp
      exact hK (.pointer (some ⟨S, 0, none⟩)) _ (HI.out.val 8 _ rfl (by decide) (by decide) (by decide) (by decide)) _ rfl
    · obtain rfl := Option.some.inj ho.symm
      have d89 : V 8 = .pointer (some ⟨S, 0, none⟩) := HI.out.vs 8 _ (hdep ⟨8, .data⟩ (by simp) rfl) rfl
      clear hdep ho hI hT
      try simp only [fill, slotOf, List.size_toArray, List.length_cons, List.length_nil, Nat.reduceAdd, List.getElem?_toArray, List.getElem?_cons_zero, List.getElem?_cons_succ, Option.bind_some, Act.put, List.setIfInBounds_toArray, List.set_cons_zero, List.set_cons_succ] at hK ⊢
      rw [d89] at hK ⊢
      go_simp
      exact hK (.pointer (some ⟨S, 4, none⟩)) _ (HI.out.val 9 _ rfl (by decide) (by decide) (by decide) (by decide)) _ rfl
    · obtain rfl := Option.some.inj ho.symm
      have d99 : V 9 = .pointer (some ⟨S, 4, none⟩) := HI.out.vs 9 _ (hdep ⟨9, .data⟩ (by simp) rfl) rfl
      have u1 : w9.cell? ⟨S, 4, none⟩ = some (.int .i64 now) := (HI.out.bel.cell (p := ⟨S, 4, none⟩) hSl2).trans d4
      clear hdep ho hI hT
      try simp only [fill, slotOf, List.size_toArray, List.length_cons, List.length_nil, Nat.reduceAdd, List.getElem?_toArray, List.getElem?_cons_zero, List.getElem?_cons_succ, Option.bind_some, Act.put, List.setIfInBounds_toArray, List.set_cons_zero, List.set_cons_succ] at hK ⊢
      rw [d99] at hK ⊢
      go_simp
      exact hK (.int .i64 now) _ (HI.out.val 10 _ rfl (by decide) (by decide) (by decide) (by decide)) _ rfl
    · obtain rfl := Option.some.inj ho.symm
      have d09 : V 0 = .string k := HI.out.vs 0 _ (hdep ⟨0, .data⟩ (by simp) rfl) rfl
      have d69 : V 6 = .int .i64 v1 := HI.out.vs 6 _ (hdep ⟨6, .data⟩ (by simp) rfl) rfl
      have d109 : V 10 = .int .i64 now := HI.out.vs 10 _ (hdep ⟨10, .data⟩ (by simp) rfl) rfl
      have t2 : T 2 = true := hdep ⟨2, .data⟩ (by simp) rfl
      obtain ⟨a9, c9, d29⟩ := own_sliceD (HI.out.row t2)
      have HN := Lib.hid (HI.out.op11 hT t2 rfl)
      rw [d29] at HN
      clear hdep ho hI
      try simp only [fill, slotOf, List.size_toArray, List.length_cons, List.length_nil, Nat.reduceAdd, List.getElem?_toArray, List.getElem?_cons_zero, List.getElem?_cons_succ, Option.bind_some, Act.put, List.setIfInBounds_toArray, List.set_cons_zero, List.set_cons_succ] at hK ⊢
      rw [d09, d69, d109, d29] at hK ⊢
      go_simp
      exact hK _ _ HN.out _ rfl
    · obtain rfl := Option.some.inj ho.symm
      have HN := Lib.hid (HI.out.op12 hT rfl)
      clear hdep ho hI
      try simp only [fill, slotOf, List.size_toArray, List.length_cons, List.length_nil, Nat.reduceAdd, List.getElem?_toArray, List.getElem?_cons_zero, List.getElem?_cons_succ, Option.bind_some, Act.put, List.setIfInBounds_toArray, List.set_cons_zero, List.set_cons_succ] at hK ⊢
      go_simp
      exact hK _ _ HN.out _ rfl
    · obtain rfl := Option.some.inj ho.symm
      have t11 : T 11 = true := hdep ⟨11, .data⟩ (by simp) rfl
      have t12 : T 12 = true := hdep ⟨12, .data⟩ (by simp) rfl
      obtain ⟨b9, d129, hb9, hbx⟩ := HI.out.box t12
      rw [hT, if_neg (by decide)] at hbx
      obtain ⟨t2, d119⟩ := HI.out.bld t11
      obtain ⟨a9, c9, d29⟩ := own_sliceD (HI.out.row t2)
      have HG := Lib.hid (grown_rowD w9 b9 #[.string k, V 2, .int .i64 v1, .int .i64 now])
      have HN := Lib.hid (setRow_atD (cs' := #[.string k, V 2, .int .i64 v1, .int .i64 now]) hbx)
      have HO := Lib.hid (fun x => HI.out.op13 hT t11 t12 d129 rfl HG.out HN.out x)
      clear hdep ho hI
      try simp only [fill, slotOf, List.size_toArray, List.length_cons, List.length_nil, Nat.reduceAdd, List.getElem?_toArray, List.getElem?_cons_zero, List.getElem?_cons_succ, Option.bind_some, Act.put, List.setIfInBounds_toArray, List.set_cons_zero, List.set_cons_succ] at hK ⊢
      rw [d119, d129] at hK ⊢
      rw [if_pos (by first | rfl | kernel_rfl)]
      refine wp_store_row 56 (.tmp 7) (.tmp 30) rfl b9 #[.string k, V 2, .int .i64 v1, .int .i64 now] rfl rfl 56 objZv hbx (by kernel_rfl) rfl (by rw [d29]; simp [Value.oneCell']) ?_
      exact hK undef _ (HO.out undef) _ rfl
  · intro T V w9 hI hall
    obtain ⟨b9, d12, hb9, hbx⟩ := hI.box (hall 12 (by decide))
    rw [hall 13 (by decide), if_pos rfl] at hbx
    have t2 := hall 2 (by decide)
    have hrow := hI.row t2
    obtain ⟨ta, tc, e2⟩ := own_sliceD hrow
    rw [e2] at hbx hrow
    have HRW := Lib.hid hrow
    have HBX := Lib.hid hbx
    have HB9 := Lib.hid hI.bel
    have HS9 := Lib.hid (HS2.out.below hI.bel)
    have HB9L := Lib.hid hb9
    have HAT := Lib.hid (dat_any HS9.out k)
    clear hI hall hrow hbx hb9
    simp only [fill, slotOf, List.size_toArray, List.length_cons, List.length_nil, Nat.reduceAdd, List.getElem?_toArray, List.getElem?_cons_zero, List.getElem?_cons_succ, Option.bind_some, Act.put, List.setIfInBounds_toArray, List.set_cons_zero, List.set_cons_succ]
    rw [d12]
    clear d12 e2
    go_wp2_with fail
    refine HAT.out.mono ?_
    rintro e w10 ⟨rfl, rfl⟩
    rcases hfi : σ.objs.findIdx? (fun o => decide (o.key = k)) with _ | i
    · have hAK : atK ({ σ with ver := v1 } : DSto).objs k = -1 := by unfold atK; rw [hfi]
      rw [hAK]
      have hn512 := HNEW.out (show atK σ.objs k = -1 from hAK)
      obtain ⟨l, hl⟩ : ∃ l, l = σ.objs := ⟨_, rfl⟩
      obtain ⟨n, hn⟩ : ∃ n, n = σ.objs.length := ⟨_, rfl⟩
      obtain ⟨oa, hoa⟩ : ∃ oa, oa = σ.oa := ⟨_, rfl⟩
      obtain ⟨oc, hoc⟩ : ∃ oc, oc = σ.oc := ⟨_, rfl⟩
      rw [← hn] at hn512
      have HLN := Lib.hid (show l.length = n from by rw [hl, hn])
      have HF0 := Lib.hid (show l.findIdx? (fun o => decide (o.key = k)) = none from by rw [hl]; exact hfi)
      have HV := Lib.hid (show VecAt DObjS w10 oa n oc l from by rw [hl, hn, hoa, hoc]; exact HS9.out.objs)
      have c0 : w10.cell? ⟨S, 0, none⟩ = some (.slice oa n oc) := by rw [hn, hoa, hoc]; exact cell_blkD HS9.out.blk (i := 0) rfl
      have HLL := Lib.hid hl
      have HN := Lib.hid (And.intro hoa.symm (And.intro hn.symm hoc.symm))
      have HBX10 := Lib.hid (show base ≤ w10.heap.size from Nat.le_trans HBW.out HB9.out.size)
      have HRB10 := Lib.hid ((HB9.out.block R (Array.getElem?_eq_some_iff.1 HRB.out).1).trans HRB.out)
      have hcp := HV.out.cap
      have hcm := HV.out.capm
      clear hfi hAK hl hn hoa hoc
      go_wp2_with fail
      go_loopw [9] (fun s9 wr => ∃ m : Nat, m ≤ n ∧ s9 = .int .i64 (m : Int) ∧ wr = w10 ∧ Hid (∀ j x, j < m → l[j]? = some x → ltK x.key k = true)) (fun s9 _ => n - (intOf s9).toNat)
      case atStart => exact ⟨0, by omega, rfl, rfl, Lib.hid (fun j x hj => by omega)⟩
      case round =>
        obtain ⟨m, hm, rfl, rfl, HPRE⟩ := hrel
        by_cases hin : m < n
        · obtain ⟨b, off, ha, _, _, hc⟩ := HV.out.get hin
          have hgl : l[m]? = some (l.getD m DObjS.z) := getD_some (by rw [HLN.out]; exact hin)
          obtain ⟨x, hx⟩ : ∃ x, x = l.getD m DObjS.z := ⟨_, rfl⟩
          rw [← hx] at hc hgl
          obtain ⟨q, hq⟩ : ∃ q, q = x.key := ⟨_, rfl⟩
          have k0 : wr.cell? ⟨b, off + m * 4, none⟩ = some (.string q) := hc 0 _ (by rw [hq]; rfl)
          have HGL := Lib.hid hgl
          have HQ := Lib.hid hq
          have zi : (m : Int) < (n : Int) := by omega
          have zi0 : (0 : Int) ≤ (m : Int) := by omega
          have wi : IntKind.i64.wrap ((m : Int) + 1) = (m : Int) + 1 := IntWalk.i64_in _ (by omega)
          subst ha
          clear hc hx hgl hq
          cases hlt : Op.bytesLess q.toList k.toList with
          | true =>
            have HP2 := Lib.hid (show ∀ j y, j < m + 1 → l[j]? = some y → ltK y.key k = true from fun j y hj hy => by
              rcases Nat.lt_or_ge j m with g | g
              · exact HPRE.out j y g hy
              · obtain rfl : j = m := by omega
                rw [HGL.out] at hy
                cases hy
                unfold ltK
                rw [← HQ.out]
                exact hlt)
            go_wp2_with fail
            go_roundw
            case rel => exact ⟨m + 1, by omega, by push_cast; rfl, trivial, HP2⟩
            case measure => simp only [intOf]; omega
          | false =>
            have HEND := Lib.hid (show ∀ y, l[m]? = some y → ltK y.key k = false from fun y hy => by
              rw [HGL.out] at hy
              cases hy
              unfold ltK
              rw [← HQ.out]
              exact hlt)
            clear HGL HQ
            go_upto_region 9 with fail
            have hst := to_dob (some ⟨b, off, none⟩) n oc m (by omega)
            have hsf := from_dob (some ⟨b, off, none⟩) n oc m (by omega)
            obtain ⟨a5, ha5⟩ : ∃ a5, a5 = (if oc = m then ((some ⟨b, off, none⟩) : Option Addr) else ((some ⟨b, off, none⟩) : Option Addr).map (·.add (m * 4))) := ⟨_, rfl⟩
            rw [← ha5] at hsf
            have HA5 := Lib.hid ha5
            clear ha5
            have HB5 := Lib.hid (show Below wr.heap.size wr (wr.alloc (.cells #[] 56)) from (Below.refl _ _).alloc (Nat.le_refl _) _)
            have HO5 := Lib.hid (show (wr.alloc (.cells #[] 56)).ownsRow wr.heap.size 56 4 (.slice (some ⟨wr.heap.size, 0, none⟩) 0 0) 0 (DObjS.flat []) from World.ownsRow_lit (base := wr.heap.size) (e := 56) (size := 4) wr #[] 0 (Nat.le_refl _) (by unfold maxLen; omega) rfl)
            have HV5 := Lib.hid (vec_takeS (HV.out.kept HB5.out) hm)
            have e0 := cell_blkD ((HB5.out.block S (Array.getElem?_eq_some_iff.1 HS9.out.blk).1).trans HS9.out.blk) (i := 0) (u := .slice σ.oa σ.objs.length σ.oc) rfl
            rw [HN.out.1, HN.out.2.1, HN.out.2.2] at e0
            go_wp2_with (at_builtin; refine wpList_append_dob rfl (.tmp 64) (.tmp 70) rfl wr.heap.size _ _ [] rfl HO5.out _ _ _ (l.take m) rfl HV5.out (by omega) HB5.out.size ?_)
            intro v6 w6 ho6 hg6
            have HB6 := Lib.hid (HB5.out.grown hg6 HB5.out.size (fun k hk => (HO5.out.lt k hk).1))
            have HO6 := Lib.hid (show w6.ownsRow wr.heap.size 56 4 v6 m (DObjS.flat (l.take m)) by simpa using ho6)
            have hk6 := (HB6.out.block b9 (Array.getElem?_eq_some_iff.1 HBX.out).1).trans HBX.out
            have x0 := cell_blkD hk6 (i := 0) (u := .string k) rfl
            have x1 := cell_blkD hk6 (i := 1) (u := .slice ta dn tc) rfl
            have x2 := cell_blkD hk6 (i := 2) (u := .int .i64 v1) rfl
            have x3 := cell_blkD hk6 (i := 3) (u := .int .i64 now) rfl
            have hb7 : Below w6.heap.size w6 (w6.alloc (.cells #[.string k, .slice ta dn tc, .int .i64 v1, .int .i64 now] 56)) := (Below.refl _ _).alloc (Nat.le_refl _) _
            have HO7 := Lib.hid (own_below HO6.out hb7)
            have HB7 := Lib.hid (HB6.out.trans (hb7.mono HB6.out.size))
            have HV7 := Lib.hid (vec_oneS DObjS w6 (⟨k, ta, dn, tc, data, v1, now⟩ : DObj) (fun _ => trivial) 56 (cs := #[.string k, .slice ta dn tc, .int .i64 v1, .int .i64 now]) rfl)
            clear ho6 hg6 hk6 hb7 HO5 HB5 HV5 e0
            go_wp2_with (at_builtin; refine wpList_append_dob rfl (.tmp 72) (.tmp 74) rfl wr.heap.size _ _ (l.take m) rfl HO7.out _ _ _ [(⟨k, ta, dn, tc, data, v1, now⟩ : DObj)] rfl HV7.out (by omega) HB7.out.size ?_)
            intro v8 w8 ho8 hg8
            have HB8 := Lib.hid (HB7.out.grown hg8 HB7.out.size (fun k hk => (HO7.out.lt k hk).1))
            have HO8 := Lib.hid ho8
            have HV8 := Lib.hid (show VecAt DObjS w8 a5 (n - m) (oc - m) (l.drop m) from by rw [HA5.out]; exact vec_dropS (S := DObjS) (HV.out.kept HB8.out) hm)
            have HS8 := Lib.hid (HS9.out.below HB8.out)
            have e0 := cell_blkD HS8.out.blk (i := 0) (u := .slice σ.oa σ.objs.length σ.oc) rfl
            rw [HN.out.1, HN.out.2.1, HN.out.2.2] at e0
            clear ho8 hg8 x0 x1 x2 x3 HO7 HB7 HV7 HO6 HB6
            go_wp2_with (at_builtin; refine wpList_append_dob rfl (.tmp 77) (.tmp 83) rfl wr.heap.size _ _ (l.take m ++ [(⟨k, ta, dn, tc, data, v1, now⟩ : DObj)]) rfl HO8.out _ _ _ (l.drop m) rfl HV8.out (by omega) HB8.out.size ?_)
            intro v9 wx ho9 hg9
            have HB9x := Lib.hid (HB8.out.grown hg9 HB8.out.size (fun k hk => (HO8.out.lt k hk).1))
            obtain ⟨a9, c9, rfl⟩ := own_sliceD ho9
            rw [show m + 1 + (n - m) = n + 1 from by omega] at ho9
            rw [show m + 1 + (n - m) = n + 1 from by omega]
            have HSX := Lib.hid (HS9.out.below HB9x.out)
            have e1 := cell_blkD HSX.out.blk (i := 0) (u := .slice σ.oa σ.objs.length σ.oc) rfl
            have f1 := frz_blkD HSX.out.blk 0
            have hPL := putL_new (o := (⟨k, ta, dn, tc, data, v1, now⟩ : DObj)) HF0.out (m := m) (by rw [HLN.out]; exact hm) HPRE.out HEND.out
            have hRWx := own_below HRW.out HB9x.out
            have hDST := HSX.out.objsLaid (a := a9) (c := c9) (N := n + 1) (os := putL l (⟨k, ta, dn, tc, data, v1, now⟩ : DObj)) (own_baseD (by rw [hPL]; simpa using ho9) HBX10.out) (by rw [hPL, List.length_append, List.length_append, List.length_take, List.length_drop, HLN.out, List.length_singleton]; omega) (fun o ho => by
              rcases putL_mem ho with g | g
              · exact HSX.out.obj o (by exact HLL.out ▸ g)
              · rw [g]; exact ⟨own_baseD hRWx HBW.out, HD2.out.byte, HD2.out.len, hdn⟩) (by rw [hPL, List.length_append, List.length_append, List.length_take, List.length_drop, HLN.out, List.length_singleton]; omega)
            obtain ⟨WN, hWN⟩ : ∃ WN, WN = wx.setCell ⟨S, 0, none⟩ (.slice a9 (n + 1) c9) := ⟨_, rfl⟩
            rw [← hWN] at hDST
            have HFN := Lib.hid (show Frm (DFo S σ) w WN from by rw [hWN]; exact (((HFR.out.below HB9.out).below HB9x.out).set (.inl (.inl rfl)) _ _))
            have HSN := Lib.hid (show Frm (fun b => b = S) wx WN from by rw [hWN]; exact (Frm.refl (fun b => b = S) wx).set (.inl rfl) _ _)
            have HBXN := Lib.hid (HSN.out.at ((HB9x.out.block b9 (Array.getElem?_eq_some_iff.1 HBX.out).1).trans HBX.out) (fun e => by have h1 := HBX.out; rw [e, HS9.out.blk] at h1; simp at h1))
            have HRBN := Lib.hid (HSN.out.at ((HB9x.out.block R (Array.getElem?_eq_some_iff.1 HRB10.out).1).trans HRB10.out) (fun e => by have h1 := HRB10.out; rw [e, HS9.out.blk] at h1; simp at h1))
            have HSTN := Lib.hid (show DStAt WN S base { σ with oa := a9, oc := c9, objs := putL σ.objs (⟨k, ta, dn, tc, data, v1, now⟩ : DObj), ver := v1 } from by rw [← HLL.out]; exact hDST)
            clear ho9 hg9 hst hsf HB8 HO8 HV8 HB9x hPL hRWx hDST e0
            go_upto_region 12 with fail
            rw [← hWN]
            clear hWN e1 f1
            have p2 := cell_blkD HBXN.out (i := 2) (u := .int .i64 v1) rfl
            have p3 := cell_blkD HBXN.out (i := 3) (u := .int .i64 now) rfl
            obtain ⟨⟨q0, q1, q2, q3, q4, q5, q6⟩, r0, r1, r2, r3, r4, r5, r6⟩ := rb_cells HRBN.out
            go_wp2_with fail
            clear p2 p3 q0 q1 q2 q3 q4 q5 q6 r0 r1 r2 r3 r4 r5 r6
            obtain ⟨W5, hW5⟩ : ∃ W5, W5 = setR WN R (.int .i64 0) (.slice none 0 0) (.int .i64 v1) (.int .i64 now) (.int .i64 0) (.slice none 0 0) (.bool false) := ⟨_, rfl⟩
            have hr5 := setR_at0 HRBN.out (.int .i64 0) (.slice none 0 0) (.int .i64 v1) (.int .i64 now) (.int .i64 0) (.slice none 0 0) (.bool false)
            have hF5 := (Frm.refl (fun b => b = R) WN).setR (R := R) (.inl rfl) (.int .i64 0) (.slice none 0 0) (.int .i64 v1) (.int .i64 now) (.int .i64 0) (.slice none 0 0) (.bool false)
            rw [← hW5] at hr5 hF5
            unfold setR at hW5
            rw [← hW5]
            obtain ⟨hv1, hnow⟩ := HVN.out
            have hfin := put_done HSTN.out HRBN.out (Nat.le_of_eq HE.out.2.2.symm) HFN.out hF5
            subst hv1 hnow
            exact bodyPost_ret (ret_rep rfl _ _ R rfl hr5) rfl ⟨rfl, _, _, _, _, hfin.1, hfin.2, fun b hb => Nat.le_trans HFR.out.size (own_blk_lt HRW.out hb).1⟩
        · have HEND := Lib.hid (show ∀ y, l[m]? = some y → ltK y.key k = false from fun y hy => by have h1 := (List.getElem?_eq_some_iff.1 hy).1; rw [HLN.out] at h1; omega)
          have zi : ¬ (m : Int) < (n : Int) := by omega
          go_upto_region 9 with fail
          have hst := to_dob oa n oc m (by omega)
          have hsf := from_dob oa n oc m (by omega)
          obtain ⟨a5, ha5⟩ : ∃ a5, a5 = (if oc = m then (oa : Option Addr) else (oa : Option Addr).map (·.add (m * 4))) := ⟨_, rfl⟩
          rw [← ha5] at hsf
          have HA5 := Lib.hid ha5
          clear ha5
          have HB5 := Lib.hid (show Below wr.heap.size wr (wr.alloc (.cells #[] 56)) from (Below.refl _ _).alloc (Nat.le_refl _) _)
          have HO5 := Lib.hid (show (wr.alloc (.cells #[] 56)).ownsRow wr.heap.size 56 4 (.slice (some ⟨wr.heap.size, 0, none⟩) 0 0) 0 (DObjS.flat []) from World.ownsRow_lit (base := wr.heap.size) (e := 56) (size := 4) wr #[] 0 (Nat.le_refl _) (by unfold maxLen; omega) rfl)
          have HV5 := Lib.hid (vec_takeS (HV.out.kept HB5.out) hm)
          have e0 := cell_blkD ((HB5.out.block S (Array.getElem?_eq_some_iff.1 HS9.out.blk).1).trans HS9.out.blk) (i := 0) (u := .slice σ.oa σ.objs.length σ.oc) rfl
          rw [HN.out.1, HN.out.2.1, HN.out.2.2] at e0
          go_wp2_with (at_builtin; refine wpList_append_dob rfl (.tmp 64) (.tmp 70) rfl wr.heap.size _ _ [] rfl HO5.out _ _ _ (l.take m) rfl HV5.out (by omega) HB5.out.size ?_)
          intro v6 w6 ho6 hg6
          have HB6 := Lib.hid (HB5.out.grown hg6 HB5.out.size (fun k hk => (HO5.out.lt k hk).1))
          have HO6 := Lib.hid (show w6.ownsRow wr.heap.size 56 4 v6 m (DObjS.flat (l.take m)) by simpa using ho6)
          have hk6 := (HB6.out.block b9 (Array.getElem?_eq_some_iff.1 HBX.out).1).trans HBX.out
          have x0 := cell_blkD hk6 (i := 0) (u := .string k) rfl
          have x1 := cell_blkD hk6 (i := 1) (u := .slice ta dn tc) rfl
          have x2 := cell_blkD hk6 (i := 2) (u := .int .i64 v1) rfl
          have x3 := cell_blkD hk6 (i := 3) (u := .int .i64 now) rfl
          have hb7 : Below w6.heap.size w6 (w6.alloc (.cells #[.string k, .slice ta dn tc, .int .i64 v1, .int .i64 now] 56)) := (Below.refl _ _).alloc (Nat.le_refl _) _
          have HO7 := Lib.hid (own_below HO6.out hb7)
          have HB7 := Lib.hid (HB6.out.trans (hb7.mono HB6.out.size))
          have HV7 := Lib.hid (vec_oneS DObjS w6 (⟨k, ta, dn, tc, data, v1, now⟩ : DObj) (fun _ => trivial) 56 (cs := #[.string k, .slice ta dn tc, .int .i64 v1, .int .i64 now]) rfl)
          clear ho6 hg6 hk6 hb7 HO5 HB5 HV5 e0
          go_wp2_with (at_builtin; refine wpList_append_dob rfl (.tmp 72) (.tmp 74) rfl wr.heap.size _ _ (l.take m) rfl HO7.out _ _ _ [(⟨k, ta, dn, tc, data, v1, now⟩ : DObj)] rfl HV7.out (by omega) HB7.out.size ?_)
          intro v8 w8 ho8 hg8
          have HB8 := Lib.hid (HB7.out.grown hg8 HB7.out.size (fun k hk => (HO7.out.lt k hk).1))
          have HO8 := Lib.hid ho8
          have HV8 := Lib.hid (show VecAt DObjS w8 a5 (n - m) (oc - m) (l.drop m) from by rw [HA5.out]; exact vec_dropS (S := DObjS) (HV.out.kept HB8.out) hm)
          have HS8 := Lib.hid (HS9.out.below HB8.out)
          have e0 := cell_blkD HS8.out.blk (i := 0) (u := .slice σ.oa σ.objs.length σ.oc) rfl
          rw [HN.out.1, HN.out.2.1, HN.out.2.2] at e0
          clear ho8 hg8 x0 x1 x2 x3 HO7 HB7 HV7 HO6 HB6
          go_wp2_with (at_builtin; refine wpList_append_dob rfl (.tmp 77) (.tmp 83) rfl wr.heap.size _ _ (l.take m ++ [(⟨k, ta, dn, tc, data, v1, now⟩ : DObj)]) rfl HO8.out _ _ _ (l.drop m) rfl HV8.out (by omega) HB8.out.size ?_)
          intro v9 wx ho9 hg9
          have HB9x := Lib.hid (HB8.out.grown hg9 HB8.out.size (fun k hk => (HO8.out.lt k hk).1))
          obtain ⟨a9, c9, rfl⟩ := own_sliceD ho9
          rw [show m + 1 + (n - m) = n + 1 from by omega] at ho9
          rw [show m + 1 + (n - m) = n + 1 from by omega]
          have HSX := Lib.hid (HS9.out.below HB9x.out)
          have e1 := cell_blkD HSX.out.blk (i := 0) (u := .slice σ.oa σ.objs.length σ.oc) rfl
          have f1 := frz_blkD HSX.out.blk 0
          have hPL := putL_new (o := (⟨k, ta, dn, tc, data, v1, now⟩ : DObj)) HF0.out (m := m) (by rw [HLN.out]; exact hm) HPRE.out HEND.out
          have hRWx := own_below HRW.out HB9x.out
          have hDST := HSX.out.objsLaid (a := a9) (c := c9) (N := n + 1) (os := putL l (⟨k, ta, dn, tc, data, v1, now⟩ : DObj)) (own_baseD (by rw [hPL]; simpa using ho9) HBX10.out) (by rw [hPL, List.length_append, List.length_append, List.length_take, List.length_drop, HLN.out, List.length_singleton]; omega) (fun o ho => by
            rcases putL_mem ho with g | g
            · exact HSX.out.obj o (by exact HLL.out ▸ g)
            · rw [g]; exact ⟨own_baseD hRWx HBW.out, HD2.out.byte, HD2.out.len, hdn⟩) (by rw [hPL, List.length_append, List.length_append, List.length_take, List.length_drop, HLN.out, List.length_singleton]; omega)
          obtain ⟨WN, hWN⟩ : ∃ WN, WN = wx.setCell ⟨S, 0, none⟩ (.slice a9 (n + 1) c9) := ⟨_, rfl⟩
          rw [← hWN] at hDST
          have HFN := Lib.hid (show Frm (DFo S σ) w WN from by rw [hWN]; exact (((HFR.out.below HB9.out).below HB9x.out).set (.inl (.inl rfl)) _ _))
          have HSN := Lib.hid (show Frm (fun b => b = S) wx WN from by rw [hWN]; exact (Frm.refl (fun b => b = S) wx).set (.inl rfl) _ _)
          have HBXN := Lib.hid (HSN.out.at ((HB9x.out.block b9 (Array.getElem?_eq_some_iff.1 HBX.out).1).trans HBX.out) (fun e => by have h1 := HBX.out; rw [e, HS9.out.blk] at h1; simp at h1))
          have HRBN := Lib.hid (HSN.out.at ((HB9x.out.block R (Array.getElem?_eq_some_iff.1 HRB10.out).1).trans HRB10.out) (fun e => by have h1 := HRB10.out; rw [e, HS9.out.blk] at h1; simp at h1))
          have HSTN := Lib.hid (show DStAt WN S base { σ with oa := a9, oc := c9, objs := putL σ.objs (⟨k, ta, dn, tc, data, v1, now⟩ : DObj), ver := v1 } from by rw [← HLL.out]; exact hDST)
          clear ho9 hg9 hst hsf HB8 HO8 HV8 HB9x hPL hRWx hDST e0
          go_upto_region 12 with fail
          rw [← hWN]
          clear hWN e1 f1
          have p2 := cell_blkD HBXN.out (i := 2) (u := .int .i64 v1) rfl
          have p3 := cell_blkD HBXN.out (i := 3) (u := .int .i64 now) rfl
          obtain ⟨⟨q0, q1, q2, q3, q4, q5, q6⟩, r0, r1, r2, r3, r4, r5, r6⟩ := rb_cells HRBN.out
          go_wp2_with fail
          clear p2 p3 q0 q1 q2 q3 q4 q5 q6 r0 r1 r2 r3 r4 r5 r6
          obtain ⟨W5, hW5⟩ : ∃ W5, W5 = setR WN R (.int .i64 0) (.slice none 0 0) (.int .i64 v1) (.int .i64 now) (.int .i64 0) (.slice none 0 0) (.bool false) := ⟨_, rfl⟩
          have hr5 := setR_at0 HRBN.out (.int .i64 0) (.slice none 0 0) (.int .i64 v1) (.int .i64 now) (.int .i64 0) (.slice none 0 0) (.bool false)
          have hF5 := (Frm.refl (fun b => b = R) WN).setR (R := R) (.inl rfl) (.int .i64 0) (.slice none 0 0) (.int .i64 v1) (.int .i64 now) (.int .i64 0) (.slice none 0 0) (.bool false)
          rw [← hW5] at hr5 hF5
          unfold setR at hW5
          rw [← hW5]
          obtain ⟨hv1, hnow⟩ := HVN.out
          have hfin := put_done HSTN.out HRBN.out (Nat.le_of_eq HE.out.2.2.symm) HFN.out hF5
          subst hv1 hnow
          exact bodyPost_ret (ret_rep rfl _ _ R rfl hr5) rfl ⟨rfl, _, _, _, _, hfin.1, hfin.2, fun b hb => Nat.le_trans HFR.out.size (own_blk_lt HRW.out hb).1⟩
    · have hAK : atK ({ σ with ver := v1 } : DSto).objs k = (i : Int) := by unfold atK; rw [hfi]
      rw [hAK]
      have hil : i < σ.objs.length := (List.findIdx?_eq_some_iff_getElem.1 hfi).1
      obtain ⟨g, cur, hoa, hgb, hgk, hcs⟩ := HS9.out.orow_parts (Nat.lt_of_le_of_lt (Nat.zero_le _) hil)
      obtain ⟨n, hn⟩ : ∃ n, n = σ.objs.length := ⟨_, rfl⟩
      obtain ⟨oc, hoc⟩ : ∃ oc, oc = σ.oc := ⟨_, rfl⟩
      have c0 : w10.cell? ⟨S, 0, none⟩ = some (.slice (some ⟨g, 0, none⟩) n oc) := by rw [hn, hoc, ← hoa]; exact cell_blkD HS9.out.blk (i := 0) rfl
      have x0 := cell_blkD HBX.out (i := 0) (u := .string k) rfl
      have x1 := cell_blkD HBX.out (i := 1) (u := .slice ta dn tc) rfl
      have x2 := cell_blkD HBX.out (i := 2) (u := .int .i64 v1) rfl
      have x3 := cell_blkD HBX.out (i := 3) (u := .int .i64 now) rfl
      have y0 := frz_blkD hgk (i * 4)
      have y1 := frz_blkD hgk (i * 4 + 1)
      have y2 := frz_blkD hgk (i * 4 + 2)
      have y3 := frz_blkD hgk (i * 4 + 3)
      obtain ⟨cq0, cq1, cq2, cq3⟩ : (∃ q, w10.cell? ⟨g, i * 4, none⟩ = some (.string q)) ∧ (∃ a d c, w10.cell? ⟨g, i * 4 + 1, none⟩ = some (.slice a d c)) ∧ (∃ z, w10.cell? ⟨g, i * 4 + 2, none⟩ = some (.int .i64 z)) ∧ (∃ z, w10.cell? ⟨g, i * 4 + 3, none⟩ = some (.int .i64 z)) := HS9.out.obj_cells hoa hil
      obtain ⟨q0, z0⟩ := cq0
      obtain ⟨qa, qd, qc, z1⟩ := cq1
      obtain ⟨q2, z2⟩ := cq2
      obtain ⟨q3, z3⟩ := cq3
      have zi : (i : Int) < (n : Int) := by rw [hn]; omega
      have zi0 : (0 : Int) ≤ (i : Int) := by omega
      have HN := Lib.hid (And.intro hn (And.intro hoc (And.intro hil (And.intro hfi (And.intro hoa (And.intro hgk hcs))))))
      clear hn hoc hil hfi hoa hgk hcs hAK
      go_upto_region 5 with fail
      go_region
      obtain ⟨WN, hWN⟩ : ∃ WN, WN = ((((w10.setCell ⟨g, i * 4, none⟩ (.string k)).setCell ⟨g, i * 4 + 1, none⟩ (.slice ta dn tc)).setCell ⟨g, i * 4 + 2, none⟩ (.int .i64 v1)).setCell ⟨g, i * 4 + 3, none⟩ (.int .i64 now)).drew := ⟨_, rfl⟩
      rw [← hWN]
      obtain ⟨hn, hoc, hil, hfi, hoa, hgk, hcs⟩ := HN.out
      have hDST := HS9.out.inPlace (w' := WN) hoa hgk hil (o := ⟨k, ta, dn, tc, data, v1, now⟩) HRW.out HBW.out HD2.out.byte HD2.out.len hdn (by rw [hWN]; rfl)
      have hPL : putL σ.objs (⟨k, ta, dn, tc, data, v1, now⟩ : DObj) = σ.objs.set i ⟨k, ta, dn, tc, data, v1, now⟩ := putL_old hfi
      have HSTN := Lib.hid (show DStAt WN S base { σ with ver := v1, objs := putL σ.objs ⟨k, ta, dn, tc, data, v1, now⟩ } from by rw [hPL]; exact hDST)
      have hFg : ∀ {F : Nat → Prop} {a : World}, Frm F a w10 → (F g ∨ a.heap.size ≤ g) → Frm F a WN := fun {F a} h0 hp => by rw [hWN]; exact ((((h0.set hp _ _).set hp _ _).set hp _ _).set hp _ _).drew
      have HFN := Lib.hid (hFg (HFR.out.below HB9.out) (.inl (.inr (by rw [show σ.oa = some ⟨g, 0, none⟩ from hoa]; rfl))))
      have HSN := Lib.hid (hFg (Frm.refl (fun b => b = g) w10) (.inl rfl))
      have HRB10 := Lib.hid ((HB9.out.block R (Array.getElem?_eq_some_iff.1 HRB.out).1).trans HRB.out)
      have HBXN := Lib.hid (HSN.out.at HBX.out (fun e => by have h1 := HB9L.out; have h2 := (own_blk_lt HS2.out.orow (b := g) (by rw [show σ.oa = some ⟨g, 0, none⟩ from hoa]; rfl)).2; omega))
      have HRBN := Lib.hid (HSN.out.at HRB10.out (fun e => by have h1 := HRB10.out; rw [e, hgk] at h1; simp at h1))
      clear hn hoc hil hfi hoa hgk hcs hDST hPL hFg hWN c0 x0 x1 x2 x3 y0 y1 y2 y3 z0 z1 z2 z3
      have p2 := cell_blkD HBXN.out (i := 2) (u := .int .i64 v1) rfl
      have p3 := cell_blkD HBXN.out (i := 3) (u := .int .i64 now) rfl
      obtain ⟨⟨q0, q1, q2, q3, q4, q5, q6⟩, r0, r1, r2, r3, r4, r5, r6⟩ := rb_cells HRBN.out
      go_wp2_with fail
      clear p2 p3 q0 q1 q2 q3 q4 q5 q6 r0 r1 r2 r3 r4 r5 r6
      obtain ⟨W5, hW5⟩ : ∃ W5, W5 = setR WN R (.int .i64 0) (.slice none 0 0) (.int .i64 v1) (.int .i64 now) (.int .i64 0) (.slice none 0 0) (.bool false) := ⟨_, rfl⟩
      have hr5 := setR_at0 HRBN.out (.int .i64 0) (.slice none 0 0) (.int .i64 v1) (.int .i64 now) (.int .i64 0) (.slice none 0 0) (.bool false)
      have hF5 := (Frm.refl (fun b => b = R) WN).setR (R := R) (.inl rfl) (.int .i64 0) (.slice none 0 0) (.int .i64 v1) (.int .i64 now) (.int .i64 0) (.slice none 0 0) (.bool false)
      rw [← hW5] at hr5 hF5
      unfold setR at hW5
      rw [← hW5]
      obtain ⟨hv1, hnow⟩ := HVN.out
      have hfin := put_done HSTN.out HRBN.out (Nat.le_of_eq HE.out.2.2.symm) HFN.out hF5
      subst hv1 hnow
      exact bodyPost_ret (ret_rep rfl _ _ R rfl hr5) rfl ⟨rfl, _, _, _, _, hfin.1, hfin.2, fun b hb => Nat.le_trans HFR.out.size (own_blk_lt HRW.out hb).1⟩
end Go.Proofs.Ytodoklnohedolaa
end PkUC3_3
section PkUC3_4
/- isKey, walked: a range over a text. -/
namespace Go.Proofs.Ytodoklnohedolaa
open Go.RowKit
set_option linter.unusedVariables false

theorem key_bad {s : ByteArray} {pos : Nat} (h : pos < s.size) (hb : okB (s[pos]'h) = false) : isKeyB s = false := by
  unfold isKeyB
  rw [Bool.and_eq_false_iff]
  right
  rw [Bool.eq_false_iff]
  intro hall
  have h2 := List.all_eq_true.1 hall (s[pos]'h) (by
    have : s[pos]'h = s.data.toList[pos]'(by simpa using h) := rfl
    rw [this]
    exact List.getElem_mem _)
  rw [h2] at hb; cases hb
theorem key_snoc {s : ByteArray} {pos : Nat} (h : pos < s.size) (ha : (s.data.toList.take pos).all okB = true) (hb : okB (s[pos]'h) = true) : (s.data.toList.take (pos + 1)).all okB = true := by
  rw [List.take_succ_eq_append_getElem (by simpa using h), List.all_append, ha]
  have : s.data.toList[pos]'(by simpa using h) = s[pos]'h := rfl
  simp [this, hb]
theorem byte_lt (s : ByteArray) (pos : Nat) (h : pos < s.size) : (s[pos]'h).toNat < 256 := (s[pos]'h).toNat_lt
set_option maxRecDepth 100000 in
set_option maxHeartbeats 2000000 in
theorem isKey_any (s : ByteArray) (w : World) :
    Calls Try.prog 58 #[.string s] w fun e w' => e = .returned (.bool (isKeyB s)) ∧ Below w.heap.size w w' := by
  by_cases h1 : s.size < 1
  case pos =>
    have z1 : (s.size : Int) < 1 := by omega
    have HR := Lib.hid (show isKeyB s = false from by unfold isKeyB; rw [decide_eq_false (by omega)]; rfl)
    clear h1
    go_enter Try.func58, Try.ntmps58
    go_wp2_with fail
    go_ret
    rw [HR.out]
    exact ⟨rfl, Below.refl _ _⟩
  have z1 : ¬ (s.size : Int) < 1 := by omega
  have z1b : decide ((s.size : Int) < 1) = false := decide_eq_false z1
  by_cases h2 : 40 < s.size
  case pos =>
    have z2 : (40 : Int) < (s.size : Int) := by omega
    have HR := Lib.hid (show isKeyB s = false from by unfold isKeyB; rw [decide_eq_false (show ¬ s.size ≤ 40 by omega)]; simp)
    clear h1 h2
    go_enter Try.func58, Try.ntmps58
    go_wp2_with fail
    go_ret
    rw [HR.out]
    exact ⟨rfl, Below.refl _ _⟩
  have z2 : ¬ (40 : Int) < (s.size : Int) := by omega
  have z2b : decide ((40 : Int) < (s.size : Int)) = false := decide_eq_false z2
  have HS1 := Lib.hid h1
  have HS2 := Lib.hid h2
  clear h1 h2
  go_enter Try.func58, Try.ntmps58
  go_wp2_with fail
  go_loopw [4] (fun s4 wr => ∃ pos : Nat, pos ≤ s.size ∧ wr = w.iter s pos ∧ Hid ((s.data.toList.take pos).all okB = true)) (fun _ wr => s.size - wr.iterPos w.heap.size)
  case atStart => exact ⟨0, by omega, rfl, Lib.hid rfl⟩
  case round =>
    obtain ⟨pos, hpos, rfl, HA⟩ := hrel
    have HB := Lib.hid (show ∀ p, Below w.heap.size w (w.iter s p) from fun p => (Below.refl _ _).alloc (Nat.le_refl _) _)
    by_cases hp : pos < s.size
    case neg =>
      have hnx := fun ty => run_next_end (P := Try.prog) w s pos ty hp
      have HR := Lib.hid (show isKeyB s = true from by
        unfold isKeyB
        have h3 := HA.out
        have h9 : s.data.toList.length = s.size := by simp
        rw [show pos = s.data.toList.length from by omega, List.take_length] at h3
        have := HS1.out
        have := HS2.out
        rw [h3, decide_eq_true (show 1 ≤ s.size by omega), decide_eq_true (show s.size ≤ 40 by omega)]
        rfl)
      go_wp2_with fail
      go_ret
      rw [HR.out]
      exact ⟨rfl, HB.out _⟩
    case pos =>
      by_cases hb : (s[pos]'hp).toNat < 128
      case pos =>
        have hnx := fun ty => run_next_ascii (P := Try.prog) w s pos ty hp hb
        have HI := Lib.hid (World.iterPos_iter w s pos)
        have HJ := Lib.hid (World.iterPos_iter w s (pos + 1))
        obtain ⟨b, hbb⟩ : ∃ b : Nat, b = (s[pos]'hp).toNat := ⟨_, rfl⟩
        by_cases hok : okB (s[pos]'hp) = true
        case pos =>
          have HN := Lib.hid (key_snoc hp HA.out hok)
          have hok2 : 33 ≤ b ∧ b ≤ 126 := by unfold okB at hok; rw [hbb]; simpa using hok
          have y1 : ¬ (b : Int) < 33 := by omega
          have y2 : ¬ (126 : Int) < (b : Int) := by omega
          have y1b : decide ((b : Int) < 33) = false := decide_eq_false y1
          have y2b : decide ((126 : Int) < (b : Int)) = false := decide_eq_false y2
          rw [← hbb] at hnx
          clear hbb hok hb HA
          go_wp2_with fail
          go_roundw
          case rel => exact ⟨pos + 1, by omega, rfl, HN⟩
          case measure => rw [HI.out, HJ.out]; omega
        case neg =>
          have HR := Lib.hid (key_bad hp (by simpa using hok))
          have hok2 : b < 33 ∨ 126 < b := by
            have h3 : okB (s[pos]'hp) = false := by simpa using hok
            unfold okB at h3
            rw [hbb]
            simp at h3
            omega
          rw [← hbb] at hnx
          clear hbb hok hb HA
          rcases hok2 with g | g
          · have y1 : (b : Int) < 33 := by omega
            have y1b : decide ((b : Int) < 33) = true := decide_eq_true y1
            go_wp2_with fail
            go_ret
            rw [HR.out]
            exact ⟨rfl, HB.out _⟩
          · have y1 : ¬ (b : Int) < 33 := by omega
            have y1b : decide ((b : Int) < 33) = false := decide_eq_false y1
            have y2 : (126 : Int) < (b : Int) := by omega
            have y2b : decide ((126 : Int) < (b : Int)) = true := decide_eq_true y2
            go_wp2_with fail
            go_ret
            rw [HR.out]
            exact ⟨rfl, HB.out _⟩
      case neg =>
        have hnx := fun ty => run_next_any (P := Try.prog) w s pos ty hp
        have hd := (decode_high s pos hp (by omega)).1
        have HR := Lib.hid (key_bad hp (by unfold okB; rw [decide_eq_false (show ¬ (s[pos]'hp).toNat ≤ 126 by omega)]; simp))
        obtain ⟨r, hr⟩ : ∃ r : Nat, r = (Utf8.decode s pos).1 := ⟨_, rfl⟩
        rw [← hr] at hnx hd
        have y1 : ¬ (r : Int) < 33 := by omega
        have y1b : decide ((r : Int) < 33) = false := decide_eq_false y1
        have y2 : (126 : Int) < (r : Int) := by omega
        have y2b : decide ((126 : Int) < (r : Int)) = true := decide_eq_true y2
        clear hr HA hb
        go_wp2_with fail
        go_ret
        rw [HR.out]
        exact ⟨rfl, HB.out _⟩
end Go.Proofs.Ytodoklnohedolaa
end PkUC3_4
section PkUC3_5
/- The document's Key, walked: the program's isKey. -/
namespace Go.Proofs.Ytodoklnohedolaa
open Go.RowKit
set_option linter.unusedVariables false

set_option maxRecDepth 100000 in
set_option maxHeartbeats 2000000 in
theorem dkey_any (s : ByteArray) (w : World) :
    Calls Try.prog 41 #[.string s] w fun e w' => e = .returned (.bool (isKeyB s)) ∧ w' = w := by
  by_cases h1 : s.size < 1
  case pos =>
    have z1 : (s.size : Int) < 1 := by omega
    have HR := Lib.hid (show isKeyB s = false from by unfold isKeyB; rw [decide_eq_false (by omega)]; rfl)
    clear h1
    go_enter Try.func41, Try.ntmps41
    go_wp2_with fail
    go_ret
    rw [HR.out]
    exact ⟨rfl, rfl⟩
  have z1 : ¬ (s.size : Int) < 1 := by omega
  have z1b : decide ((s.size : Int) < 1) = false := decide_eq_false z1
  by_cases h2 : 40 < s.size
  case pos =>
    have z2 : (40 : Int) < (s.size : Int) := by omega
    have HR := Lib.hid (show isKeyB s = false from by unfold isKeyB; rw [decide_eq_false (show ¬ s.size ≤ 40 by omega)]; simp)
    clear h1 h2
    go_enter Try.func41, Try.ntmps41
    go_wp2_with fail
    go_ret
    rw [HR.out]
    exact ⟨rfl, rfl⟩
  have z2 : ¬ (40 : Int) < (s.size : Int) := by omega
  have z2b : decide ((40 : Int) < (s.size : Int)) = false := decide_eq_false z2
  have HS1 := Lib.hid h1
  have HS2 := Lib.hid h2
  have hs40 : s.size ≤ 40 := by omega
  clear h1 h2
  go_enter Try.func41, Try.ntmps41
  go_wp2_with fail
  go_loopw [3] (fun s3 wr => ∃ k : Nat, k ≤ s.size ∧ s3 = .int .i64 (k : Int) ∧ wr = w ∧ Hid ((s.data.toList.take k).all okB = true)) (fun s3 _ => s.size - (intOf s3).toNat)
  case atStart => exact ⟨0, by omega, rfl, rfl, Lib.hid rfl⟩
  case round =>
    obtain ⟨k, hk, rfl, rfl, HA⟩ := hrel
    by_cases hkn : k < s.size
    case neg =>
      have zk : ¬ (k : Int) < (s.size : Int) := by omega
      have HR := Lib.hid (show isKeyB s = true from by
        unfold isKeyB
        have h3 := HA.out
        have h9 : s.data.toList.length = s.size := by simp
        rw [show k = s.data.toList.length from by omega, List.take_length] at h3
        have := HS1.out
        have := HS2.out
        rw [h3, decide_eq_true (show 1 ≤ s.size by omega), decide_eq_true (show s.size ≤ 40 by omega)]
        rfl)
      go_wp2_with fail
      go_ret
      rw [HR.out]
      exact ⟨rfl, rfl⟩
    case pos =>
      have zk : (k : Int) < (s.size : Int) := by omega
      have zk0 : (0 : Int) ≤ (k : Int) := by omega
      have wk : IntKind.i64.wrap ((k : Int) + 1) = (k : Int) + 1 := IntWalk.i64_in _ (by omega)
      have HBD := Lib.hid (fun (hb : okB (s[k]'hkn) = false) => key_bad hkn hb)
      have HSN := Lib.hid (fun (hb : okB (s[k]'hkn) = true) => key_snoc hkn HA.out hb)
      obtain ⟨x, hx⟩ : ∃ x, x = (s[k]'hkn) := ⟨_, rfl⟩
      rw [← hx] at HBD HSN
      go_wp2_with fail
      all_goals first
        | (have HX := HBD.out (by rw [hx]; unfold okB; rw [Bool.and_eq_false_iff, decide_eq_false_iff_not, decide_eq_false_iff_not]; omega)
           go_ret
           rw [HX]
           exact ⟨rfl, rfl⟩)
        | (have HX := HSN.out (by rw [hx]; unfold okB; rw [Bool.and_eq_true, decide_eq_true_eq, decide_eq_true_eq]; omega)
           exact ⟨⟨k + 1, by omega, by push_cast; rfl, trivial, Lib.hid HX⟩, by simp only [intOf]; omega⟩)
end Go.Proofs.Ytodoklnohedolaa
end PkUC3_5
section PkUC3_6
/- The document's store: bad, walked. -/
namespace Go.Proofs.Ytodoklnohedolaa
open Go.RowKit
set_option linter.unusedVariables false

/-- a reply -/
def repA (er : Int) (da : Option Addr) (dn dc : Nat) (ver bo id : Int) (la : Option Addr) (ln lc : Nat) (mo : Bool) : Array Value := #[.int .i64 er, .slice da dn dc, .int .i64 ver, .int .i64 bo, .int .i64 id, .slice la ln lc, .bool mo]
set_option maxRecDepth 100000 in
theorem dbad_any (x : Int) (w : World) :
    Calls Try.prog 42 #[.int .i64 x] w fun e w' => e = .returned (.agg (repA x none 0 0 0 0 0 none 0 0 false)) ∧ Below w.heap.size w w' := by
  unfold repA
  have q := fun j u (h : (#[.int .i64 x, .slice none 0 0, .int .i64 0, .int .i64 0, .int .i64 0, .slice none 0 0, .bool false] : Array Value)[j]? = some u) => cell_blkD (heap_alloc_newD w (.cells #[.int .i64 x, .slice none 0 0, .int .i64 0, .int .i64 0, .int .i64 0, .slice none 0 0, .bool false] 36)) h
  have q0 := q 0 _ rfl
  have q1 := q 1 _ rfl
  have q2 := q 2 _ rfl
  have q3 := q 3 _ rfl
  have q4 := q 4 _ rfl
  have q5 := q 5 _ rfl
  have q6 := q 6 _ rfl
  have HB := Lib.hid (show Below w.heap.size w (w.alloc (.cells #[.int .i64 x, .slice none 0 0, .int .i64 0, .int .i64 0, .int .i64 0, .slice none 0 0, .bool false] 36)) from (Below.refl _ _).alloc (Nat.le_refl _) _)
  clear q
  go_enter Try.func42, Try.ntmps42
  go_wp2_with fail
  exact bodyPost_ret (v := .agg #[.int .i64 x, .slice none 0 0, .int .i64 0, .int .i64 0, .int .i64 0, .slice none 0 0, .bool false]) (by simp [results, Try.results42, go_sem, q0, q1, q2, q3, q4, q5, q6]) rfl ⟨rfl, HB.out⟩
/-- does a text begin with another one -/
def begD (v x : ByteArray) : Bool := decide (v.size ≤ x.size) && ((x.extract 0 v.size).toList == v.toList)
theorem begD_is (v x : ByteArray) : begD v x = Lib.hasPrefix x.data.toList v.data.toList := by
  have hl : (x.extract 0 v.size).toList = x.data.toList.take v.data.toList.length := by
    rw [ByteArray.toList_eq]; simp
  unfold begD Lib.hasPrefix
  rw [hl, ByteArray.toList_eq, Bool.eq_iff_iff, Bool.and_eq_true, decide_eq_true_eq, beq_iff_eq, List.isPrefixOf_iff_prefix, List.prefix_iff_eq_take]
  constructor
  · rintro ⟨_, h⟩; exact h.symm
  · intro h
    refine ⟨?_, h.symm⟩
    have := congrArg List.length h
    rw [List.length_take] at this
    have h1 : v.data.toList.length = v.size := by simp
    have h2 : x.data.toList.length = x.size := by simp
    omega
set_option maxRecDepth 100000 in
set_option maxHeartbeats 1000000 in
theorem dbegins_any (x v : ByteArray) (hx : x.size ≤ 1000000000000000) (hv : v.size ≤ 1000000000000000) (w : World) :
    Calls Try.prog 46 #[.string x, .string v] w fun e w' => e = .returned (.bool (begD v x)) ∧ w' = w := by
  by_cases h : v.size ≤ x.size
  · have HR := Lib.hid (show begD v x = ((x.extract 0 v.size).toList == v.toList) by unfold begD; rw [decide_eq_true h, Bool.true_and])
    have hi : (v.size : Int) ≤ (x.size : Int) := by omega
    go_enter Try.func46, Try.ntmps46
    go_wp2_with fail
    go_ret
    rw [HR.out]; exact ⟨rfl, rfl⟩
  · have HR := Lib.hid (show begD v x = false by unfold begD; rw [decide_eq_false h]; rfl)
    have hi : (x.size : Int) < (v.size : Int) := by omega
    go_enter Try.func46, Try.ntmps46
    go_wp2_with fail
    go_ret
    rw [HR.out]; exact ⟨rfl, rfl⟩
end Go.Proofs.Ytodoklnohedolaa
end PkUC3_6
section PkUC3_7
/- The document's part and complete, plainly; a method's beginning; an upload laid in its place. -/
namespace Go.Proofs.Ytodoklnohedolaa
open Go.RowKit
set_option linter.unusedVariables false

/-- a method's beginning: the call's box, the reply's -/
structure DEnt (w W : World) (S base : Nat) (σ : DSto) (cs : Array Value) : Prop where
  st : DStAt W S base σ
  cb : W.heap[w.heap.size]? = some (.cells cs 30 (0, 0))
  rb : W.heap[w.heap.size + 1]? = some (.cells zrep 36 (0, 0))
  sz : W.heap.size = w.heap.size + 2
  bel : Below w.heap.size w W
theorem dent_mk {w : World} {S base : Nat} {σ : DSto} (h : DStAt w S base σ) (cs : Array Value) : DEnt w ((w.alloc (.cells cs 30)).alloc (.cells zrep 36)) S base σ cs := by
  have h1 : Below w.heap.size w ((w.alloc (.cells cs 30)).alloc (.cells zrep 36)) := ((Below.refl _ _).alloc (Nat.le_refl _) _).alloc (by simp) _
  have e1 : (w.alloc (.cells cs 30)).heap.size = w.heap.size + 1 := by simp
  refine ⟨h.below h1, ?_, ?_, by simp, h1⟩
  · exact (Below.heap_alloc _ _ _ (by rw [e1]; omega)).trans (heap_new w _)
  · have := heap_new (w.alloc (.cells cs 30)) (.cells zrep 36)
    rwa [e1] at this
/-- the parts of another number; the part of this one -/
def prtF (l : List DPrt) (nn : Int) : List DPrt := l.filter fun p => !decide (p.n = nn)
def hadP (l : List DPrt) (nn : Int) : Nat := l.foldl (fun h p => if p.n = nn then p.dn else h) 0
theorem prtF_succ {l : List DPrt} {nn : Int} {i : Nat} {x : DPrt} (h : l[i]? = some x) : prtF (l.take (i + 1)) nn = if x.n = nn then prtF (l.take i) nn else prtF (l.take i) nn ++ [x] := by
  unfold prtF
  rw [List.take_add_one, h, Option.toList_some, List.filter_append]
  by_cases e : x.n = nn
  · rw [if_pos e]; simp [e]
  · rw [if_neg e]; simp [e]
theorem hadP_succ {l : List DPrt} {nn : Int} {i : Nat} {x : DPrt} (h : l[i]? = some x) : hadP (l.take (i + 1)) nn = if x.n = nn then x.dn else hadP (l.take i) nn := by
  unfold hadP
  rw [List.take_add_one, h, Option.toList_some, List.foldl_append]
  rfl
theorem hadP_le {l : List DPrt} {nn : Int} {B : Nat} (h : ∀ p ∈ l, p.dn ≤ B) : hadP l nn ≤ B := by
  unfold hadP
  have : ∀ (l : List DPrt) (z : Nat), z ≤ B → (∀ p ∈ l, p.dn ≤ B) → l.foldl (fun h p => if p.n = nn then p.dn else h) z ≤ B := by
    intro l
    induction l with
    | nil => intro z hz _; exact hz
    | cons a r ih =>
      intro z hz hl
      rw [List.foldl_cons]
      refine ih _ ?_ (fun p hp => hl p (List.mem_cons_of_mem _ hp))
      split
      · exact hl a List.mem_cons_self
      · exact hz
  exact this l 0 (Nat.zero_le _) h
def prtDE (σ : DSto) (u : DUpl) (nn : Int) (n : Nat) : Int := if nn < 1 ∨ 32 < nn then 1 else if 262144 < n then 5 else if 4194304 < ((osum σ.objs + usum σ.ups : Nat) : Int) - (hadP u.parts nn : Int) + (n : Int) then 9 else 0
/-- what comes of a part -/
def PrtDP (w : World) (S base : Nat) (σ : DSto) (i : Nat) (u : DUpl) (nn : Int) (n : Nat) (xs : List Nat) (e : Ending) (w' : World) : Prop :=
  Frm (DF S σ) w w' ∧ (prtDE σ u nn n ≠ 0 → e = .returned (rep0 (prtDE σ u nn n)) ∧ DStAt w' S base σ) ∧
  (prtDE σ u nn n = 0 → e = .returned (rep0 0) ∧ ∃ ua uc pa pn pc da dc, DStAt w' S base { σ with ua := ua, uc := uc, ups := σ.ups.set i { u with pa := pa, pn := pn, pc := pc, parts := prtF u.parts nn ++ [⟨nn, da, n, dc, xs⟩] } } ∧ (∀ b, blkOf da = some b → w.heap.size ≤ b))
theorem DStAt.uplInPlace {w w' : World} {S base : Nat} {σ : DSto} (h : DStAt w S base σ) {g : Nat} {cur : Array Value} (hua : σ.ua = some ⟨g, 0, none⟩) (hgk : w.heap[g]? = some (.cells cur 85 (0, 0))) {i : Nat} (hil : i < σ.ups.length) {u : DUpl} (hu : UplOk w base u) (hw : w'.heap = (w.setCells g (i * 4) (DUplS.f u)).heap) : DStAt w' S base { σ with ups := σ.ups.set i u } := by
  have hl : (σ.ups.set i u).length = σ.ups.length := List.length_set
  have hoth : ∀ b, b ≠ g → w'.heap[b]? = w.heap[b]? := fun b hb => by rw [hw]; exact setCells_other _ _ _ _ _ hb
  have hrow : ∀ {n c N k : Nat} {e : TypeId} {a : Option Addr} {xs : List Value}, w.ownsRow base e k (.slice a n c) N xs → e ≠ 85 → w'.ownsRow base e k (.slice a n c) N xs := fun {n c N k e a xs} hx he => own_same hx fun b hb => hoth b fun eg => by
    obtain ⟨cu, g2⟩ := own_blk_ty hx hb
    rw [eg, hgk] at g2
    simp at g2
    exact he g2.2.symm
  have hup : ∀ v, UplOk w base v → UplOk w' base v := fun v hv => ⟨hrow hv.row (by decide), hv.len, hv.few, fun p hp => ⟨hrow (hv.prt p hp).row (by decide), (hv.prt p hp).byte, (hv.prt p hp).len, (hv.prt p hp).small⟩⟩
  refine ⟨?_, hrow h.orow (by decide), ?_, fun o ho => ⟨hrow (h.obj o ho).row (by decide), (h.obj o ho).byte, (h.obj o ho).len, (h.obj o ho).small⟩, fun v hv => ?_, h.of, by rw [hl]; exact h.uf⟩
  · rw [hl]
    refine (hoth S fun e => ?_).trans h.blk
    have h1 := h.blk
    rw [e, hgk] at h1
    simp at h1
  · rw [hl]
    have h1 := h.urow
    rw [hua] at h1 ⊢
    exact own_same (own_setCells (S := DUplS) h1 rfl hil u) (fun b _ => by rw [hw]; rfl)
  · rcases List.mem_or_eq_of_mem_set hv with g2 | g2
    · exact hup v (h.upl v g2)
    · rw [g2]; exact hup u hu
end Go.Proofs.Ytodoklnohedolaa
end PkUC3_7
section PkUC3_8
/- The document's complete, plainly. -/
namespace Go.Proofs.Ytodoklnohedolaa
open Go.RowKit
set_option linter.unusedVariables false

theorem PrtOk.bytes {w : World} {base : Nat} {p : DPrt} (h : PrtOk w base p) : BytesAt w p.da p.dn p.dc p.data := by
  obtain ⟨a, c, e, hb, _⟩ := BytesAt.ofOwn h.row h.byte (Nat.le_trans h.small (by decide))
  obtain ⟨e1, _, e2⟩ := Value.slice.inj e
  rw [e1, e2]; exact hb
theorem ObjOk.bytes {w : World} {base : Nat} {p : DObj} (h : ObjOk w base p) : BytesAt w p.da p.dn p.dc p.data := by
  obtain ⟨a, c, e, hb, _⟩ := BytesAt.ofOwn h.row h.byte (Nat.le_trans h.small (by decide))
  obtain ⟨e1, _, e2⟩ := Value.slice.inj e
  rw [e1, e2]; exact hb
/-- the bytes of the parts of a number; is there one -/
def matchD (l : List DPrt) (n : Int) : List Nat := l.flatMap fun p => if p.n = n then p.data else []
def hasP (l : List DPrt) (n : Int) : Bool := l.any fun p => decide (p.n = n)
def catD (l : List DPrt) : Nat → Option (List Nat)
  | 0 => some []
  | k + 1 => match catD l k with
    | none => none
    | some d => if hasP l ((k + 1 : Nat) : Int) = true then some (d ++ matchD l ((k + 1 : Nat) : Int)) else none
theorem matchD_succ {l : List DPrt} {n : Int} {j : Nat} {x : DPrt} (h : l[j]? = some x) : matchD (l.take (j + 1)) n = matchD (l.take j) n ++ (if x.n = n then x.data else []) := by
  unfold matchD
  rw [List.take_add_one, h, Option.toList_some, List.flatMap_append]
  simp
theorem hasP_succ {l : List DPrt} {n : Int} {j : Nat} {x : DPrt} (h : l[j]? = some x) : hasP (l.take (j + 1)) n = (hasP (l.take j) n || decide (x.n = n)) := by
  unfold hasP
  rw [List.take_add_one, h, Option.toList_some, List.any_append]
  simp
theorem catD_no {l : List DPrt} {k : Nat} (h : hasP l ((k + 1 : Nat) : Int) = false) : ∀ n, k < n → catD l n = none
  | 0, hn => by omega
  | n + 1, hn => by
    rw [catD]
    rcases Nat.lt_or_ge k n with g | g
    · rw [catD_no h n g]
    · obtain rfl : k = n := by omega
      rw [h]
      cases catD l k <;> rfl
theorem catD_yes {l : List DPrt} {k : Nat} {d : List Nat} (h : catD l k = some d) (hh : hasP l ((k + 1 : Nat) : Int) = true) : catD l (k + 1) = some (d ++ matchD l ((k + 1 : Nat) : Int)) := by
  rw [catD, h, hh]; rfl
def comDE (σ : DSto) (u : DUpl) (nn : Int) : Int :=
  if nn < 1 ∨ nn ≠ (u.parts.length : Int) then 4 else match catD u.parts nn.toNat with
    | none => 4
    | some d => if 262144 < d.length then 5 else if atK σ.objs u.key = -1 ∧ 512 ≤ σ.objs.length then 9 else 0
/-- what comes of a complete -/
def ComDP (w : World) (S base : Nat) (σ : DSto) (i : Nat) (u : DUpl) (nn : Int) (e : Ending) (w' : World) : Prop :=
  Frm (DF S σ) w w' ∧ (comDE σ u nn ≠ 0 → e = .returned (rep0 (comDE σ u nn)) ∧ DStAt w' S base σ) ∧
  (comDE σ u nn = 0 → ∃ d, catD u.parts nn.toNat = some d ∧ e = .returned (rep 0 (.slice none 0 0) (σ.ver + 1) σ.now 0 (.slice none 0 0) false) ∧ ∃ ua uc oa oc da dc, DStAt w' S base { σ with ua := ua, uc := uc, ups := outK σ.ups i, oa := oa, oc := oc, objs := putL σ.objs ⟨u.key, da, d.length, dc, d, σ.ver + 1, σ.now⟩, ver := σ.ver + 1 } ∧ (∀ b, blkOf da = some b → w.heap.size ≤ b))
theorem ComDP.no {w w' : World} {S base : Nat} {σ : DSto} {i : Nat} {u : DUpl} {nn : Int} {x : Int} (h : comDE σ u nn = x) (hx : x ≠ 0) (Z : DStAt w' S base σ ∧ Frm (DF S σ) w w') : ComDP w S base σ i u nn (.returned (rep0 x)) w' :=
  ⟨Z.2, fun _ => ⟨by rw [h], Z.1⟩, fun e => absurd (h.symm.trans e) hx⟩
theorem atK_neg {l : List DObj} {k : ByteArray} : (atK l k = -1 ∧ l.findIdx? (fun o => decide (o.key = k)) = none) ∨ ∃ j : Nat, atK l k = (j : Int) ∧ l.findIdx? (fun o => decide (o.key = k)) = some j := by
  unfold atK
  cases l.findIdx? (fun o => decide (o.key = k)) with
  | none => exact .inl ⟨rfl, rfl⟩
  | some j => exact .inr ⟨j, rfl, rfl⟩
end Go.Proofs.Ytodoklnohedolaa
end PkUC3_8
