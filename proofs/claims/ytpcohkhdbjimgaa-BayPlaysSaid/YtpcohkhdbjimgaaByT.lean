/- What is held of both bays while a batch is put: the invariant of BayPlays' drawn region. -/
import Derived.Test.YtpcohkhdbjimgaaByS
namespace Go.Proofs.Ytpcohkhdbjimgaa
open Go.RowKit Go.Conc
set_option linter.unusedVariables false

theorem fold_max {α : Type} (f : α → Nat) : ∀ l : List α, (∀ x ∈ l, f x ≤ (l.map f).foldr max 0) ∧ ((l.map f).foldr max 0 = 0 ∨ ∃ x ∈ l, f x = (l.map f).foldr max 0)
  | [] => ⟨fun x hx => (by cases hx), .inl rfl⟩
  | a :: r => by
    obtain ⟨h1, h2⟩ := fold_max f r
    rw [List.map_cons, List.foldr_cons]
    refine ⟨fun x hx => ?_, ?_⟩
    · rcases List.mem_cons.1 hx with rfl | g
      · omega
      · have := h1 x g; omega
    · rcases Nat.le_total (f a) ((r.map f).foldr max 0) with g | g
      · rw [Nat.max_eq_right g]
        rcases h2 with e | ⟨x, hx, e⟩
        · exact .inl e
        · exact .inr ⟨x, List.mem_cons_of_mem _ hx, e⟩
      · rw [Nat.max_eq_left g]
        exact .inr ⟨a, List.mem_cons_self, rfl⟩
/-- the fullest key's count -/
def mxK (L : List (ByteArray × Int)) : Nat := (L.map fun x => cntK L x.1).foldr max 0
theorem mxK_is (L : List (ByteArray × Int)) : RMax L (mxK L) := fold_max (fun x : ByteArray × Int => cntK L x.1) L
theorem rmax_uniq {L : List (ByteArray × Int)} {m m' : Nat} (h : RMax L m) (h' : RMax L m') : m = m' := by
  apply Nat.le_antisymm
  · rcases h.2 with e | ⟨x, hx, e⟩
    · omega
    · rw [← e]; exact h'.1 x hx
  · rcases h'.2 with e | ⟨x, hx, e⟩
    · omega
    · rw [← e]; exact h.1 x hx
def updv (v : Nat → Value) (i : Nat) (x : Value) : Nat → Value := upd v i x
/-- the invariant -/
structure RI (w0 : World) (Y M D room bx : Nat) (xa : Option Addr) (xn xc : Nat) (dr F : Bool) (ks L L' : List (ByteArray × Int)) (vals : Nat → Option Value) (T : Nat → Bool) (v : Nat → Value) (w : World) : Prop where
  bel : Below w0.heap.size w0 w
  cel : w.heap[bx]? = some (.cells #[.slice xa xn xc, .bool dr] 55 (0, 0))
  bay : ∃ l, Holds w Y M room l (if T 4 = true then L' else L) ∧ ∀ b, BayF Y M l b → w0.heap.size ≤ b
  doc : DBay w D w0.heap.size room (if T 8 = true then L' else L)
  k3 : T 3 = true → T 4 = false → w.ownsRow w0.heap.size 47 2 (v 3) xn (KdS.flat ks)
  k16 : T 16 = true → ∃ a c, v 16 = .slice a L'.length c
  cl : (T 9 || T 10 || T 19 || T 20) = true → T 4 = true ∧ T 8 = true
  vs : ∀ j u, T j = true → vals j = some u → v j = u
section
variable {w0 w : World} {Y M D room bx : Nat} {xa : Option Addr} {xn xc : Nat} {dr F : Bool} {ks L L' : List (ByteArray × Int)} {vals : Nat → Option Value} {T : Nat → Bool} {v : Nat → Value}
theorem RI.drew {w' : World} (h : RI w0 Y M D room bx xa xn xc dr F ks L L' vals T v w) (hb : Below w.heap.size w w') : RI w0 Y M D room bx xa xn xc dr F ks L L' vals T v w' := by
  obtain ⟨l, h1, h2⟩ := h.bay
  exact ⟨h.bel.trans (hb.mono h.bel.size), (hb.block bx (Array.getElem?_eq_some_iff.1 h.cel).1).trans h.cel, ⟨l, h1.below hb, h2⟩, h.doc.below hb, fun a b => own_below (h.k3 a b) hb, h.k16, h.cl, h.vs⟩
theorem upd_ne {v : Nat → Value} {i j : Nat} {x : Value} (h : j ≠ i) : upd v i x j = v j := by unfold upd; rw [if_neg h]
theorem upd_eq {v : Nat → Value} {i : Nat} {x : Value} : upd v i x i = x := by unfold upd; rw [if_pos rfl]
theorem T_ne {T : Nat → Bool} {i j : Nat} (h : j ≠ i) : (T j || decide (j = i)) = T j := by rw [decide_eq_false h, Bool.or_false]
theorem T_eq {T : Nat → Bool} {i : Nat} : (T i || decide (i = i)) = true := by simp
theorem RI.vsu (h : RI w0 Y M D room bx xa xn xc dr F ks L L' vals T v w) {j : Nat} {x : Value} (hv : vals j = some x ∨ vals j = none) : ∀ i u, (T i || decide (i = j)) = true → vals i = some u → upd v j x i = u := by
  intro i u h1 h2
  by_cases e : i = j
  · subst e
    rw [upd_eq]
    rcases hv with g | g
    · rw [g] at h2; cases h2; rfl
    · rw [g] at h2; cases h2
  · rw [upd_ne e]
    rw [T_ne e] at h1
    exact h.vs i u h1 h2
/-- a value that is known -/
theorem RI.val (h : RI w0 Y M D room bx xa xn xc dr F ks L L' vals T v w) (j : Nat) (x : Value) (hv : vals j = some x) (h3 : 3 ≠ j) (h4 : 4 ≠ j) (h8 : 8 ≠ j) (h16 : 16 ≠ j) (hc : (j = 9 ∨ j = 10 ∨ j = 19 ∨ j = 20) → T 4 = true ∧ T 8 = true) : RI w0 Y M D room bx xa xn xc dr F ks L L' vals (fun i => T i || decide (i = j)) (upd v j x) w := by
  refine ⟨h.bel, h.cel, ?_, ?_, ?_, ?_, ?_, h.vsu (.inl hv)⟩
  · show ∃ l, Holds w Y M room l (if (T 4 || decide (4 = j)) = true then L' else L) ∧ _
    rw [T_ne h4]; exact h.bay
  · show DBay w D w0.heap.size room (if (T 8 || decide (8 = j)) = true then L' else L)
    rw [T_ne h8]; exact h.doc
  · show (T 3 || decide (3 = j)) = true → (T 4 || decide (4 = j)) = false → _
    rw [T_ne h3, T_ne h4, upd_ne h3]; exact h.k3
  · show (T 16 || decide (16 = j)) = true → _
    rw [T_ne h16, upd_ne h16]; exact h.k16
  · show ((T 9 || decide (9 = j)) || (T 10 || decide (10 = j)) || (T 19 || decide (19 = j)) || (T 20 || decide (20 = j))) = true → (T 4 || decide (4 = j)) = true ∧ (T 8 || decide (8 = j)) = true
    rw [T_ne h4, T_ne h8]
    intro g
    by_cases e : j = 9 ∨ j = 10 ∨ j = 19 ∨ j = 20
    · exact hc e
    · rw [T_ne (show 9 ≠ j by omega), T_ne (show 10 ≠ j by omega), T_ne (show 19 ≠ j by omega), T_ne (show 20 ≠ j by omega)] at g
      exact h.cl g
theorem RI.clu (h : RI w0 Y M D room bx xa xn xc dr F ks L L' vals T v w) {j : Nat} (hj : j ≠ 9 ∧ j ≠ 10 ∧ j ≠ 19 ∧ j ≠ 20) : ((T 9 || decide (9 = j)) || (T 10 || decide (10 = j)) || (T 19 || decide (19 = j)) || (T 20 || decide (20 = j))) = true → (T 4 || decide (4 = j)) = true ∧ (T 8 || decide (8 = j)) = true := by
  obtain ⟨a, b, c, d⟩ := hj
  rw [T_ne (Ne.symm a), T_ne (Ne.symm b), T_ne (Ne.symm c), T_ne (Ne.symm d)]
  intro g
  obtain ⟨g1, g2⟩ := h.cl g
  rw [g1, g2]
  exact ⟨rfl, rfl⟩
/-- the batch, as the program has it -/
theorem RI.key (h : RI w0 Y M D room bx xa xn xc dr F ks L L' vals T v w) {w' : World} {x : Value} (hv : vals 3 = none) (ho : w'.ownsRow w.heap.size 47 2 x xn (KdS.flat ks)) (hb : Below w.heap.size w w') : RI w0 Y M D room bx xa xn xc dr F ks L L' vals (fun i => T i || decide (i = 3)) (upd v 3 x) w' := by
  have h' := h.drew hb
  refine ⟨h'.bel, h'.cel, ?_, ?_, ?_, ?_, h'.clu (by decide), h'.vsu (.inr hv)⟩
  · show ∃ l, Holds w' Y M room l (if (T 4 || decide (4 = 3)) = true then L' else L) ∧ _
    rw [T_ne (by decide)]; exact h'.bay
  · show DBay w' D w0.heap.size room (if (T 8 || decide (8 = 3)) = true then L' else L)
    rw [T_ne (by decide)]; exact h'.doc
  · intro _ _
    rw [upd_eq]
    exact own_base ho h.bel.size
  · show (T 16 || decide (16 = 3)) = true → _
    rw [T_ne (by decide), upd_ne (by decide)]; exact h'.k16
/-- the program's Put -/
theorem RI.put (h : RI w0 Y M D room bx xa xn xc dr F ks L L' vals T v w) {w' : World} {x : Value} (hv : vals 4 = some x) {l l' : List (ByteArray × BoxV)} (hy : BayAt w Y M room l) (hbs : ∀ b, BayF Y M l b → w0.heap.size ≤ b) (hn : Holds w' Y M room l' L') (hF : Frm (BayF Y M l) w w') (hf : ∀ b, BayF Y M l' b → BayF Y M l b ∨ w.heap.size ≤ b) : RI w0 Y M D room bx xa xn xc dr F ks L L' vals (fun i => T i || decide (i = 4)) (upd v 4 x) w' := by
  refine ⟨h.bel.trans (hF.toBelow h.bel.size hbs), hF.at h.cel (hy.notT h.cel (by decide)), ?_, ?_, ?_, ?_, h.clu (by decide), h.vsu (.inl hv)⟩
  · refine ⟨l', ?_, fun b hb => ?_⟩
    · show Holds w' Y M room l' (if (T 4 || decide (4 = 4)) = true then L' else L)
      rw [T_eq, if_pos rfl]; exact hn
    · rcases hf b hb with g | g
      · exact hbs b g
      · exact Nat.le_trans h.bel.size g
  · show DBay w' D w0.heap.size room (if (T 8 || decide (8 = 4)) = true then L' else L)
    rw [T_ne (by decide)]; exact h.doc.frm hy hF
  · show _ → (T 4 || decide (4 = 4)) = false → _
    rw [T_eq]
    intro _ e
    cases e
  · show (T 16 || decide (16 = 4)) = true → _
    rw [T_ne (by decide), upd_ne (by decide)]; exact h.k16
/-- the document's Put -/
theorem RI.rput (h : RI w0 Y M D room bx xa xn xc dr F ks L L' vals T v w) {w' : World} {x : Value} (hv : vals 8 = some x) (hD : w0.heap.size ≤ D) (hn : DBay w' D w0.heap.size room L') (hF : Frm (fun i => i = D) w w') : RI w0 Y M D room bx xa xn xc dr F ks L L' vals (fun i => T i || decide (i = 8)) (upd v 8 x) w' := by
  obtain ⟨l, h1, h2⟩ := h.bay
  obtain ⟨a, n, c, g1, _⟩ := id h.doc
  refine ⟨h.bel.trans (hF.toBelow h.bel.size (fun i e => by rw [e]; exact hD)), hF.at h.cel (fun e => by have := h.cel; rw [e, g1] at this; simp at this), ?_, ?_, ?_, ?_, h.clu (by decide), h.vsu (.inl hv)⟩
  · refine ⟨l, ?_, h2⟩
    show Holds w' Y M room l (if (T 4 || decide (4 = 8)) = true then L' else L)
    rw [T_ne (by decide)]; exact h1.frm h.doc hF
  · show DBay w' D w0.heap.size room (if (T 8 || decide (8 = 8)) = true then L' else L)
    rw [T_eq, if_pos rfl]; exact hn
  · show (T 3 || decide (3 = 8)) = true → (T 4 || decide (4 = 8)) = false → _
    rw [T_ne (by decide), T_ne (by decide), upd_ne (by decide)]
    intro t1 t2
    exact (h.k3 t1 t2).kept (row := some D) ⟨hF.os, hF.tape, hF.output, hF.size, fun i hi hn => hF.block i hi (fun e => hn (by rw [e]))⟩ (.inr (own_neB (h.k3 t1 t2) g1 (by decide)))
  · show (T 16 || decide (16 = 8)) = true → _
    rw [T_ne (by decide), upd_ne (by decide)]; exact h.k16
/-- the document's list, read -/
theorem RI.ld (h : RI w0 Y M D room bx xa xn xc dr F ks L L' vals T v w) {x : Value} (hv : vals 16 = none) (hx : ∃ a c, x = .slice a L'.length c) : RI w0 Y M D room bx xa xn xc dr F ks L L' vals (fun i => T i || decide (i = 16)) (upd v 16 x) w := by
  refine ⟨h.bel, h.cel, ?_, ?_, ?_, ?_, h.clu (by decide), h.vsu (.inr hv)⟩
  · show ∃ l, Holds w Y M room l (if (T 4 || decide (4 = 16)) = true then L' else L) ∧ _
    rw [T_ne (by decide)]; exact h.bay
  · show DBay w D w0.heap.size room (if (T 8 || decide (8 = 16)) = true then L' else L)
    rw [T_ne (by decide)]; exact h.doc
  · show (T 3 || decide (3 = 16)) = true → (T 4 || decide (4 = 16)) = false → _
    rw [T_ne (by decide), T_ne (by decide), upd_ne (by decide)]; exact h.k3
  · intro _
    rw [upd_eq]; exact hx
theorem RI.at1 (h : RI w0 Y M D room bx xa xn xc dr F ks L L' vals T v w) (h4 : T 4 = true) : ∃ l, Holds w Y M room l L' ∧ ∀ b, BayF Y M l b → w0.heap.size ≤ b := by
  have := h.bay; rw [h4, if_pos rfl] at this; exact this
theorem RI.at0 (h : RI w0 Y M D room bx xa xn xc dr F ks L L' vals T v w) (h4 : T 4 = false) : ∃ l, Holds w Y M room l L ∧ ∀ b, BayF Y M l b → w0.heap.size ≤ b := by
  have := h.bay; rw [h4, if_neg (by decide)] at this; exact this
theorem RI.dt1 (h : RI w0 Y M D room bx xa xn xc dr F ks L L' vals T v w) (h8 : T 8 = true) : DBay w D w0.heap.size room L' := by
  have := h.doc; rw [h8, if_pos rfl] at this; exact this
theorem RI.dt0 (h : RI w0 Y M D room bx xa xn xc dr F ks L L' vals T v w) (h8 : T 8 = false) : DBay w D w0.heap.size room L := by
  have := h.doc; rw [h8, if_neg (by decide)] at this; exact this
end
end Go.Proofs.Ytpcohkhdbjimgaa
