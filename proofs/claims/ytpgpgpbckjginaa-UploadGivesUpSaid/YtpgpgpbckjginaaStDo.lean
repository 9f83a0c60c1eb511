/- The document's store: Do of a Create. Written by genstdo.py. -/
import Derived.Test.YtpgpgpbckjginaaSt
import Derived.Test.YtpgpgpbckjginaaAnyOrd
namespace Go.Proofs.Ytpgpgpbckjginaa
open Go.RowKit
set_option linter.unusedVariables false

/-- nothing that was there is turned, but the store's cell and its uploads' block -/
structure StKept (w w' : World) (p : Nat) (og : Option Nat) : Prop where
  os : w'.os = w.os
  tape : w'.tape = w.tape
  output : w'.output = w.output
  size : w.heap.size ≤ w'.heap.size
  block : ∀ k, k < w.heap.size → k ≠ p → some k ≠ og → w'.heap[k]? = w.heap[k]?
theorem StKept.refl (w : World) (p : Nat) (og : Option Nat) : StKept w w p og := ⟨rfl, rfl, rfl, Nat.le_refl _, fun _ _ _ _ => rfl⟩
theorem StKept.below {a b c : World} {p : Nat} {og : Option Nat} (h : StKept a b p og) (k : Below b.heap.size b c) : StKept a c p og :=
  ⟨k.os.trans h.os, k.tape.trans h.tape, k.output.trans h.output, Nat.le_trans h.size k.size, fun i hi hp ho => (k.block i (Nat.lt_of_lt_of_le hi h.size)).trans (h.block i hi hp ho)⟩
theorem StKept.grown {a b c : World} {p : Nat} {og : Option Nat} (h : StKept a b p og) (k : b.grownBy c og) : StKept a c p og :=
  ⟨k.os.trans h.os, k.tape.trans h.tape, k.output.trans h.output, Nat.le_trans h.size k.size, fun i hi hp ho => (k.block i (Nat.lt_of_lt_of_le hi h.size) ho).trans (h.block i hi hp ho)⟩
theorem StKept.set {a b : World} {p : Nat} {og : Option Nat} (h : StKept a b p og) (j : Nat) (u : Value) : StKept a (b.setCell ⟨p, j, none⟩ u) p og :=
  ⟨h.os, h.tape, h.output, by simpa [World.setCell] using h.size, fun i hi hp ho => (Below.heap_setCell b ⟨p, j, none⟩ u i hp).trans (h.block i hi hp ho)⟩
theorem StKept.drew {a b : World} {p : Nat} {og : Option Nat} (h : StKept a b p og) : StKept a b.drew p og := ⟨h.os, h.tape, h.output, h.size, h.block⟩
theorem up_info : (Try.prog.info? 72).map (fun i => (i.zero, i.size, i.bytes)) = some (some (.agg #[.int .i64 0, .int .i64 0, .string ByteArray.empty, .slice none 0 0]), 4, 56) := by kernel_rfl
theorem step_append_up {w : World} {o : Oper} {bb : Bool} {act : Act} {K : Act → World → Prop} {Q : Exit → Act → World → Prop} {E : Prop} (hgd : bb = true) (s x : Operand)
    (ho : o.op = .call { callee := .builtin .append, args := #[s, x], argTypes := #[32, 32] })
    {base n : Nat} {v : Value} {xs news : List Value} (hs : act.eval s = v) (hown : w.ownsRow base 72 4 v n xs) {g : Nat} (hx : act.eval x = .slice (some ⟨g, 0, none⟩) 1 1) (hl : news.length = 4) (hnews : ∀ j u, news[j]? = some u → w.cell? ((⟨g, 0, none⟩ : Addr).add j) = some u) (h1 : ∀ u ∈ news, u.oneCell' = true) (hn : n ≤ 1000) (hbase : base ≤ w.heap.size)
    (h : ∀ a c w', w'.ownsRow base 72 4 (.slice a (n + 1) c) (n + 1) (xs ++ news) → w.grownBy w' v.ownBlock → K (act.put o.dst (.slice a (n + 1) c)) w') : if bb = true then Oper.wp Try.prog o act w K Q else E := by
  rw [if_pos hgd]
  obtain ⟨i0, hi, hz0, hz1, hz2⟩ := info_parts up_info
  refine wp_append_own w s x 32 ho base 72 i0 _ 4 56 Try.underlying32 hi hz0 hz1 hz2 rfl (by decide) v n xs hs hown ⟨g, 0, none⟩ 1 1 news hx hl hnews h1 (by unfold maxLen; omega) (by omega) hbase ?_
  intro v' w' h2 h3 _
  rcases h2.2 with ⟨_, h0⟩ | ⟨g', cap, cur, rfl, _⟩
  · omega
  · exact h _ _ _ h2 h3
theorem step_store_sl {w : World} {g i : Nat} {u : Value} (e2 : w.cell? ⟨g, i, none⟩ = some u) (f2 : w.frozen? ⟨g, i, none⟩ = false) {ra : Option Addr} {rn rc : Nat}
    {o : Oper} {b : Bool} {act : Act} {K : Act → World → Prop} {Q : Exit → Act → World → Prop} {E : Prop} (hgd : b = true) (x y : Operand) (ho : o.op = .store 32 x y) (hx : act.eval x = .pointer (some ⟨g, i, none⟩)) (hy : act.eval y = .slice ra rn rc)
    (hK : K (act.put o.dst undef) (w.setCell ⟨g, i, none⟩ (.slice ra rn rc))) : if b = true then Oper.wp Try.prog o act w K Q else E := by
  rw [if_pos hgd]
  have hr := run_storeCells_cells (P := Try.prog) g i [.slice ra rn rc] 0 w (fun j hj => by
    obtain rfl : j = 0 := by simp at hj; omega
    exact (congrArg Option.isSome e2).trans rfl) (fun j hj => by
    obtain rfl : j = 0 := by simp at hj; omega
    exact f2) (fun v hv => by rw [List.mem_singleton.1 hv]; rfl)
  have hs : (Try.prog.info? 32).map (·.size) = some 1 := by kernel_rfl
  unfold Oper.wp execOp
  simp only [ho, hx, hy]
  cases hq : Try.prog.info? 32 with
  | none => simp [hq] at hs
  | some q =>
    rw [hq] at hs
    have hs1 : q.size = 1 := by simpa using hs
    simp only [Nat.add_zero] at hr
    simp [Instr.storeAt, Instr.sureAddr, storeVar, sizeOf, typeInfo, hq, Value.cells, hs1, hr, World.setCells]
    exact hK
def CrF (SB cb n : Nat) (ua : Option Addr) (uc : Nat) (now : Int) (ky : ByteArray) : Nat → Value → Prop
  | 0, v => v = .pointer (some ⟨SB, 0, none⟩)
  | 1, v => v = .pointer (some ⟨SB, 0, none⟩)
  | 2, v => v = .pointer (some ⟨SB, 0, none⟩)
  | 3, v => v = .pointer (some ⟨SB, 1, none⟩)
  | 4, v => v = .slice ua n uc
  | 5, v => v = .pointer (some ⟨SB, 0, none⟩)
  | 6, v => v = .pointer (some ⟨SB, 0, none⟩)
  | 7, v => v = .pointer (some ⟨SB, 3, none⟩)
  | 8, v => v = .int .i64 ((n + 1 : Nat) : Int)
  | 9, v => v = .pointer (some ⟨SB, 0, none⟩)
  | 10, v => v = .pointer (some ⟨SB, 0, none⟩)
  | 11, v => v = .pointer (some ⟨SB, 4, none⟩)
  | 12, v => v = .int .i64 now
  | 13, v => v = .pointer (some ⟨cb, 1, none⟩)
  | 14, v => v = .string ky
  | 15, v => v = .agg #[.int .i64 ((n + 1 : Nat) : Int), .int .i64 now, .string ky, .slice none 0 0]
  | 16, v => True
  | 17, v => True
  | 18, v => v = .pointer (some ⟨SB, 0, none⟩)
  | 19, v => v = .pointer (some ⟨SB, 1, none⟩)
  | 20, v => True
  | _ + 21, _ => True
/-- region 49 under way -/
structure CrI (w0 : World) (base SB cb rb n : Nat) (ua : Option Addr) (uc : Nat) (f : Nat → Int) (now : Int) (ky : ByteArray) (L : Nat → Bool) (V : Nat → Value) (w : World) : Prop where
  val : ∀ j, L j = true → CrF SB cb n ua uc now ky j (V j)
  d15 : L 15 = true → L 8 = true ∧ L 12 = true
  d16 : L 16 = true → L 15 = true
  d17 : L 17 = true → L 16 = true ∧ L 4 = true
  d20 : L 20 = true → L 17 = true ∧ L 8 = true ∧ L 12 = true
  own : L 17 = false → w.ownsRow base 72 4 (.slice ua n uc) n (ucells ky n f)
  lit : L 16 = true → ∃ g, V 16 = .slice (some ⟨g, 0, none⟩) 1 1 ∧ (L 17 = false → ∀ j u, ([.int .i64 ((n + 1 : Nat) : Int), .int .i64 now, .string ky, .slice none 0 0] : List Value)[j]? = some u → w.cell? ((⟨g, 0, none⟩ : Addr).add j) = some u)
  app : L 17 = true → ∃ a c, V 17 = .slice a (n + 1) c ∧ w.ownsRow base 72 4 (.slice a (n + 1) c) (n + 1) (ucells ky n f ++ [.int .i64 ((n + 1 : Nat) : Int), .int .i64 now, .string ky, .slice none 0 0])
  sb : L 20 = false → w.heap[SB]? = some (.cells (stA (.slice ua n uc) (n + 1) now) 34 (0, 0))
  sb2 : L 20 = true → ∃ a c, V 17 = .slice a (n + 1) c ∧ w.heap[SB]? = some (.cells (stA (.slice a (n + 1) c) (n + 1) now) 34 (0, 0))
  kept : StKept w0 w SB (Value.slice ua n uc).ownBlock
  cbk : w.cell? ⟨cb, 1, none⟩ = some (.string ky)
  bas : base ≤ w.heap.size
  rbk : w.heap[rb]? = some (.cells #[.int .i64 0, .slice none 0 0, .int .i64 0, .int .i64 0, .int .i64 0, .slice none 0 0, .bool false] 45 (0, 0))
theorem CrI.vals {w0 w : World} {base SB cb rb n : Nat} {ua : Option Addr} {uc : Nat} {f : Nat → Int} {now : Int} {ky : ByteArray} {L : Nat → Bool} {V : Nat → Value} (h : CrI w0 base SB cb rb n ua uc f now ky L V w) {j : Nat} {u : Value} (hv : CrF SB cb n ua uc now ky j u) : ∀ m, (L m || decide (m = j)) = true → CrF SB cb n ua uc now ky m (upd V j u m) := by
  intro m hm
  unfold upd
  by_cases e : m = j
  · subst e; simp; exact hv
  · simp [e] at hm ⊢
    exact h.val m hm
theorem CrI.put {w0 w : World} {base SB cb rb n : Nat} {ua : Option Addr} {uc : Nat} {f : Nat → Int} {now : Int} {ky : ByteArray} {L : Nat → Bool} {V : Nat → Value} (h : CrI w0 base SB cb rb n ua uc f now ky L V w) (j : Nat) (u : Value) (h16 : 16 ≠ j) (h17 : 17 ≠ j) (h20 : 20 ≠ j) (h15 : 15 ≠ j ∨ (L 8 = true ∧ L 12 = true)) (hv : CrF SB cb n ua uc now ky j u) : CrI w0 base SB cb rb n ua uc f now ky (fun m => L m || decide (m = j)) (upd V j u) w := by
  refine ⟨h.vals hv, fun e => ?_, ?_, ?_, ?_, ?_, ?_, ?_, ?_, ?_, h.kept, h.cbk, h.bas, h.rbk⟩
  · have h3 : L 8 = true ∧ L 12 = true := by
      rcases h15 with g | g
      · exact h.d15 (by simpa [g] using e)
      · exact g
    simp [h3.1, h3.2]
  all_goals simp only [decide_eq_false h16, decide_eq_false h17, decide_eq_false h20, Bool.or_false, upd, if_neg h16, if_neg h17]
  · exact fun e => by simp [h.d16 e]
  · exact fun e => ⟨(h.d17 e).1, by simp [(h.d17 e).2]⟩
  · exact fun e => ⟨(h.d20 e).1, by simp [(h.d20 e).2.1], by simp [(h.d20 e).2.2]⟩
  · exact h.own
  · exact h.lit
  · exact h.app
  · exact h.sb
  · exact h.sb2
theorem CrI.made {w0 w : World} {base SB cb rb n : Nat} {ua : Option Addr} {uc : Nat} {f : Nat → Int} {now : Int} {ky : ByteArray} {L : Nat → Bool} {V : Nat → Value} (h : CrI w0 base SB cb rb n ua uc f now ky L V w) (h16 : L 16 = false) (h15 : L 15 = true) : CrI w0 base SB cb rb n ua uc f now ky (fun m => L m || decide (m = 16)) (upd V 16 (.slice (some ⟨w.heap.size, 0, none⟩) 1 1)) (w.alloc (.cells #[.int .i64 ((n + 1 : Nat) : Int), .int .i64 now, .string ky, .slice none 0 0] 72)) := by
  have h17 : L 17 = false := by cases e : L 17 with | false => rfl | true => rw [(h.d17 e).1] at h16; cases h16
  have h20 : L 20 = false := by cases e : L 20 with | false => rfl | true => rw [(h.d20 e).1] at h17; cases h17
  have hbl : Below w.heap.size w (w.alloc (.cells #[.int .i64 ((n + 1 : Nat) : Int), .int .i64 now, .string ky, .slice none 0 0] 72)) := (Below.refl _ _).alloc (Nat.le_refl _) _
  refine ⟨h.vals trivial, fun _ => by simp [(h.d15 h15).1, (h.d15 h15).2], fun _ => by simp [h15], fun e => by simp [h17] at e, fun e => by simp [h20] at e, fun _ => (h.own h17).alloc _, fun _ => ⟨w.heap.size, by simp [upd], fun _ j u hu => ?_⟩, fun e => by simp [h17] at e, fun _ => ?_, fun e => by simp [h20] at e, h.kept.below hbl, ?_, Nat.le_trans h.bas hbl.size, (hbl.block rb (Array.getElem?_eq_some_iff.1 h.rbk).1).trans h.rbk⟩
  · have ha : (⟨w.heap.size, 0, none⟩ : Addr).add j = ⟨w.heap.size, j, none⟩ := by unfold Addr.add; split <;> simp_all
    rw [ha, cell_of_row _ _ _ _ _ (0, 0) (heap_alloc_new w _), List.getElem?_toArray]
    exact hu
  · exact (hbl.block SB (Array.getElem?_eq_some_iff.1 (h.sb h20)).1).trans (h.sb h20)
  · exact (hbl.cell (p := ⟨cb, 1, none⟩) (World.block_lt_of_cell? w _ h.cbk)).trans h.cbk
theorem CrI.appd {w0 w w' : World} {base SB cb rb n : Nat} {ua : Option Addr} {uc : Nat} {f : Nat → Int} {now : Int} {ky : ByteArray} {L : Nat → Bool} {V : Nat → Value} (h : CrI w0 base SB cb rb n ua uc f now ky L V w) (hSB : SB < base) (hcb : ∀ k, (Value.slice ua n uc).ownBlock = some k → k ≠ cb ∧ k ≠ rb) (h17 : L 17 = false) (h16 : L 16 = true) (h4 : L 4 = true) {a : Option Addr} {c : Nat} (hown : w'.ownsRow base 72 4 (.slice a (n + 1) c) (n + 1) (ucells ky n f ++ [.int .i64 ((n + 1 : Nat) : Int), .int .i64 now, .string ky, .slice none 0 0])) (hg : w.grownBy w' (Value.slice ua n uc).ownBlock) : CrI w0 base SB cb rb n ua uc f now ky (fun m => L m || decide (m = 17)) (upd V 17 (.slice a (n + 1) c)) w' := by
  have h20 : L 20 = false := by cases e : L 20 with | false => rfl | true => rw [(h.d20 e).1] at h17; cases h17
  have hlt := (h.own h17).lt
  refine ⟨h.vals trivial, fun e => by have := h.d15 (by simpa using e); simp [this.1, this.2], fun _ => by simp [h.d16 h16], fun _ => by simp [h16, h4], fun e => by simp [h20] at e, fun e => by simp at e, fun _ => ?_, fun _ => ⟨a, c, by simp [upd], hown⟩, fun _ => ?_, fun e => by simp [h20] at e, h.kept.grown hg, ?_, Nat.le_trans h.bas hg.size, (hg.block rb (Array.getElem?_eq_some_iff.1 h.rbk).1 (fun e => (hcb rb e.symm).2 rfl)).trans h.rbk⟩
  · obtain ⟨g, hg1, _⟩ := h.lit h16
    exact ⟨g, by simp only [upd]; exact hg1, fun e => by simp at e⟩
  · exact (hg.block SB (Array.getElem?_eq_some_iff.1 (h.sb h20)).1 (fun e => by have := (hlt SB e.symm).1; omega)).trans (h.sb h20)
  · exact hg.cell h.cbk (fun e => (hcb cb e.symm).1 rfl)
theorem CrI.stored {w0 w : World} {base SB cb rb n : Nat} {ua : Option Addr} {uc : Nat} {f : Nat → Int} {now : Int} {ky : ByteArray} {L : Nat → Bool} {V : Nat → Value} (h : CrI w0 base SB cb rb n ua uc f now ky L V w) (hSB : SB < base) (hcbs : cb ≠ SB ∧ rb ≠ SB) (h20 : L 20 = false) (h17 : L 17 = true) (h8 : L 8 = true) (h12 : L 12 = true) {a : Option Addr} {c : Nat} (hv : V 17 = .slice a (n + 1) c) : CrI w0 base SB cb rb n ua uc f now ky (fun m => L m || decide (m = 20)) (upd V 20 undef) (w.setCell ⟨SB, 1, none⟩ (.slice a (n + 1) c)) := by
  obtain ⟨a', c', hv', hown⟩ := h.app h17
  rw [hv] at hv'
  simp only [Value.slice.injEq, true_and] at hv'
  obtain ⟨rfl, rfl⟩ := hv'
  have hlt := hown.lt
  refine ⟨h.vals trivial, fun _ => by simp [h8, h12], fun e => by simp [h.d16 (by simpa using e)], fun e => ?_, fun _ => by simp [h17, h8, h12], fun e => by simp [h17] at e, fun e => ?_, fun _ => ⟨a, c, by simp only [upd]; exact hv, hown.kept (row := some SB) ⟨rfl, rfl, rfl, by simp [World.setCell], fun k _ hk => Below.heap_setCell w ⟨SB, 1, none⟩ _ k (fun e => hk (by simp [e]))⟩ (.inr (fun e => by have := (hlt SB e).1; omega))⟩, fun e => by simp at e, fun _ => ⟨a, c, by simp only [upd]; exact hv, ?_⟩, h.kept.set 1 _, ?_, by simpa [World.setCell] using h.bas, (Below.heap_setCell w ⟨SB, 1, none⟩ _ rb hcbs.2).trans h.rbk⟩
  · have := h.d17 h17; simp [this.1, this.2]
  · obtain ⟨g, hg1, _⟩ := h.lit (h.d17 h17).1
    exact ⟨g, by simp only [upd]; exact hg1, fun e => by simp [h17] at e⟩
  · rw [heap_setCell_same w SB 1 _ _ _ (h.sb h20)]
    rfl
  · exact (World.cell?_of_block (w := w) (Below.heap_setCell w ⟨SB, 1, none⟩ _ cb hcbs.1)).trans h.cbk
def AtF (SB cb : Nat) (ky : ByteArray) : Nat → Value → Prop
  | 0, v => v = .pointer (some ⟨SB, 0, none⟩)
  | 1, v => v = .pointer (some ⟨cb, 1, none⟩)
  | 2, v => v = .string ky
  | 3, v => v = .int .i64 (-1)
  | 4, v => v = .pointer (some ⟨SB, 0, none⟩)
  | 5, v => v = .pointer (some ⟨cb, 6, none⟩)
  | 6, v => v = .int .i64 0
  | 7, v => v = .int .i64 (-1)
  | 8, v => v = .int .i64 (-1)
  | 9, v => v = .int .i64 (-1)
  | _ + 10, _ => True
def RpF (SB rb n : Nat) (now : Int) : Nat → Value → World → Prop
  | 0, v, w => v = .pointer (some ⟨SB, 0, none⟩)
  | 1, v, w => v = .pointer (some ⟨SB, 0, none⟩)
  | 2, v, w => v = .pointer (some ⟨SB, 3, none⟩)
  | 3, v, w => v = .int .i64 ((n + 1 : Nat) : Int)
  | 4, v, w => v = .pointer (some ⟨SB, 0, none⟩)
  | 5, v, w => v = .pointer (some ⟨SB, 0, none⟩)
  | 6, v, w => v = .pointer (some ⟨SB, 4, none⟩)
  | 7, v, w => v = .int .i64 now
  | 8, v, w => v = .agg #[.int .i64 0, .slice none 0 0, .int .i64 0, .int .i64 now, .int .i64 ((n + 1 : Nat) : Int), .slice none 0 0, .bool false]
  | 9, v, w => w.heap[rb]? = some (.cells #[.int .i64 0, .slice none 0 0, .int .i64 0, .int .i64 now, .int .i64 ((n + 1 : Nat) : Int), .slice none 0 0, .bool false] 45 (0, 0))
  | _ + 10, _, _ => True
theorem RpF.set {SB rb n : Nat} {now : Int} {w w' : World} (h : w'.heap[rb]? = some (.cells #[.int .i64 0, .slice none 0 0, .int .i64 0, .int .i64 now, .int .i64 ((n + 1 : Nat) : Int), .slice none 0 0, .bool false] 45 (0, 0))) : ∀ j v, RpF SB rb n now j v w → RpF SB rb n now j v w' := fun j v k =>
  match j, k with
  | 0, k => k
  | 1, k => k
  | 2, k => k
  | 3, k => k
  | 4, k => k
  | 5, k => k
  | 6, k => k
  | 7, k => k
  | 8, k => k
  | 9, _ => h
  | _ + 10, _ => trivial
theorem CrI.l812 {w0 w : World} {base SB cb rb n : Nat} {ua : Option Addr} {uc : Nat} {f : Nat → Int} {now : Int} {ky : ByteArray} {L : Nat → Bool} {V : Nat → Value} (h : CrI w0 base SB cb rb n ua uc f now ky L V w) (h17 : L 17 = true) : L 8 = true ∧ L 12 = true := h.d15 (h.d16 (h.d17 h17).1)
theorem own_ne_blk {w : World} {base n D : Nat} {v : Value} {xs : List Value} {cs : Array Value} {t : TypeId} {fr : Nat × Nat} (h : w.ownsRow base 72 4 v n xs) (hD : w.heap[D]? = some (.cells cs t fr)) (hne : t ≠ 72) : v.ownBlock ≠ some D := by
  rcases h.2 with ⟨rfl, _⟩ | ⟨g, cap, cur, rfl, _, hg, _⟩
  · simp [Value.ownBlock]
  · intro e1
    simp [Value.ownBlock] at e1
    subst e1
    rw [hg] at hD
    simp at hD
    exact hne hD.2.1.symm
/-- region 50 under way -/
def RpJ (w0 : World) (og : Option Nat) (base SB rb n : Nat) (a : Option Addr) (c : Nat) (f : Nat → Int) (now : Int) (ky : ByteArray) (w : World) : Prop :=
  w.heap[SB]? = some (.cells (stA (.slice a (n + 1) c) (n + 1) now) 34 (0, 0)) ∧ w.ownsRow base 72 4 (.slice a (n + 1) c) (n + 1) (ucells ky n f ++ [.int .i64 ((n + 1 : Nat) : Int), .int .i64 now, .string ky, .slice none 0 0]) ∧ StKept w0 w SB og ∧ ∃ old : Array Value, old.size = 7 ∧ w.heap[rb]? = some (.cells old 45 (0, 0))
theorem RpJ.set {w0 w : World} {og : Option Nat} {base SB rb n : Nat} {a : Option Addr} {c : Nat} {f : Nat → Int} {now : Int} {ky : ByteArray} (h : RpJ w0 og base SB rb n a c f now ky w) (hrb : w0.heap.size ≤ rb) (hrs : rb ≠ SB) {cs : Array Value} (hcs : cs.size = 7 := by rfl) : RpJ w0 og base SB rb n a c f now ky (w.setRow rb cs) := by
  obtain ⟨h1, h2, h3, old, h4, h5⟩ := h
  refine ⟨(setRow_other w rb SB cs hrs.symm).trans h1, h2.kept (row := some rb) ⟨rfl, rfl, rfl, by simp, fun k _ hk => setRow_other w rb k cs (fun e => hk (by rw [e]))⟩ (.inr (own_ne_blk h2 h5 (by decide))), ⟨h3.os, h3.tape, h3.output, by rw [setRow_size]; exact h3.size, fun k hk hp ho => (setRow_other w rb k cs (by omega)).trans (h3.block k hk hp ho)⟩, cs, hcs, setRow_heap w rb old cs _ _ h5⟩
/-- what Do of a Create leaves -/
def DoSays (w : World) (base SB n : Nat) (og : Option Nat) (now : Int) (ky : ByteArray) (e : Ending) (w' : World) : Prop :=
  (∃ v, e = .returned v) ∧ (∃ a m c f', m ≤ n + 1 ∧ w'.heap[SB]? = some (.cells (stA (.slice a m c) m now) 34 (0, 0)) ∧ w'.ownsRow base 72 4 (.slice a m c) m (ucells ky m f')) ∧ StKept w w' SB og
set_option maxRecDepth 100000 in
set_option maxHeartbeats 8000000 in
theorem do_create {w : World} {base SB n : Nat} {ua : Option Addr} {uc : Nat} {f : Nat → Int} {now : Int} {ky : ByteArray} (g : w.heap[SB]? = some (.cells (stA (.slice ua n uc) n now) 34 (0, 0))) (ho : w.ownsRow base 72 4 (.slice ua n uc) n (ucells ky n f)) (hSB : SB < base) (hb : base ≤ w.heap.size) (hn100 : n ≤ 100) :
    Calls Try.prog 15 #[.pointer (some ⟨SB, 0, none⟩), .agg #[.int .i64 7, .string ky, .slice none 0 0, .int .i64 0, .int .i64 0, .int .i64 0, .int .i64 0]] w fun e w' => DoSays w base SB n (Value.slice ua n uc).ownBlock now ky e w' := by
  obtain ⟨cb, hcb⟩ : ∃ cb, cb = w.heap.size := ⟨_, rfl⟩
  obtain ⟨rb, hrb⟩ : ∃ rb, rb = w.heap.size + 1 := ⟨_, rfl⟩
  obtain ⟨w2, hw2⟩ : ∃ w2, w2 = (w.alloc (.cells #[.int .i64 7, .string ky, .slice none 0 0, .int .i64 0, .int .i64 0, .int .i64 0, .int .i64 0] 48)).alloc (.cells #[.int .i64 0, .slice none 0 0, .int .i64 0, .int .i64 0, .int .i64 0, .slice none 0 0, .bool false] 45) := ⟨_, rfl⟩
  have hb1 : Below w.heap.size w (w.alloc (.cells #[.int .i64 7, .string ky, .slice none 0 0, .int .i64 0, .int .i64 0, .int .i64 0, .int .i64 0] 48)) := (Below.refl _ _).alloc (Nat.le_refl _) _
  have hs1 : (w.alloc (.cells #[.int .i64 7, .string ky, .slice none 0 0, .int .i64 0, .int .i64 0, .int .i64 0, .int .i64 0] 48)).heap.size = w.heap.size + 1 := by simp
  have hb12 : Below (w.heap.size + 1) (w.alloc (.cells #[.int .i64 7, .string ky, .slice none 0 0, .int .i64 0, .int .i64 0, .int .i64 0, .int .i64 0] 48)) w2 := by rw [hw2, ← hs1]; exact (Below.refl _ _).alloc (Nat.le_refl _) _
  have hb2 : Below w.heap.size w w2 := hb1.trans (hb12.mono (by omega))
  have hc2 : w2.heap[cb]? = some (.cells #[.int .i64 7, .string ky, .slice none 0 0, .int .i64 0, .int .i64 0, .int .i64 0, .int .i64 0] 48 (0, 0)) := by rw [hcb, hb12.block w.heap.size (by omega)]; exact heap_alloc_new w _
  have hr2 : w2.heap[rb]? = some (.cells #[.int .i64 0, .slice none 0 0, .int .i64 0, .int .i64 0, .int .i64 0, .slice none 0 0, .bool false] 45 (0, 0)) := by rw [hrb, ← hs1, hw2]; exact heap_alloc_new _ _
  have g2 := (hb2.block SB (Array.getElem?_eq_some_iff.1 g).1).trans g
  have ho2 := own_below ho hb2
  have hclt := (Array.getElem?_eq_some_iff.1 hc2).1
  have hslt := (Array.getElem?_eq_some_iff.1 g2).1
  have hsl0 := (Array.getElem?_eq_some_iff.1 g).1
  have HC := Lib.hid (show ∀ w7, Below w2.heap.size w2 w7 → w7.cell? ⟨cb, 0, none⟩ = some (.int .i64 7) ∧ w7.cell? ⟨cb, 1, none⟩ = some (.string ky) ∧ w7.cell? ⟨cb, 6, none⟩ = some (.int .i64 0) from fun w7 h7 => ⟨(h7.cell (p := ⟨cb, 0, none⟩) hclt).trans (cell_blk hc2 rfl), (h7.cell (p := ⟨cb, 1, none⟩) hclt).trans (cell_blk hc2 rfl), (h7.cell (p := ⟨cb, 6, none⟩) hclt).trans (cell_blk hc2 rfl)⟩)
  have HS := Lib.hid (show ∀ w7, Below w2.heap.size w2 w7 → w7.heap[SB]? = some (.cells (stA (.slice ua n uc) n now) 34 (0, 0)) ∧ w7.ownsRow base 72 4 (.slice ua n uc) n (ucells ky n f) from fun w7 h7 => ⟨(h7.block SB hslt).trans g2, own_below ho2 h7⟩)
  have HKK := Lib.hid (show ∀ w7, Below w2.heap.size w2 w7 → StKept w w7 SB (Value.slice ua n uc).ownBlock from fun w7 h7 => ((StKept.refl w SB _).below hb2).below h7)
  have HRB := Lib.hid hr2
  have HRBW := Lib.hid (show w.heap.size ≤ rb by omega)
  have HRBS := Lib.hid (show rb ≠ SB by omega)
  have HCBN := Lib.hid (show cb ≠ SB by omega)
  have HCBO := Lib.hid (show ∀ k, (Value.slice ua n uc).ownBlock = some k → k ≠ cb ∧ k ≠ rb from fun k hk => by have := (ho.lt k hk).2; omega)
  have HB2 := Lib.hid hb2
  have HCB := Lib.hid hcb
  have HRBE := Lib.hid hrb
  have HW2 := Lib.hid hw2
  have HBAS := Lib.hid (Nat.le_trans hb hb2.size)
  have HCS := Lib.hid (show cb < w2.heap.size ∧ rb < w2.heap.size from ⟨hclt, (Array.getElem?_eq_some_iff.1 hr2).1⟩)
  clear g ho hcb hrb hw2 hb1 hs1 hb12 hb2 hc2 hr2 g2 ho2 hclt hslt hb hsl0
  go_enter Try.func15, Try.ntmps15
  go_wp2_with fail
  rw [← HW2.out, ← HRBE.out, ← HCB.out]
  refine wp_region_fill (by kernel_rfl) (by kernel_rfl) (by kernel_rfl) (fun w' => Below w2.heap.size w2 w') (fun j v _ => AtF SB cb ky j v) (Below.drew (Below.refl _ _)) ?_ ?_
  · intro j o ho V w7 K hJ hdep hK
    have HJ := Lib.hid hJ
    simp only [fill, slotOf, List.size_toArray, List.length_cons, List.length_nil, Nat.reduceAdd, List.getElem?_toArray, List.getElem?_cons_zero, List.getElem?_cons_succ, Option.bind_some, Act.put, List.setIfInBounds_toArray, List.set_cons_zero, List.set_cons_succ] at hK ⊢
    have hin : j < 10 := (Array.getElem?_eq_some_iff.1 ho).1
    have hcs : j = 0 ∨ j = 1 ∨ j = 2 ∨ j = 3 ∨ j = 4 ∨ j = 5 ∨ j = 6 ∨ j = 7 ∨ j = 8 ∨ j = 9 := by omega
    clear hin
    rcases hcs with rfl | rfl | rfl | rfl | rfl | rfl | rfl | rfl | rfl | rfl
    · obtain rfl := Option.some.inj ho.symm
      clear hdep ho hJ
      try simp only [fill, slotOf, List.size_toArray, List.length_cons, List.length_nil, Nat.reduceAdd, List.getElem?_toArray, List.getElem?_cons_zero, List.getElem?_cons_succ, Option.bind_some, Act.put, List.setIfInBounds_toArray, List.set_cons_zero, List.set_cons_succ] at hK ⊢
      go_simp
      exact hK (.pointer (some ⟨SB, 0, none⟩)) _ HJ.out rfl (fun j y h => h) _ rfl
    · obtain rfl := Option.some.inj ho.symm
      clear hdep ho hJ
      try simp only [fill, slotOf, List.size_toArray, List.length_cons, List.length_nil, Nat.reduceAdd, List.getElem?_toArray, List.getElem?_cons_zero, List.getElem?_cons_succ, Option.bind_some, Act.put, List.setIfInBounds_toArray, List.set_cons_zero, List.set_cons_succ] at hK ⊢
      go_simp
      exact hK (.pointer (some ⟨cb, 1, none⟩)) _ HJ.out rfl (fun j y h => h) _ rfl
    · obtain rfl := Option.some.inj ho.symm
      have d1 : V 1 = .pointer (some ⟨cb, 1, none⟩) := hdep ⟨1, .data⟩ (by simp) rfl
      have cc := (HC.out w7 HJ.out).2.1
      clear hdep ho hJ
      try simp only [fill, slotOf, List.size_toArray, List.length_cons, List.length_nil, Nat.reduceAdd, List.getElem?_toArray, List.getElem?_cons_zero, List.getElem?_cons_succ, Option.bind_some, Act.put, List.setIfInBounds_toArray, List.set_cons_zero, List.set_cons_succ] at hK ⊢
      rw [d1] at hK ⊢
      go_simp
      exact hK (.string ky) _ HJ.out rfl (fun j y h => h) _ rfl
    · obtain rfl := Option.some.inj ho.symm
      have d0 : V 0 = .pointer (some ⟨SB, 0, none⟩) := hdep ⟨0, .data⟩ (by simp) rfl
      have d2 : V 2 = .string ky := hdep ⟨2, .data⟩ (by simp) rfl
      clear hdep ho hJ
      try simp only [fill, slotOf, List.size_toArray, List.length_cons, List.length_nil, Nat.reduceAdd, List.getElem?_toArray, List.getElem?_cons_zero, List.getElem?_cons_succ, Option.bind_some, Act.put, List.setIfInBounds_toArray, List.set_cons_zero, List.set_cons_succ] at hK ⊢
      rw [d0, d2] at hK ⊢
      go_simp
      refine (at_none (HS.out w7 HJ.out).1 ky).mono ?_
      rintro e w8 ⟨rfl, rfl⟩
      exact hK (.int .i64 (-1)) _ HJ.out rfl (fun j y h => h) _ rfl
    · obtain rfl := Option.some.inj ho.symm
      clear hdep ho hJ
      try simp only [fill, slotOf, List.size_toArray, List.length_cons, List.length_nil, Nat.reduceAdd, List.getElem?_toArray, List.getElem?_cons_zero, List.getElem?_cons_succ, Option.bind_some, Act.put, List.setIfInBounds_toArray, List.set_cons_zero, List.set_cons_succ] at hK ⊢
      go_simp
      exact hK (.pointer (some ⟨SB, 0, none⟩)) _ HJ.out rfl (fun j y h => h) _ rfl
    · obtain rfl := Option.some.inj ho.symm
      clear hdep ho hJ
      try simp only [fill, slotOf, List.size_toArray, List.length_cons, List.length_nil, Nat.reduceAdd, List.getElem?_toArray, List.getElem?_cons_zero, List.getElem?_cons_succ, Option.bind_some, Act.put, List.setIfInBounds_toArray, List.set_cons_zero, List.set_cons_succ] at hK ⊢
      go_simp
      exact hK (.pointer (some ⟨cb, 6, none⟩)) _ HJ.out rfl (fun j y h => h) _ rfl
    · obtain rfl := Option.some.inj ho.symm
      have d5 : V 5 = .pointer (some ⟨cb, 6, none⟩) := hdep ⟨5, .data⟩ (by simp) rfl
      have cc := (HC.out w7 HJ.out).2.2
      clear hdep ho hJ
      try simp only [fill, slotOf, List.size_toArray, List.length_cons, List.length_nil, Nat.reduceAdd, List.getElem?_toArray, List.getElem?_cons_zero, List.getElem?_cons_succ, Option.bind_some, Act.put, List.setIfInBounds_toArray, List.set_cons_zero, List.set_cons_succ] at hK ⊢
      rw [d5] at hK ⊢
      go_simp
      exact hK (.int .i64 0) _ HJ.out rfl (fun j y h => h) _ rfl
    · obtain rfl := Option.some.inj ho.symm
      have d4 : V 4 = .pointer (some ⟨SB, 0, none⟩) := hdep ⟨4, .data⟩ (by simp) rfl
      have d6 : V 6 = .int .i64 0 := hdep ⟨6, .data⟩ (by simp) rfl
      clear hdep ho hJ
      try simp only [fill, slotOf, List.size_toArray, List.length_cons, List.length_nil, Nat.reduceAdd, List.getElem?_toArray, List.getElem?_cons_zero, List.getElem?_cons_succ, Option.bind_some, Act.put, List.setIfInBounds_toArray, List.set_cons_zero, List.set_cons_succ] at hK ⊢
      rw [d4, d6] at hK ⊢
      go_simp
      refine (open_none (HS.out w7 HJ.out).1 (HS.out w7 HJ.out).2 hn100).mono ?_
      rintro e w8 ⟨rfl, rfl⟩
      exact hK (.int .i64 (-1)) _ HJ.out rfl (fun j y h => h) _ rfl
    · obtain rfl := Option.some.inj ho.symm
      have d3 : V 3 = .int .i64 (-1) := hdep ⟨3, .data⟩ (by simp) rfl
      clear hdep ho hJ
      try simp only [fill, slotOf, List.size_toArray, List.length_cons, List.length_nil, Nat.reduceAdd, List.getElem?_toArray, List.getElem?_cons_zero, List.getElem?_cons_succ, Option.bind_some, Act.put, List.setIfInBounds_toArray, List.set_cons_zero, List.set_cons_succ] at hK ⊢
      rw [d3] at hK ⊢
      go_simp
      exact hK (.int .i64 (-1)) _ HJ.out rfl (fun j y h => h) _ rfl
    · obtain rfl := Option.some.inj ho.symm
      have d7 : V 7 = .int .i64 (-1) := hdep ⟨7, .data⟩ (by simp) rfl
      clear hdep ho hJ
      try simp only [fill, slotOf, List.size_toArray, List.length_cons, List.length_nil, Nat.reduceAdd, List.getElem?_toArray, List.getElem?_cons_zero, List.getElem?_cons_succ, Option.bind_some, Act.put, List.setIfInBounds_toArray, List.set_cons_zero, List.set_cons_succ] at hK ⊢
      rw [d7] at hK ⊢
      go_simp
      exact hK (.int .i64 (-1)) _ HJ.out rfl (fun j y h => h) _ rfl
  · intro V w7 hJ hall
    have d8 : V 8 = .int .i64 (-1) := hall 8 (by decide)
    have d9 : V 9 = .int .i64 (-1) := hall 9 (by decide)
    have HB7 := Lib.hid hJ
    clear hall hJ
    simp only [fill, slotOf, List.size_toArray, List.length_cons, List.length_nil, Nat.reduceAdd, List.getElem?_toArray, List.getElem?_cons_zero, List.getElem?_cons_succ, Option.bind_some, Act.put, List.setIfInBounds_toArray, List.set_cons_zero, List.set_cons_succ]
    rw [d8, d9]
    clear d8 d9
    have k0 := (HC.out w7 HB7.out).1
    have k1 := (HC.out w7 HB7.out).2.1
    go_wp2_with fail
    refine (key13_any ky w7).mono ?_
    rintro e w8 ⟨⟨b, rfl⟩, hb8⟩
    have HB8 := Lib.hid (HB7.out.trans (hb8.mono HB7.out.size))
    clear hb8 k0 k1
    cases b with
    | false =>
      go_wp2_with fail
      refine (bad_any 1 w8).mono ?_
      rintro e w9 ⟨rfl, hb9⟩
      have hb9' := HB8.out.trans (hb9.mono HB8.out.size)
      have hr9 : w9.heap[rb]? = some (.cells #[.int .i64 0, .slice none 0 0, .int .i64 0, .int .i64 0, .int .i64 0, .slice none 0 0, .bool false] 45 (0, 0)) := (hb9'.block rb HCS.out.2).trans HRB.out
      have HR9 := Lib.hid hr9
      have e0 := fun j => cell_setRow_same w9 rb j _ #[.int .i64 1, .slice none 0 0, .int .i64 0, .int .i64 0, .int .i64 0, .slice none 0 0, .bool false] _ _ hr9
      have q0 := e0 0
      have q1 := e0 1
      have q2 := e0 2
      have q3 := e0 3
      have q4 := e0 4
      have q5 := e0 5
      have q6 := e0 6
      have HE := Lib.hid (show (∃ a m c f', m ≤ n + 1 ∧ (w9.setRow rb #[.int .i64 1, .slice none 0 0, .int .i64 0, .int .i64 0, .int .i64 0, .slice none 0 0, .bool false]).heap[SB]? = some (.cells (stA (.slice a m c) m now) 34 (0, 0)) ∧ (w9.setRow rb #[.int .i64 1, .slice none 0 0, .int .i64 0, .int .i64 0, .int .i64 0, .slice none 0 0, .bool false]).ownsRow base 72 4 (.slice a m c) m (ucells ky m f')) ∧ StKept w (w9.setRow rb #[.int .i64 1, .slice none 0 0, .int .i64 0, .int .i64 0, .int .i64 0, .slice none 0 0, .bool false]) SB (Value.slice ua n uc).ownBlock from by
        obtain ⟨h1, h2⟩ := HS.out w9 hb9'
        have h3 := HKK.out w9 hb9'
        refine ⟨⟨ua, n, uc, f, Nat.le_succ n, (setRow_other w9 rb SB _ HRBS.out.symm).trans h1, h2.kept (row := some rb) ⟨rfl, rfl, rfl, by simp, fun k _ hk => setRow_other w9 rb k _ (fun e => hk (by rw [e]))⟩ (.inr (own_ne_blk h2 hr9 (by decide)))⟩, ⟨h3.os, h3.tape, h3.output, by rw [setRow_size]; exact h3.size, fun k hk hp ho => (setRow_other w9 rb k _ (by have := HRBW.out; omega)).trans (h3.block k hk hp ho)⟩⟩)
      clear e0 hr9 hb9 hb9'
      go_wp2_with (refine wpList_store_row rfl 45 (.tmp 4) (.tmp 254) rfl rb #[.int .i64 1, .slice none 0 0, .int .i64 0, .int .i64 0, .int .i64 0, .slice none 0 0, .bool false] rfl rfl 45 _ HR9.out (by kernel_rfl) (by rfl) (by simp [Value.oneCell']) ?_)
      exact bodyPost_ret (v := .agg #[.int .i64 1, .slice none 0 0, .int .i64 0, .int .i64 0, .int .i64 0, .slice none 0 0, .bool false]) (by simp [results, Try.results15, go_sem, q0, q1, q2, q3, q4, q5, q6]) rfl ⟨⟨_, rfl⟩, HE.out.1, HE.out.2⟩
    | true =>
      have s1 := cell_blk (HS.out w8 HB8.out).1 (i := 1) (u := .slice ua n uc) rfl
      have s3 := cell_blk (HS.out w8 HB8.out).1 (i := 3) (u := .int .i64 (n : Int)) rfl
      have f3 := fro_blk (HS.out w8 HB8.out).1 3
      have wn : IntKind.i64.wrap ((n : Int) + 1) = (n : Int) + 1 := IntWalk.i64_in _ (by omega)
      have zn : ¬ (512 : Int) ≤ (n : Int) := by omega
      have HSW := Lib.hid (show (w8.setCell ⟨SB, 3, none⟩ (.int .i64 ((n : Int) + 1))).drew.heap[SB]? = some (.cells (stA (.slice ua n uc) (n + 1) now) 34 (0, 0)) from (heap_setCell_same w8 SB 3 _ _ _ (HS.out w8 HB8.out).1).trans rfl)
      have HOW := Lib.hid (show (w8.setCell ⟨SB, 3, none⟩ (.int .i64 ((n : Int) + 1))).drew.ownsRow base 72 4 (.slice ua n uc) n (ucells ky n f) from ownsRow_setCell_below (HS.out w8 HB8.out).2 hSB _)
      have HKW := Lib.hid (show StKept w (w8.setCell ⟨SB, 3, none⟩ (.int .i64 ((n : Int) + 1))) SB (Value.slice ua n uc).ownBlock from (HKK.out w8 HB8.out).set 3 _)
      have HCW := Lib.hid (show (w8.setCell ⟨SB, 3, none⟩ (.int .i64 ((n : Int) + 1))).drew.cell? ⟨cb, 1, none⟩ = some (.string ky) from (World.cell?_of_block (w := w8) (Below.heap_setCell w8 ⟨SB, 3, none⟩ _ cb HCBN.out)).trans (HC.out w8 HB8.out).2.1)
      have HBW := Lib.hid (show base ≤ (w8.setCell ⟨SB, 3, none⟩ (.int .i64 ((n : Int) + 1))).drew.heap.size from by have := HBAS.out; have := HB8.out.size; simp [World.setCell]; omega)
      have HRW := Lib.hid (show (w8.setCell ⟨SB, 3, none⟩ (.int .i64 ((n : Int) + 1))).heap[rb]? = some (.cells #[.int .i64 0, .slice none 0 0, .int .i64 0, .int .i64 0, .int .i64 0, .slice none 0 0, .bool false] 45 (0, 0)) from (Below.heap_setCell w8 ⟨SB, 3, none⟩ _ rb HRBS.out).trans ((HB8.out.block rb HCS.out.2).trans HRB.out))
      go_wp2_with fail
      refine wp_region_inv (by kernel_rfl) (by kernel_rfl) (by kernel_rfl) (CrI w base SB cb rb n ua uc f now ky) (fun V => ⟨fun _ h => Bool.noConfusion h, fun h => Bool.noConfusion h, fun h => Bool.noConfusion h, fun h => Bool.noConfusion h, fun h => Bool.noConfusion h, fun _ => HOW.out, fun h => Bool.noConfusion h, fun h => Bool.noConfusion h, fun _ => HSW.out, fun h => Bool.noConfusion h, HKW.out.drew, HCW.out, HBW.out, HRW.out⟩) ?_ ?_
      · intro j o ho L V w7 K hI hL hdep hK
        have HI := Lib.hid hI
        simp only [fill, slotOf, List.size_toArray, List.length_cons, List.length_nil, Nat.reduceAdd, List.getElem?_toArray, List.getElem?_cons_zero, List.getElem?_cons_succ, Option.bind_some, Act.put, List.setIfInBounds_toArray, List.set_cons_zero, List.set_cons_succ] at hK ⊢
        have hin : j < 21 := (Array.getElem?_eq_some_iff.1 ho).1
        have hcs : j = 0 ∨ j = 1 ∨ j = 2 ∨ j = 3 ∨ j = 4 ∨ j = 5 ∨ j = 6 ∨ j = 7 ∨ j = 8 ∨ j = 9 ∨ j = 10 ∨ j = 11 ∨ j = 12 ∨ j = 13 ∨ j = 14 ∨ j = 15 ∨ j = 16 ∨ j = 17 ∨ j = 18 ∨ j = 19 ∨ j = 20 := by omega
        clear hin
        rcases hcs with rfl | rfl | rfl | rfl | rfl | rfl | rfl | rfl | rfl | rfl | rfl | rfl | rfl | rfl | rfl | rfl | rfl | rfl | rfl | rfl | rfl
        · obtain rfl := Option.some.inj ho.symm
          clear hdep ho hI hL
          try simp only [fill, slotOf, List.size_toArray, List.length_cons, List.length_nil, Nat.reduceAdd, List.getElem?_toArray, List.getElem?_cons_zero, List.getElem?_cons_succ, Option.bind_some, Act.put, List.setIfInBounds_toArray, List.set_cons_zero, List.set_cons_succ] at hK ⊢
          go_simp
          exact hK (.pointer (some ⟨SB, 0, none⟩)) _ (HI.out.put 0 _ (by decide) (by decide) (by decide) (.inl (by decide)) rfl) _ rfl
        · obtain rfl := Option.some.inj ho.symm
          clear hdep ho hI hL
          try simp only [fill, slotOf, List.size_toArray, List.length_cons, List.length_nil, Nat.reduceAdd, List.getElem?_toArray, List.getElem?_cons_zero, List.getElem?_cons_succ, Option.bind_some, Act.put, List.setIfInBounds_toArray, List.set_cons_zero, List.set_cons_succ] at hK ⊢
          go_simp
          exact hK (.pointer (some ⟨SB, 0, none⟩)) _ (HI.out.put 1 _ (by decide) (by decide) (by decide) (.inl (by decide)) rfl) _ rfl
        · obtain rfl := Option.some.inj ho.symm
          have d1 : V 1 = .pointer (some ⟨SB, 0, none⟩) := hI.val 1 (hdep ⟨1, .data⟩ (by simp) rfl)
          clear hdep ho hI hL
          try simp only [fill, slotOf, List.size_toArray, List.length_cons, List.length_nil, Nat.reduceAdd, List.getElem?_toArray, List.getElem?_cons_zero, List.getElem?_cons_succ, Option.bind_some, Act.put, List.setIfInBounds_toArray, List.set_cons_zero, List.set_cons_succ] at hK ⊢
          rw [d1] at hK ⊢
          go_simp
          exact hK (.pointer (some ⟨SB, 0, none⟩)) _ (HI.out.put 2 _ (by decide) (by decide) (by decide) (.inl (by decide)) rfl) _ rfl
        · obtain rfl := Option.some.inj ho.symm
          have d2 : V 2 = .pointer (some ⟨SB, 0, none⟩) := hI.val 2 (hdep ⟨2, .data⟩ (by simp) rfl)
          clear hdep ho hI hL
          try simp only [fill, slotOf, List.size_toArray, List.length_cons, List.length_nil, Nat.reduceAdd, List.getElem?_toArray, List.getElem?_cons_zero, List.getElem?_cons_succ, Option.bind_some, Act.put, List.setIfInBounds_toArray, List.set_cons_zero, List.set_cons_succ] at hK ⊢
          rw [d2] at hK ⊢
          go_simp
          exact hK (.pointer (some ⟨SB, 1, none⟩)) _ (HI.out.put 3 _ (by decide) (by decide) (by decide) (.inl (by decide)) rfl) _ rfl
        · obtain rfl := Option.some.inj ho.symm
          have d3 : V 3 = .pointer (some ⟨SB, 1, none⟩) := hI.val 3 (hdep ⟨3, .data⟩ (by simp) rfl)
          have cc := cell_blk (hI.sb (by cases e : L 20 with | false => rfl | true => exact absurd hL (by rw [(hI.d17 (hI.d20 e).1).2]; decide))) (i := 1) (u := .slice ua n uc) rfl
          clear hdep ho hI hL
          try simp only [fill, slotOf, List.size_toArray, List.length_cons, List.length_nil, Nat.reduceAdd, List.getElem?_toArray, List.getElem?_cons_zero, List.getElem?_cons_succ, Option.bind_some, Act.put, List.setIfInBounds_toArray, List.set_cons_zero, List.set_cons_succ] at hK ⊢
          rw [d3] at hK ⊢
          go_simp
          exact hK (.slice ua n uc) _ (HI.out.put 4 _ (by decide) (by decide) (by decide) (.inl (by decide)) rfl) _ rfl
        · obtain rfl := Option.some.inj ho.symm
          clear hdep ho hI hL
          try simp only [fill, slotOf, List.size_toArray, List.length_cons, List.length_nil, Nat.reduceAdd, List.getElem?_toArray, List.getElem?_cons_zero, List.getElem?_cons_succ, Option.bind_some, Act.put, List.setIfInBounds_toArray, List.set_cons_zero, List.set_cons_succ] at hK ⊢
          go_simp
          exact hK (.pointer (some ⟨SB, 0, none⟩)) _ (HI.out.put 5 _ (by decide) (by decide) (by decide) (.inl (by decide)) rfl) _ rfl
        · obtain rfl := Option.some.inj ho.symm
          have d5 : V 5 = .pointer (some ⟨SB, 0, none⟩) := hI.val 5 (hdep ⟨5, .data⟩ (by simp) rfl)
          clear hdep ho hI hL
          try simp only [fill, slotOf, List.size_toArray, List.length_cons, List.length_nil, Nat.reduceAdd, List.getElem?_toArray, List.getElem?_cons_zero, List.getElem?_cons_succ, Option.bind_some, Act.put, List.setIfInBounds_toArray, List.set_cons_zero, List.set_cons_succ] at hK ⊢
          rw [d5] at hK ⊢
          go_simp
          exact hK (.pointer (some ⟨SB, 0, none⟩)) _ (HI.out.put 6 _ (by decide) (by decide) (by decide) (.inl (by decide)) rfl) _ rfl
        · obtain rfl := Option.some.inj ho.symm
          have d6 : V 6 = .pointer (some ⟨SB, 0, none⟩) := hI.val 6 (hdep ⟨6, .data⟩ (by simp) rfl)
          clear hdep ho hI hL
          try simp only [fill, slotOf, List.size_toArray, List.length_cons, List.length_nil, Nat.reduceAdd, List.getElem?_toArray, List.getElem?_cons_zero, List.getElem?_cons_succ, Option.bind_some, Act.put, List.setIfInBounds_toArray, List.set_cons_zero, List.set_cons_succ] at hK ⊢
          rw [d6] at hK ⊢
          go_simp
          exact hK (.pointer (some ⟨SB, 3, none⟩)) _ (HI.out.put 7 _ (by decide) (by decide) (by decide) (.inl (by decide)) rfl) _ rfl
        · obtain rfl := Option.some.inj ho.symm
          have d7 : V 7 = .pointer (some ⟨SB, 3, none⟩) := hI.val 7 (hdep ⟨7, .data⟩ (by simp) rfl)
          have cc := cell_blk (hI.sb (by cases e : L 20 with | false => rfl | true => exact absurd hL (by rw [(hI.d20 e).2.1]; decide))) (i := 3) (u := .int .i64 ((n + 1 : Nat) : Int)) rfl
          clear hdep ho hI hL
          try simp only [fill, slotOf, List.size_toArray, List.length_cons, List.length_nil, Nat.reduceAdd, List.getElem?_toArray, List.getElem?_cons_zero, List.getElem?_cons_succ, Option.bind_some, Act.put, List.setIfInBounds_toArray, List.set_cons_zero, List.set_cons_succ] at hK ⊢
          rw [d7] at hK ⊢
          go_simp
          exact hK (.int .i64 ((n + 1 : Nat) : Int)) _ (HI.out.put 8 _ (by decide) (by decide) (by decide) (.inl (by decide)) rfl) _ rfl
        · obtain rfl := Option.some.inj ho.symm
          clear hdep ho hI hL
          try simp only [fill, slotOf, List.size_toArray, List.length_cons, List.length_nil, Nat.reduceAdd, List.getElem?_toArray, List.getElem?_cons_zero, List.getElem?_cons_succ, Option.bind_some, Act.put, List.setIfInBounds_toArray, List.set_cons_zero, List.set_cons_succ] at hK ⊢
          go_simp
          exact hK (.pointer (some ⟨SB, 0, none⟩)) _ (HI.out.put 9 _ (by decide) (by decide) (by decide) (.inl (by decide)) rfl) _ rfl
        · obtain rfl := Option.some.inj ho.symm
          have d9 : V 9 = .pointer (some ⟨SB, 0, none⟩) := hI.val 9 (hdep ⟨9, .data⟩ (by simp) rfl)
          clear hdep ho hI hL
          try simp only [fill, slotOf, List.size_toArray, List.length_cons, List.length_nil, Nat.reduceAdd, List.getElem?_toArray, List.getElem?_cons_zero, List.getElem?_cons_succ, Option.bind_some, Act.put, List.setIfInBounds_toArray, List.set_cons_zero, List.set_cons_succ] at hK ⊢
          rw [d9] at hK ⊢
          go_simp
          exact hK (.pointer (some ⟨SB, 0, none⟩)) _ (HI.out.put 10 _ (by decide) (by decide) (by decide) (.inl (by decide)) rfl) _ rfl
        · obtain rfl := Option.some.inj ho.symm
          have d10 : V 10 = .pointer (some ⟨SB, 0, none⟩) := hI.val 10 (hdep ⟨10, .data⟩ (by simp) rfl)
          clear hdep ho hI hL
          try simp only [fill, slotOf, List.size_toArray, List.length_cons, List.length_nil, Nat.reduceAdd, List.getElem?_toArray, List.getElem?_cons_zero, List.getElem?_cons_succ, Option.bind_some, Act.put, List.setIfInBounds_toArray, List.set_cons_zero, List.set_cons_succ] at hK ⊢
          rw [d10] at hK ⊢
          go_simp
          exact hK (.pointer (some ⟨SB, 4, none⟩)) _ (HI.out.put 11 _ (by decide) (by decide) (by decide) (.inl (by decide)) rfl) _ rfl
        · obtain rfl := Option.some.inj ho.symm
          have d11 : V 11 = .pointer (some ⟨SB, 4, none⟩) := hI.val 11 (hdep ⟨11, .data⟩ (by simp) rfl)
          have cc := cell_blk (hI.sb (by cases e : L 20 with | false => rfl | true => exact absurd hL (by rw [(hI.d20 e).2.2]; decide))) (i := 4) (u := .int .i64 now) rfl
          clear hdep ho hI hL
          try simp only [fill, slotOf, List.size_toArray, List.length_cons, List.length_nil, Nat.reduceAdd, List.getElem?_toArray, List.getElem?_cons_zero, List.getElem?_cons_succ, Option.bind_some, Act.put, List.setIfInBounds_toArray, List.set_cons_zero, List.set_cons_succ] at hK ⊢
          rw [d11] at hK ⊢
          go_simp
          exact hK (.int .i64 now) _ (HI.out.put 12 _ (by decide) (by decide) (by decide) (.inl (by decide)) rfl) _ rfl
        · obtain rfl := Option.some.inj ho.symm
          clear hdep ho hI hL
          try simp only [fill, slotOf, List.size_toArray, List.length_cons, List.length_nil, Nat.reduceAdd, List.getElem?_toArray, List.getElem?_cons_zero, List.getElem?_cons_succ, Option.bind_some, Act.put, List.setIfInBounds_toArray, List.set_cons_zero, List.set_cons_succ] at hK ⊢
          go_simp
          exact hK (.pointer (some ⟨cb, 1, none⟩)) _ (HI.out.put 13 _ (by decide) (by decide) (by decide) (.inl (by decide)) rfl) _ rfl
        · obtain rfl := Option.some.inj ho.symm
          have d13 : V 13 = .pointer (some ⟨cb, 1, none⟩) := hI.val 13 (hdep ⟨13, .data⟩ (by simp) rfl)
          have cc := hI.cbk
          clear hdep ho hI hL
          try simp only [fill, slotOf, List.size_toArray, List.length_cons, List.length_nil, Nat.reduceAdd, List.getElem?_toArray, List.getElem?_cons_zero, List.getElem?_cons_succ, Option.bind_some, Act.put, List.setIfInBounds_toArray, List.set_cons_zero, List.set_cons_succ] at hK ⊢
          rw [d13] at hK ⊢
          go_simp
          exact hK (.string ky) _ (HI.out.put 14 _ (by decide) (by decide) (by decide) (.inl (by decide)) rfl) _ rfl
        · obtain rfl := Option.some.inj ho.symm
          have d8 : V 8 = .int .i64 ((n + 1 : Nat) : Int) := hI.val 8 (hdep ⟨8, .data⟩ (by simp) rfl)
          have d12 : V 12 = .int .i64 now := hI.val 12 (hdep ⟨12, .data⟩ (by simp) rfl)
          have d14 : V 14 = .string ky := hI.val 14 (hdep ⟨14, .data⟩ (by simp) rfl)
          have hdep8 := hdep ⟨8, .data⟩ (by simp) rfl
          have hdep12 := hdep ⟨12, .data⟩ (by simp) rfl
          clear hdep ho hI hL
          try simp only [fill, slotOf, List.size_toArray, List.length_cons, List.length_nil, Nat.reduceAdd, List.getElem?_toArray, List.getElem?_cons_zero, List.getElem?_cons_succ, Option.bind_some, Act.put, List.setIfInBounds_toArray, List.set_cons_zero, List.set_cons_succ] at hK ⊢
          rw [d8, d12, d14] at hK ⊢
          go_simp
          exact hK (.agg #[.int .i64 ((n + 1 : Nat) : Int), .int .i64 now, .string ky, .slice none 0 0]) _ (HI.out.put 15 _ (by decide) (by decide) (by decide) (.inr ⟨hdep8, hdep12⟩) rfl) _ rfl
        · obtain rfl := Option.some.inj ho.symm
          have d15 : V 15 = .agg #[.int .i64 ((n + 1 : Nat) : Int), .int .i64 now, .string ky, .slice none 0 0] := hI.val 15 (hdep ⟨15, .data⟩ (by simp) rfl)
          have hdep15 := hdep ⟨15, .data⟩ (by simp) rfl
          clear hdep ho hI
          try simp only [fill, slotOf, List.size_toArray, List.length_cons, List.length_nil, Nat.reduceAdd, List.getElem?_toArray, List.getElem?_cons_zero, List.getElem?_cons_succ, Option.bind_some, Act.put, List.setIfInBounds_toArray, List.set_cons_zero, List.set_cons_succ] at hK ⊢
          rw [d15] at hK ⊢
          go_simp
          exact hK (.slice (some ⟨w7.heap.size, 0, none⟩) 1 1) _ (HI.out.made hL hdep15) _ rfl
        · obtain rfl := Option.some.inj ho.symm
          have d4 : V 4 = .slice ua n uc := hI.val 4 (hdep ⟨4, .data⟩ (by simp) rfl)
          have l16 := hdep ⟨16, .data⟩ (by simp) rfl
          have l4 := hdep ⟨4, .data⟩ (by simp) rfl
          have HOW := Lib.hid (HI.out.own hL)
          refine (HI.out.lit l16).elim fun g hg => ?_
          have d16 := hg.1
          have HNW := Lib.hid (hg.2 hL)
          have HBS := Lib.hid HI.out.bas
          clear hdep ho hI hg
          try simp only [fill, slotOf, List.size_toArray, List.length_cons, List.length_nil, Nat.reduceAdd, List.getElem?_toArray, List.getElem?_cons_zero, List.getElem?_cons_succ, Option.bind_some, Act.put, List.setIfInBounds_toArray, List.set_cons_zero, List.set_cons_succ] at hK ⊢
          rw [d4, d16] at hK ⊢
          clear d16
          refine step_append_up (by first | rfl | kernel_rfl) (.tmp 274) (.tmp 286) rfl rfl HOW.out rfl rfl HNW.out (fun u hu => by simp at hu; rcases hu with rfl | rfl | rfl | rfl <;> rfl) (by omega) HBS.out (fun a c w8 ho8 hg8 => ?_)
          exact hK (.slice a (n + 1) c) _ (HI.out.appd hSB HCBO.out hL l16 l4 ho8 hg8) _ rfl
        · obtain rfl := Option.some.inj ho.symm
          have d0 : V 0 = .pointer (some ⟨SB, 0, none⟩) := hI.val 0 (hdep ⟨0, .data⟩ (by simp) rfl)
          clear hdep ho hI hL
          try simp only [fill, slotOf, List.size_toArray, List.length_cons, List.length_nil, Nat.reduceAdd, List.getElem?_toArray, List.getElem?_cons_zero, List.getElem?_cons_succ, Option.bind_some, Act.put, List.setIfInBounds_toArray, List.set_cons_zero, List.set_cons_succ] at hK ⊢
          rw [d0] at hK ⊢
          go_simp
          exact hK (.pointer (some ⟨SB, 0, none⟩)) _ (HI.out.put 18 _ (by decide) (by decide) (by decide) (.inl (by decide)) rfl) _ rfl
        · obtain rfl := Option.some.inj ho.symm
          have d18 : V 18 = .pointer (some ⟨SB, 0, none⟩) := hI.val 18 (hdep ⟨18, .data⟩ (by simp) rfl)
          clear hdep ho hI hL
          try simp only [fill, slotOf, List.size_toArray, List.length_cons, List.length_nil, Nat.reduceAdd, List.getElem?_toArray, List.getElem?_cons_zero, List.getElem?_cons_succ, Option.bind_some, Act.put, List.setIfInBounds_toArray, List.set_cons_zero, List.set_cons_succ] at hK ⊢
          rw [d18] at hK ⊢
          go_simp
          exact hK (.pointer (some ⟨SB, 1, none⟩)) _ (HI.out.put 19 _ (by decide) (by decide) (by decide) (.inl (by decide)) rfl) _ rfl
        · obtain rfl := Option.some.inj ho.symm
          have d19 : V 19 = .pointer (some ⟨SB, 1, none⟩) := hI.val 19 (hdep ⟨19, .data⟩ (by simp) rfl)
          have l17 := hdep ⟨17, .data⟩ (by simp) rfl
          have HSBK := Lib.hid (HI.out.sb hL)
          refine (HI.out.app l17).elim fun a ha => ha.elim fun c hc => ?_
          have d17 := hc.1
          have HD17 := Lib.hid hc.1
          have l8 := (HI.out.l812 l17).1
          have l12 := (HI.out.l812 l17).2
          clear hdep ho hI ha hc
          try simp only [fill, slotOf, List.size_toArray, List.length_cons, List.length_nil, Nat.reduceAdd, List.getElem?_toArray, List.getElem?_cons_zero, List.getElem?_cons_succ, Option.bind_some, Act.put, List.setIfInBounds_toArray, List.set_cons_zero, List.set_cons_succ] at hK ⊢
          rw [d19, d17] at hK ⊢
          clear d17
          refine step_store_sl (cell_blk HSBK.out (i := 1) rfl) (fro_blk HSBK.out 1) (by first | rfl | kernel_rfl) (.tmp 289) (.tmp 287) rfl rfl rfl ?_
          exact hK undef _ (HI.out.stored hSB ⟨HCBN.out, HRBS.out⟩ hL l17 l8 l12 HD17.out) _ rfl
      · intro L V w7 hI hall
        obtain ⟨a7, c7, hv7, hs7⟩ := hI.sb2 (hall 20 (by decide))
        obtain ⟨a8, c8, hv8, ho8⟩ := hI.app (hall 17 (by decide))
        rw [hv7] at hv8
        simp only [Value.slice.injEq, true_and] at hv8
        obtain ⟨rfl, rfl⟩ := hv8
        have HS7 := Lib.hid hs7
        have HO7 := Lib.hid ho8
        have HK7 := Lib.hid hI.kept
        have HRB7 := Lib.hid (show ∃ old : Array Value, old.size = 7 ∧ w7.heap[rb]? = some (.cells old 45 (0, 0)) from ⟨_, rfl, hI.rbk⟩)
        clear hall hI hs7 ho8 hv7
        simp only [fill, slotOf, List.size_toArray, List.length_cons, List.length_nil, Nat.reduceAdd, List.getElem?_toArray, List.getElem?_cons_zero, List.getElem?_cons_succ, Option.bind_some, Act.put, List.setIfInBounds_toArray, List.set_cons_zero, List.set_cons_succ]
        go_wp2_with fail
        refine wp_region_fill (by kernel_rfl) (by kernel_rfl) (by kernel_rfl) (fun w' => RpJ w (Value.slice ua n uc).ownBlock base SB rb n a7 c7 f now ky w') (RpF SB rb n now) ⟨HS7.out, HO7.out, HK7.out.drew, HRB7.out⟩ ?_ ?_
        · intro j o ho V w9 K hJ hdep hK
          have HJ := Lib.hid hJ
          simp only [fill, slotOf, List.size_toArray, List.length_cons, List.length_nil, Nat.reduceAdd, List.getElem?_toArray, List.getElem?_cons_zero, List.getElem?_cons_succ, Option.bind_some, Act.put, List.setIfInBounds_toArray, List.set_cons_zero, List.set_cons_succ] at hK ⊢
          have hin : j < 10 := (Array.getElem?_eq_some_iff.1 ho).1
          have hcs : j = 0 ∨ j = 1 ∨ j = 2 ∨ j = 3 ∨ j = 4 ∨ j = 5 ∨ j = 6 ∨ j = 7 ∨ j = 8 ∨ j = 9 := by omega
          clear hin
          rcases hcs with rfl | rfl | rfl | rfl | rfl | rfl | rfl | rfl | rfl | rfl
          · obtain rfl := Option.some.inj ho.symm
            clear hdep ho hJ
            try simp only [fill, slotOf, List.size_toArray, List.length_cons, List.length_nil, Nat.reduceAdd, List.getElem?_toArray, List.getElem?_cons_zero, List.getElem?_cons_succ, Option.bind_some, Act.put, List.setIfInBounds_toArray, List.set_cons_zero, List.set_cons_succ] at hK ⊢
            go_simp
            exact hK (.pointer (some ⟨SB, 0, none⟩)) _ HJ.out rfl (fun j y h => h) _ rfl
          · obtain rfl := Option.some.inj ho.symm
            have d0 : V 0 = .pointer (some ⟨SB, 0, none⟩) := hdep ⟨0, .data⟩ (by simp) rfl
            clear hdep ho hJ
            try simp only [fill, slotOf, List.size_toArray, List.length_cons, List.length_nil, Nat.reduceAdd, List.getElem?_toArray, List.getElem?_cons_zero, List.getElem?_cons_succ, Option.bind_some, Act.put, List.setIfInBounds_toArray, List.set_cons_zero, List.set_cons_succ] at hK ⊢
            rw [d0] at hK ⊢
            go_simp
            exact hK (.pointer (some ⟨SB, 0, none⟩)) _ HJ.out rfl (fun j y h => h) _ rfl
          · obtain rfl := Option.some.inj ho.symm
            have d1 : V 1 = .pointer (some ⟨SB, 0, none⟩) := hdep ⟨1, .data⟩ (by simp) rfl
            clear hdep ho hJ
            try simp only [fill, slotOf, List.size_toArray, List.length_cons, List.length_nil, Nat.reduceAdd, List.getElem?_toArray, List.getElem?_cons_zero, List.getElem?_cons_succ, Option.bind_some, Act.put, List.setIfInBounds_toArray, List.set_cons_zero, List.set_cons_succ] at hK ⊢
            rw [d1] at hK ⊢
            go_simp
            exact hK (.pointer (some ⟨SB, 3, none⟩)) _ HJ.out rfl (fun j y h => h) _ rfl
          · obtain rfl := Option.some.inj ho.symm
            have d2 : V 2 = .pointer (some ⟨SB, 3, none⟩) := hdep ⟨2, .data⟩ (by simp) rfl
            have cc := cell_blk HJ.out.1 (i := 3) (u := .int .i64 ((n + 1 : Nat) : Int)) rfl
            clear hdep ho hJ
            try simp only [fill, slotOf, List.size_toArray, List.length_cons, List.length_nil, Nat.reduceAdd, List.getElem?_toArray, List.getElem?_cons_zero, List.getElem?_cons_succ, Option.bind_some, Act.put, List.setIfInBounds_toArray, List.set_cons_zero, List.set_cons_succ] at hK ⊢
            rw [d2] at hK ⊢
            go_simp
            exact hK (.int .i64 ((n + 1 : Nat) : Int)) _ HJ.out rfl (fun j y h => h) _ rfl
          · obtain rfl := Option.some.inj ho.symm
            clear hdep ho hJ
            try simp only [fill, slotOf, List.size_toArray, List.length_cons, List.length_nil, Nat.reduceAdd, List.getElem?_toArray, List.getElem?_cons_zero, List.getElem?_cons_succ, Option.bind_some, Act.put, List.setIfInBounds_toArray, List.set_cons_zero, List.set_cons_succ] at hK ⊢
            go_simp
            exact hK (.pointer (some ⟨SB, 0, none⟩)) _ HJ.out rfl (fun j y h => h) _ rfl
          · obtain rfl := Option.some.inj ho.symm
            have d4 : V 4 = .pointer (some ⟨SB, 0, none⟩) := hdep ⟨4, .data⟩ (by simp) rfl
            clear hdep ho hJ
            try simp only [fill, slotOf, List.size_toArray, List.length_cons, List.length_nil, Nat.reduceAdd, List.getElem?_toArray, List.getElem?_cons_zero, List.getElem?_cons_succ, Option.bind_some, Act.put, List.setIfInBounds_toArray, List.set_cons_zero, List.set_cons_succ] at hK ⊢
            rw [d4] at hK ⊢
            go_simp
            exact hK (.pointer (some ⟨SB, 0, none⟩)) _ HJ.out rfl (fun j y h => h) _ rfl
          · obtain rfl := Option.some.inj ho.symm
            have d5 : V 5 = .pointer (some ⟨SB, 0, none⟩) := hdep ⟨5, .data⟩ (by simp) rfl
            clear hdep ho hJ
            try simp only [fill, slotOf, List.size_toArray, List.length_cons, List.length_nil, Nat.reduceAdd, List.getElem?_toArray, List.getElem?_cons_zero, List.getElem?_cons_succ, Option.bind_some, Act.put, List.setIfInBounds_toArray, List.set_cons_zero, List.set_cons_succ] at hK ⊢
            rw [d5] at hK ⊢
            go_simp
            exact hK (.pointer (some ⟨SB, 4, none⟩)) _ HJ.out rfl (fun j y h => h) _ rfl
          · obtain rfl := Option.some.inj ho.symm
            have d6 : V 6 = .pointer (some ⟨SB, 4, none⟩) := hdep ⟨6, .data⟩ (by simp) rfl
            have cc := cell_blk HJ.out.1 (i := 4) (u := .int .i64 now) rfl
            clear hdep ho hJ
            try simp only [fill, slotOf, List.size_toArray, List.length_cons, List.length_nil, Nat.reduceAdd, List.getElem?_toArray, List.getElem?_cons_zero, List.getElem?_cons_succ, Option.bind_some, Act.put, List.setIfInBounds_toArray, List.set_cons_zero, List.set_cons_succ] at hK ⊢
            rw [d6] at hK ⊢
            go_simp
            exact hK (.int .i64 now) _ HJ.out rfl (fun j y h => h) _ rfl
          · obtain rfl := Option.some.inj ho.symm
            have d3 : V 3 = .int .i64 ((n + 1 : Nat) : Int) := hdep ⟨3, .data⟩ (by simp) rfl
            have d7 : V 7 = .int .i64 now := hdep ⟨7, .data⟩ (by simp) rfl
            clear hdep ho hJ
            try simp only [fill, slotOf, List.size_toArray, List.length_cons, List.length_nil, Nat.reduceAdd, List.getElem?_toArray, List.getElem?_cons_zero, List.getElem?_cons_succ, Option.bind_some, Act.put, List.setIfInBounds_toArray, List.set_cons_zero, List.set_cons_succ] at hK ⊢
            rw [d3, d7] at hK ⊢
            go_simp
            exact hK (.agg #[.int .i64 0, .slice none 0 0, .int .i64 0, .int .i64 now, .int .i64 ((n + 1 : Nat) : Int), .slice none 0 0, .bool false]) _ HJ.out rfl (fun j y h => h) _ rfl
          · obtain rfl := Option.some.inj ho.symm
            have d8 : V 8 = .agg #[.int .i64 0, .slice none 0 0, .int .i64 0, .int .i64 now, .int .i64 ((n + 1 : Nat) : Int), .slice none 0 0, .bool false] := hdep ⟨8, .data⟩ (by simp) rfl
            clear hdep ho hJ
            try simp only [fill, slotOf, List.size_toArray, List.length_cons, List.length_nil, Nat.reduceAdd, List.getElem?_toArray, List.getElem?_cons_zero, List.getElem?_cons_succ, Option.bind_some, Act.put, List.setIfInBounds_toArray, List.set_cons_zero, List.set_cons_succ] at hK ⊢
            rw [d8] at hK ⊢
            refine HJ.out.2.2.2.elim fun old hol => ?_
            rw [if_pos (by first | rfl | kernel_rfl)]
            refine wp_store_row 45 (.tmp 4) (.tmp 298) rfl rb #[.int .i64 0, .slice none 0 0, .int .i64 0, .int .i64 now, .int .i64 ((n + 1 : Nat) : Int), .slice none 0 0, .bool false] rfl rfl 45 old hol.2 (by kernel_rfl) hol.1 (by simp [Value.oneCell']) ?_
            exact hK undef _ (HJ.out.set HRBW.out HRBS.out) (setRow_heap w9 rb old _ _ _ hol.2) (RpF.set (setRow_heap w9 rb old _ _ _ hol.2)) _ rfl
        · intro V w9 hJ hall
          have hr9 : w9.heap[rb]? = some (.cells #[.int .i64 0, .slice none 0 0, .int .i64 0, .int .i64 now, .int .i64 ((n + 1 : Nat) : Int), .slice none 0 0, .bool false] 45 (0, 0)) := hall 9 (by decide)
          have q := fun j u (h : (#[.int .i64 0, .slice none 0 0, .int .i64 0, .int .i64 now, .int .i64 ((n + 1 : Nat) : Int), .slice none 0 0, .bool false] : Array Value)[j]? = some u) => cell_blk hr9 h
          have q0 := q 0 _ rfl
          have q1 := q 1 _ rfl
          have q2 := q 2 _ rfl
          have q3 := q 3 _ rfl
          have q4 := q 4 _ rfl
          have q5 := q 5 _ rfl
          have q6 := q 6 _ rfl
          have HE := Lib.hid hJ
          clear hall hJ hr9 q
          simp only [fill, slotOf, List.size_toArray, List.length_cons, List.length_nil, Nat.reduceAdd, List.getElem?_toArray, List.getElem?_cons_zero, List.getElem?_cons_succ, Option.bind_some, Act.put, List.setIfInBounds_toArray, List.set_cons_zero, List.set_cons_succ]
          go_wp2_with fail
          exact bodyPost_ret (v := .agg #[.int .i64 0, .slice none 0 0, .int .i64 0, .int .i64 now, .int .i64 ((n + 1 : Nat) : Int), .slice none 0 0, .bool false]) (by simp [results, Try.results15, go_sem, q0, q1, q2, q3, q4, q5, q6]) rfl ⟨⟨_, rfl⟩, ⟨a7, n + 1, c7, _, Nat.le_refl _, HE.out.1, by rw [ucells_snoc ky n f now]; exact HE.out.2.1⟩, HE.out.2.2.1⟩
end Go.Proofs.Ytpgpgpbckjginaa
