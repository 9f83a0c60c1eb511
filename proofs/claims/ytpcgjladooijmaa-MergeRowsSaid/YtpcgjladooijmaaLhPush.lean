/- A heap of lists that a call owns: NewHeap, Len, Push, Pop. Written by mklh2.py. -/
import Derived.Test.YtpcgjladooijmaaLhHeap
import Derived.Lib.SliceRun
import Derived.BigFrame
namespace Go.Proofs.Ytpcgjladooijmaa
open Go.ChangeShapes Go.WideShapes Go.Deep Go.RowKit LabPlain RecPlain Hp
set_option linter.unusedVariables false

/-- nothing that was there is turned, but the heap's cell and its things' block -/
structure HpKept (w w' : World) (p : Nat) (og : Option Nat) : Prop where
  os : w'.os = w.os
  tape : w'.tape = w.tape
  output : w'.output = w.output
  size : w.heap.size ≤ w'.heap.size
  block : ∀ k, k < w.heap.size → k ≠ p → some k ≠ og → w'.heap[k]? = w.heap[k]?
theorem HpKept.refl (w : World) (p : Nat) (og : Option Nat) : HpKept w w p og := ⟨rfl, rfl, rfl, Nat.le_refl _, fun _ _ _ _ => rfl⟩
/-- the next step may turn the heap, its block, and what is new -/
theorem HpKept.trans {a b c : World} {p : Nat} {o1 o2 : Option Nat} (h : HpKept a b p o1) (k : HpKept b c p o2) (h2 : ∀ g, o2 = some g → o1 = some g ∨ a.heap.size ≤ g) : HpKept a c p o1 :=
  ⟨k.os.trans h.os, k.tape.trans h.tape, k.output.trans h.output, Nat.le_trans h.size k.size, fun i hi hp ho => (k.block i (Nat.lt_of_lt_of_le hi h.size) hp (fun e => by
    rcases h2 i e.symm with g | g
    · exact ho g.symm
    · omega)).trans (h.block i hi hp ho)⟩
theorem HpKept.ofBelow {a b : World} (h : Below a.heap.size a b) (p : Nat) (og : Option Nat) : HpKept a b p og := ⟨h.os, h.tape, h.output, h.size, fun k hk _ _ => h.block k hk⟩
theorem HpKept.ofGrown {a b : World} {r : Option Nat} (h : a.grownBy b r) (p : Nat) : HpKept a b p r := ⟨h.os, h.tape, h.output, h.size, fun k hk _ hr => h.block k hk hr⟩
theorem HpKept.ofGrownP {a b : World} {p : Nat} (h : a.grownBy b (some p)) (r : Option Nat) : HpKept a b p r := ⟨h.os, h.tape, h.output, h.size, fun k hk hp _ => h.block k hk (by simpa using hp)⟩
theorem Below.hp {B : Nat} {w0 w w' : World} {p : Nat} {og : Option Nat} (h : Below B w0 w) (k : HpKept w w' p og) (hs : B ≤ w.heap.size) (hp : B ≤ p) (ho : ∀ g, og = some g → B ≤ g) : Below B w0 w' :=
  h.trans ⟨k.os, k.tape, k.output, k.size, fun i hi => k.block i (by omega) (by omega) (fun e => by have := ho i e.symm; omega)⟩
/-- the heap at p: nothing in it yet, or its things in block g -/
def LhO (W w : World) (p q : Nat) (og : Option Nat) (n : Nat) (z : Nat → LsV) : Prop :=
  (W.heap.size ≤ p ∧ Below W.heap.size W w ∧ w.cell? ⟨q, 0, none⟩ = some (.func (.func 35) #[] #[]) ∧ q ≠ p ∧ og ≠ some q ∧ ∀ k, k < n → LsOk W (z k)) ∧
  ((og = none ∧ n = 0 ∧ w.heap[p]? = some (.cells #[.func (.func 77) #[] #[.pointer (some ⟨q, 0, none⟩)], .slice none 0 0] 109 (0, 0))) ∨ ∃ g c, og = some g ∧ W.heap.size ≤ g ∧ c ≤ maxLen ∧ LhAt W w p g q c n z)
theorem LhO.lt {W w : World} {p q n : Nat} {og : Option Nat} {z : Nat → LsV} (h : LhO W w p q og n z) : W.heap.size ≤ p ∧ p < w.heap.size := by
  refine ⟨h.1.1, ?_⟩
  rcases h.2 with ⟨_, _, h1⟩ | ⟨g, c, _, _, _, h1⟩
  · exact (Array.getElem?_eq_some_iff.1 h1).1
  · exact (Array.getElem?_eq_some_iff.1 h1.hd).1
theorem LhO.glt {W w : World} {p q n : Nat} {og : Option Nat} {z : Nat → LsV} (h : LhO W w p q og n z) : ∀ g, og = some g → W.heap.size ≤ g ∧ g < w.heap.size ∧ g ≠ p := by
  intro g hg
  rcases h.2 with ⟨h0, _, h1⟩ | ⟨g', c, hg', hb, _, h1⟩
  · rw [h0] at hg; cases hg
  · rw [hg'] at hg
    cases hg
    obtain ⟨cur, h2, _⟩ := h1.bk
    exact ⟨hb, (Array.getElem?_eq_some_iff.1 h2).1, h1.ne⟩
theorem LhO.kept {W w w' : World} {p q n : Nat} {og : Option Nat} {z : Nat → LsV} (h : LhO W w p q og n z) (hb : Below w.heap.size w w') : LhO W w' p q og n z := by
  have hlt := h.lt.2
  obtain ⟨⟨a1, a2, a3, a4, a5, a6⟩, hh⟩ := h
  refine ⟨⟨a1, a2.trans (hb.mono a2.size), (hb.cell (p := ⟨q, 0, none⟩) (World.block_lt_of_cell? w _ a3)).trans a3, a4, a5, a6⟩, ?_⟩
  rcases hh with ⟨h0, h1, h2⟩ | ⟨g, c, h0, h1, h2, h3⟩
  · exact .inl ⟨h0, h1, (hb.block p hlt).trans h2⟩
  · exact .inr ⟨g, c, h0, h1, h2, h3.kept hb⟩
def lsv (l : List LsV) : List Value := l.map fun x => Value.slice x.a x.n x.c
theorem lsv_length (l : List LsV) : (lsv l).length = l.length := by simp [lsv]
theorem lsv_append (l r : List LsV) : lsv (l ++ r) = lsv l ++ lsv r := by simp [lsv]
theorem lsv_one (l : List LsV) : ∀ u ∈ lsv l, u.oneCell' = true := by
  intro u hu
  simp only [lsv, List.mem_map] at hu
  obtain ⟨x, _, rfl⟩ := hu
  rfl
theorem lst_info : (Try.prog.info? 47).map (fun i => (i.zero, i.size, i.bytes)) = some (some (.slice none 0 0), 1, 24) := by kernel_rfl
/-- the slice that the heap holds -/
theorem LhO.own {W w : World} {p q n : Nat} {og : Option Nat} {z : Nat → LsV} (h : LhO W w p q og n z) : ∃ s, w.heap[p]? = some (.cells #[.func (.func 77) #[] #[.pointer (some ⟨q, 0, none⟩)], s] 109 (0, 0)) ∧ w.ownsRow W.heap.size 47 1 s n (lsv (Lh.hl n z)) ∧ s.ownBlock = og ∧ (∃ a c, s = .slice a n c) := by
  rcases h.2 with ⟨h0, h1, h2⟩ | ⟨g, c, h0, h1, h2, h3⟩
  · subst h1
    exact ⟨_, h2, World.ownsRow_nil _ _ _ _, h0.symm, _, _, rfl⟩
  · obtain ⟨cur, hc, hs, hv⟩ := h3.bk
    have hnc := h3.nc
    refine ⟨_, h3.hd, ⟨by simp [lsv, Lh.hl], .inr ⟨g, c, cur, rfl, h1, hc, h3.nc, h2, by omega, ?_⟩⟩, by rw [h0]; rfl, _, _, rfl⟩
    refine List.ext_getElem? fun i => ?_
    rw [List.getElem?_take, Nat.mul_one]
    by_cases hi : i < n
    · rw [if_pos hi, Array.getElem?_toList, hv i hi]
      simp [lsv, Lh.hl, hi]
    · rw [if_neg hi, List.getElem?_eq_none (by simp [lsv, Lh.hl]; omega)]
/-- and back -/
theorem LhO.ofOwn {W w : World} {p q n : Nat} {z : Nat → LsV} {s : Value} (hp : W.heap.size ≤ p) (hb : Below W.heap.size W w) (hq : w.cell? ⟨q, 0, none⟩ = some (.func (.func 35) #[] #[])) (hqp : q ≠ p) (hqo : s.ownBlock ≠ some q) (hok : ∀ k, k < n → LsOk W (z k)) (h1 : w.heap[p]? = some (.cells #[.func (.func 77) #[] #[.pointer (some ⟨q, 0, none⟩)], s] 109 (0, 0))) (h2 : w.ownsRow W.heap.size 47 1 s n (lsv (Lh.hl n z))) : LhO W w p q s.ownBlock n z := by
  refine ⟨⟨hp, hb, hq, hqp, hqo, hok⟩, ?_⟩
  rcases h2.2 with ⟨rfl, h0⟩ | ⟨g, c, cur, rfl, hg, hh, hnc, hcm, hsz, htake⟩
  · exact .inl ⟨rfl, h0, h1⟩
  · refine .inr ⟨g, c, rfl, hg, hcm, h1, ⟨cur, hh, by omega, fun k hk => ?_⟩, hnc, fun e => ?_, hok, hb, hp, hg, hq, hqp, fun e => hqo (by rw [e]; rfl)⟩
    · have := congrArg (fun l => l[k]?) htake
      simp only [List.getElem?_take, Nat.mul_one, if_pos hk, Array.getElem?_toList] at this
      rw [this]
      simp [lsv, Lh.hl, hk]
    · rw [e, h1] at hh
      have : 109 = 47 := by simpa using (Option.some.inj hh)
      exact absurd this (by decide)
set_option maxRecDepth 100000 in
theorem llen_own {W w : World} {p q n : Nat} {og : Option Nat} {z : Nat → LsV} (h : LhO W w p q og n z) : Calls Try.prog 89 #[.pointer (some ⟨p, 0, none⟩)] w fun e w' => e = .returned (.int .i64 (n : Int)) ∧ Below w.heap.size w w' := by
  obtain ⟨s, hs, hown, _, a, c, rfl⟩ := h.own
  have c1 : w.cell? ⟨p, 1, none⟩ = some (.slice a n c) := cell_blk hs rfl
  clear h hs hown
  go_enter Try.func89, Try.ntmps89
  go_wp2_with fail
  go_ret
  exact ⟨rfl, Below.refl _ _⟩
set_option maxRecDepth 100000 in
theorem lnew_own {w : World} {q : Nat} (hq : w.cell? ⟨q, 0, none⟩ = some (.func (.func 35) #[] #[])) : Calls Try.prog 76 #[.func (.func 77) #[] #[.pointer (some ⟨q, 0, none⟩)]] w fun e w' => e = .returned (.pointer (some ⟨w.heap.size, 0, none⟩)) ∧ w' = w.alloc (.cells #[.func (.func 77) #[] #[.pointer (some ⟨q, 0, none⟩)], .slice none 0 0] 109) := by
  go_enter Try.func76, Try.ntmps76
  go_wp2_with fail
  go_ret
  exact ⟨rfl, rfl⟩
set_option maxRecDepth 100000 in
set_option maxHeartbeats 4000000 in
theorem lpush_own {W w : World} {p q n : Nat} {og : Option Nat} {z : Nat → LsV} {x : LsV} (hx : LsOk W x) (h : LhO W w p q og n z) (hz : Ok (ky z) n) (hn : n < 1000000000) :
    Calls Try.prog 78 #[.pointer (some ⟨p, 0, none⟩), .slice x.a x.n x.c] w fun e w' => e = .returned (.tuple #[]) ∧ (∃ og' y, LhO W w' p q og' (n + 1) y ∧ Ok (ky y) (n + 1) ∧ (Lh.hl (n + 1) y).Perm (Lh.hl n z ++ [x]) ∧ (og' = og ∨ ∃ g, og' = some g ∧ w.heap.size ≤ g)) ∧ HpKept w w' p og := by
  obtain ⟨i0, hi, hz0, hz1, hz2⟩ := info_parts lst_info
  obtain ⟨hwp, hbel, hqc, hqp, hqo, hok⟩ := h.1
  have HQC := Lib.hid hqc
  have HBEL := Lib.hid hbel
  have HOKK := Lib.hid hok
  have HQO := Lib.hid hqo
  have HQP := Lib.hid hqp
  have HX := Lib.hid hx
  obtain ⟨s, hs, hown, hob, a, c, rfl⟩ := h.own
  have hlt := h.lt
  have hpb := hlt.1
  have hpl := hlt.2
  have hglt := h.glt
  have c1 : w.cell? ⟨p, 1, none⟩ = some (.slice a n c) := cell_blk hs rfl
  have f1 : w.frozen? ⟨p, 1, none⟩ = false := by simp [World.frozen?, hs]
  have HO1 := Lib.hid (hown.alloc (.cells #[.slice x.a x.n x.c] 47))
  have HB1 := Lib.hid (show Below w.heap.size w (w.alloc (.cells #[.slice x.a x.n x.c] 47)) from (Below.refl _ _).alloc (Nat.le_refl _) _)
  have HS := Lib.hid hs
  have HZ := Lib.hid hz
  have HOB := Lib.hid hob
  have HGL := Lib.hid hglt
  clear h hs hown hz hob hglt hlt hqc hbel hok hqo hqp hx hwp
  go_enter Try.func78, Try.ntmps78
  go_wp2_with (at_builtin; refine wpList_append_own_at _ rfl (.tmp 12) (.tmp 14) 58 rfl W.heap.size 47 i0 (.slice none 0 0) 1 24 Try.underlying58 hi hz0 hz1 hz2 rfl (by decide) _ _ _ rfl HO1.out ⟨w.heap.size, 0, none⟩ 1 1 [.slice x.a x.n x.c] rfl rfl (one_src _ _ _) (lsv_one [x]) (by unfold maxLen; omega) (by omega) (by simp; omega) ?_)
  intro v4 w4 ho4 hg4 _ hat4
  obtain ⟨g4, c4, rfl⟩ := own_some2 ho4 (by omega)
  have hp4 : w4.heap[p]? = some (.cells #[.func (.func 77) #[] #[.pointer (some ⟨q, 0, none⟩)], .slice a n c] 109 (0, 0)) := by
    rw [hg4.block p (by simp; omega) (fun e => by have := (HGL.out p (by rw [← HOB.out]; exact e.symm)).2.2; exact this rfl), heap_alloc_old w _ hpl]
    exact HS.out
  have c4' : w4.cell? ⟨p, 1, none⟩ = some (.slice a n c) := cell_blk hp4 rfl
  have f4 : w4.frozen? ⟨p, 1, none⟩ = false := by simp [World.frozen?, hp4]
  have hg4p : g4 ≠ p := by
    rcases hat4 with e | e
    · rw [HOB.out] at e
      exact (HGL.out g4 e.symm).2.2
    · have : g4 = w.heap.size + 1 := by simpa [Value.ownBlock] using e
      omega
  have hw5 : ((w4.setCell ⟨p, 1, none⟩ (.slice (some ⟨g4, 0, none⟩) (n + 1) c4))).heap[p]? = some (.cells #[.func (.func 77) #[] #[.pointer (some ⟨q, 0, none⟩)], .slice (some ⟨g4, 0, none⟩) (n + 1) c4] 109 (0, 0)) := heap_setCell_same w4 p 1 _ _ _ hp4
  obtain ⟨z1, hz1⟩ : ∃ z1 : Nat → LsV, z1 = fun k => if k = n then x else z k := ⟨_, rfl⟩
  have hz1n : z1 n = x := by rw [hz1]; exact if_pos rfl
  have hz1k : ∀ k, k < n → z1 k = z k := fun k hk => by rw [hz1]; exact if_neg (by omega)
  have hl0 : Lh.hl (n + 1) z1 = Lh.hl n z ++ [x] := by rw [Lh.hl_succ, Lh.hl_congr hz1k, hz1n]
  have hl1 : lsv (Lh.hl (n + 1) z1) = lsv (Lh.hl n z) ++ [.slice x.a x.n x.c] := by
    rw [hl0, lsv_append]
    rfl
  have ho5 : ((w4.setCell ⟨p, 1, none⟩ (.slice (some ⟨g4, 0, none⟩) (n + 1) c4))).ownsRow W.heap.size 47 1 (.slice (some ⟨g4, 0, none⟩) (n + 1) c4) (n + 1) (lsv (Lh.hl (n + 1) z1)) := by
    rw [hl1]
    exact ho4.kept (grown_set w4 p 1 _) (.inr (fun e => hg4p (Option.some.inj e)))
  have hg4q : g4 ≠ q := by
    rcases hat4 with e | e
    · rw [HOB.out] at e
      intro e2
      exact HQO.out (by rw [← e, ← e2]; rfl)
    · have : g4 = w.heap.size + 1 := by simpa [Value.ownBlock] using e
      have := World.block_lt_of_cell? w _ HQC.out
      simp only at this
      omega
  have hq4 : w4.cell? ⟨q, 0, none⟩ = some (.func (.func 35) #[] #[]) := hg4.cell ((HB1.out.cell (p := ⟨q, 0, none⟩) (World.block_lt_of_cell? w _ HQC.out)).trans HQC.out) (fun e => HQO.out (by rw [← HOB.out]; exact e.symm))
  have hq5 : (w4.setCell ⟨p, 1, none⟩ (.slice (some ⟨g4, 0, none⟩) (n + 1) c4)).cell? ⟨q, 0, none⟩ = some (.func (.func 35) #[] #[]) := cell_set_other hq4 HQP.out
  have hb4 : Below W.heap.size W w4 := (HBEL.out.trans (HB1.out.mono HBEL.out.size)).grown hg4 (by have := HBEL.out.size; simp; omega) (fun k hk => (HO1.out.lt k hk).1)
  have hb5 : Below W.heap.size W (w4.setCell ⟨p, 1, none⟩ (.slice (some ⟨g4, 0, none⟩) (n + 1) c4)) := hb4.setCell (p := ⟨p, 1, none⟩) hpb _
  have hok5 : ∀ k, k < n + 1 → LsOk W (z1 k) := fun k hk => by
    by_cases e : k = n
    · rw [e, hz1n]; exact HX.out
    · rw [hz1k k (by omega)]; exact HOKK.out k (by omega)
  obtain ⟨g5, c5, hge, hgb, hcm, hat5⟩ : ∃ g c, (some g4 : Option Nat) = some g ∧ W.heap.size ≤ g ∧ c ≤ maxLen ∧ LhAt W ((w4.setCell ⟨p, 1, none⟩ (.slice (some ⟨g4, 0, none⟩) (n + 1) c4))) p g q c (n + 1) z1 := by
    rcases (LhO.ofOwn (q := q) hpb hb5 hq5 HQP.out (show (Value.slice (some ⟨g4, 0, none⟩) (n + 1) c4).ownBlock ≠ some q from fun e => hg4q (Option.some.inj e)) hok5 hw5 ho5).2 with ⟨e, _⟩ | ⟨g, c, e, e1, e2, e3⟩
    · cases e
    · exact ⟨g, c, e, e1, e2, e3⟩
  obtain rfl : g4 = g5 := Option.some.inj hge
  obtain rfl : c4 = c5 := by
    have := hw5.symm.trans hat5.hd
    simpa using this
  have HC := Lib.hid (show (Lh.hl (n + 1) z1).Perm (Lh.hl n z ++ [x]) by rw [hl0])
  have hkk : ∀ k, k < n → ky z1 k = ky z k := fun k hk => by unfold ky; rw [hz1k k hk]
  have HU := Lib.hid (show Up (ky z1) (n + 1) n from ⟨fun k h0 hk hne => by rw [hkk _ (by omega), hkk k (by omega)]; exact HZ.out k h0 (by omega), fun k h0 hk he _ => by omega⟩)
  have HG := Lib.hid (show g4 < w.heap.size → og = some g4 from fun hl => by
    rcases hat4 with e | e
    · rw [HOB.out] at e; exact e.symm
    · have : g4 = w.heap.size + 1 := by simpa [Value.ownBlock] using e
      omega)
  have HK := Lib.hid (show HpKept w (w4.setCell ⟨p, 1, none⟩ (.slice (some ⟨g4, 0, none⟩) (n + 1) c4)) p og from
    (((HpKept.ofBelow HB1.out p og).trans (o2 := og) (HpKept.ofGrown (by rw [← HOB.out]; exact hg4) p) (fun _ e => .inl e)).trans (o2 := og) (HpKept.ofGrownP (grown_set w4 p 1 _) og) (fun _ e => .inl e)))
  obtain ⟨w5, hw5e⟩ : ∃ w5, w5 = w4.setCell ⟨p, 1, none⟩ (.slice (some ⟨g4, 0, none⟩) (n + 1) c4) := ⟨_, rfl⟩
  rw [← hw5e] at hat5 HK
  have c5' := hat5.bound
  have HA := Lib.hid hat5
  have HW := Lib.hid hw5e
  have HGE := Lib.hid hgb
  have HCM := Lib.hid hcm
  clear ho4 hg4 hat4 hw5 hz1 hz1n hz1k hl1 hl0 ho5 hat5 hge hgb hcm hg4p hw5e hi hz0 hz2 HO1 HB1 HS HGL HOB c1 f1 hp4 HZ hkk hok5 hb4 hb5 hq4 hq5 hg4q
  have wn : IntKind.i64.wrap ((n : Int) + 1 - 1) = (n : Int) := by rw [IntWalk.i64_in _ (by omega)]; omega
  go_wp2_with (rw [← HW.out])
  go_loopw [4, 5] (fun s4 s5 wr => ∃ (a : Nat) (y : Nat → LsV), s4 = .int .i64 (a : Int) ∧ a ≤ n ∧ Hid (LhAt W wr p g4 q c4 (n + 1) y) ∧ Hid (Up (ky y) (n + 1) a) ∧ Hid ((Lh.hl (n + 1) y).Perm (Lh.hl (n + 1) z1)) ∧ Hid (w5.grownBy wr (some g4))) (fun s4 _ _ => (intOf s4).toNat)
  case atStart => exact ⟨n, z1, by go_num, Nat.le_refl _, HA, HU, Lib.hid (List.Perm.refl _), Lib.hid (World.grownBy.refl _ _)⟩
  case round =>
    clear HA HU
    obtain ⟨a, y, rfl, han, HA, HU, HC2, HG2⟩ := hrel
    rename World => wr
    have HEND := Lib.hid (show Ok (ky y) (n + 1) → (∃ og' y, LhO W wr p q og' (n + 1) y ∧ Ok (ky y) (n + 1) ∧ (Lh.hl (n + 1) y).Perm (Lh.hl n z ++ [x]) ∧ (og' = og ∨ ∃ g, og' = some g ∧ w.heap.size ≤ g)) ∧ HpKept w wr p og from fun hok => by
      refine ⟨⟨some g4, y, ⟨⟨hpb, HA.out.bel, HA.out.bq.1, HA.out.bq.2.1, fun e => HA.out.bq.2.2 (Option.some.inj e).symm, HA.out.ok⟩, .inr ⟨g4, c4, rfl, HGE.out, HCM.out, HA.out⟩⟩, hok, HC2.out.trans HC.out, ?_⟩, HK.out.trans (HpKept.ofGrown HG2.out p) (fun g e => ?_)⟩
      · rcases Nat.lt_or_ge g4 w.heap.size with hg | hg
        · exact .inl (HG.out hg).symm
        · exact .inr ⟨g4, rfl, hg⟩
      · cases e
        rcases Nat.lt_or_ge g4 w.heap.size with hg | hg
        · exact .inl (HG.out hg)
        · exact .inr hg)
    by_cases ha0 : 0 < a
    case neg =>
      have za : ¬ (0 : Int) < (a : Int) := by omega
      have HE := Lib.hid (HEND.out (HU.out.done (.inl (by omega))))
      go_wp2_with fail
      first | go_end0 | go_ret | refine bodyPost_ret (results_none rfl _ _ _) rfl ?_
      exact ⟨rfl, HE.out⟩
    case pos =>
      have za : (0 : Int) < (a : Int) := by omega
      obtain ⟨m, hq⟩ : ∃ m, m = (a - 1) / 2 := ⟨_, rfl⟩
      have wa : IntKind.i64.wrap ((a : Int) - 1) = (a : Int) - 1 := IntWalk.i64_in _ (by omega)
      have wq : Int.tdiv ((a : Int) - 1) 2 = (m : Int) := by rw [Int.tdiv_eq_ediv_of_nonneg (by omega)]; omega
      have wq2 : IntKind.i64.wrap (m : Int) = (m : Int) := IntWalk.i64_in _ (by omega)
      have HQ := Lib.hid hq
      clear hq
      go_wp2_with fail
      refine (lbefore_at HA.out (i := a) (k := m) (by omega) (by have := HQ.out; omega)).mono ?_
      rintro e w6 ⟨rfl, ha6, hb6⟩
      have HA6 := Lib.hid ha6
      have HG6 := Lib.hid (grown_below HG2.out hb6)
      clear ha6
      by_cases hz : ky y a < ky y m
      case pos =>
        have HU6 := Lib.hid (show Up (ky (Lh.sw y a m)) (n + 1) m by rw [ky_sw]; have := HU.out.step ha0 (by omega) (by rw [← HQ.out]; exact hz); rwa [← HQ.out] at this)
        have HC6 := Lib.hid (show (Lh.hl (n + 1) (Lh.sw y a m)).Perm (Lh.hl (n + 1) z1) from (Lh.hl_sw (by omega) (by have := HQ.out; omega)).trans HC2.out)
        rw [decide_eq_true hz]
        clear hz hb6
        go_wp2_with fail
        refine (lswap_at HA6.out (i := a) (k := m) (by omega) (by have := HQ.out; omega)).mono ?_
        rintro e w7 ⟨rfl, ha7, hg7⟩
        have HA7 := Lib.hid ha7
        have HG7 := Lib.hid (grown_over HG6.out hg7 (fun _ e => .inr e))
        have hqa : m < a := by have := HQ.out; omega
        clear ha7 hg7
        go_wp2_with fail
        go_roundw
        case rel => exact ⟨m, Lh.sw y a m, rfl, by omega, HA7, HU6, HC6, HG7⟩
        case measure => simp [intOf]; omega
      case neg =>
        have HE := Lib.hid (show (∃ og' y, LhO W w6 p q og' (n + 1) y ∧ Ok (ky y) (n + 1) ∧ (Lh.hl (n + 1) y).Perm (Lh.hl n z ++ [x]) ∧ (og' = og ∨ ∃ g, og' = some g ∧ w.heap.size ≤ g)) ∧ HpKept w w6 p og by
          obtain ⟨⟨og', y', h1, h2⟩, h3⟩ := HEND.out (HU.out.done (.inr (by rw [← HQ.out]; omega)))
          exact ⟨⟨og', y', h1.kept hb6, h2⟩, h3.trans (o2 := none) (HpKept.ofBelow hb6 p none) (fun g e => by cases e)⟩)
        rw [decide_eq_false hz]
        clear hz hb6
        go_wp2_with fail
        first | go_end0 | go_ret | refine bodyPost_ret (results_none rfl _ _ _) rfl ?_
        exact ⟨rfl, HE.out⟩
set_option maxRecDepth 100000 in
theorem lpop_empty {W w : World} {p q : Nat} {og : Option Nat} {z : Nat → LsV} (h : LhO W w p q og 0 z) : Calls Try.prog 79 #[.pointer (some ⟨p, 0, none⟩)] w fun e w' => e = .returned (.tuple #[.slice none 0 0, .bool false]) ∧ Below w.heap.size w w' := by
  have HH := Lib.hid h
  clear h
  go_enter Try.func79, Try.ntmps79
  go_wp2_with fail
  refine (llen_own HH.out).mono ?_
  rintro e w1 ⟨rfl, hb1⟩
  have HB1 := Lib.hid hb1
  clear hb1
  go_wp2_with fail
  first | go_ret2 | go_ret
  exact ⟨rfl, HB1.out⟩
/-- the last cell cleared, the slice cut -/
theorem lcut_at {W w : World} {p g q c m : Nat} {z : Nat → LsV} (h : LhAt W w p g q c (m + 1) z) (u : Value) : LhAt W ((w.setCell ⟨g, m, none⟩ u).setCell ⟨p, 1, none⟩ (.slice (some ⟨g, 0, none⟩) m c)) p g q c m z := by
  obtain ⟨cur, h1, h2, h3⟩ := h.bk
  have hg1 := heap_setCell_same w g m cur 47 u h1
  have hp1 : (w.setCell ⟨g, m, none⟩ u).heap[p]? = _ := (heap_setCell_other w ⟨g, m, none⟩ p u (fun e => h.ne (by simpa using e.symm))).trans h.hd
  refine ⟨heap_setCell_same _ p 1 _ _ _ hp1, ⟨_, (heap_setCell_other _ ⟨p, 1, none⟩ g _ (fun e => h.ne (by simpa using e))).trans hg1, by rw [Array.size_setIfInBounds]; exact h2, fun k hk => ?_⟩, by have := h.nc; omega, h.ne, fun k hk => h.ok k (by omega), (h.bel.setCell (p := ⟨g, m, none⟩) h.gb u).setCell (p := ⟨p, 1, none⟩) h.pb _, h.pb, h.gb, cell_set_other (cell_set_other h.bq.1 h.bq.2.2) h.bq.2.1, h.bq.2⟩
  rw [Array.getElem?_setIfInBounds_ne (by omega)]
  exact h3 k (by omega)

theorem zero_lst (w : World) : (zeroValue 47).run Try.prog w = .ok (.slice none 0 0) w := by kernel_rfl
set_option maxRecDepth 100000 in
set_option maxHeartbeats 4000000 in
theorem lpop_own {W w : World} {p q m : Nat} {og : Option Nat} {z : Nat → LsV} (h : LhO W w p q og (m + 1) z) (hz : Ok (ky z) (m + 1)) (hn : m < 1000000000) :
    Calls Try.prog 79 #[.pointer (some ⟨p, 0, none⟩)] w fun e w' => e = .returned (.tuple #[.slice (z 0).a (z 0).n (z 0).c, .bool true]) ∧ (∃ y, LhO W w' p q og m y ∧ Ok (ky y) m ∧ (Lh.hl m y ++ [z 0]).Perm (Lh.hl (m + 1) z)) ∧ HpKept w w' p og := by
  have hpb := h.lt.1
  obtain ⟨g, c, rfl, hgb, hcm, hat⟩ : ∃ g c, og = some g ∧ W.heap.size ≤ g ∧ c ≤ maxLen ∧ LhAt W w p g q c (m + 1) z := by
    rcases h.2 with ⟨_, e, _⟩ | h
    · cases e
    · exact h
  have HH := Lib.hid h
  have HAT := Lib.hid hat
  have hzm : Lh.sw z 0 m m = z 0 := by unfold Lh.sw; exact if_pos rfl
  have HC := Lib.hid (show (Lh.hl m (Lh.sw z 0 m) ++ [z 0]).Perm (Lh.hl (m + 1) z) by
    have := Lh.hl_sw (z := z) (i := 0) (k := m) (n := m + 1) (by omega) (by omega)
    rwa [Lh.hl_succ, hzm] at this)
  have HD := Lib.hid (show Dn (ky (Lh.sw z 0 m)) m 0 by rw [ky_sw]; exact ⟨fun k h0 hk hne => by
    unfold sw
    rw [if_neg (by omega), if_neg hne, if_neg (by omega), if_neg (by omega)]
    exact hz k h0 (by omega), fun k _ _ _ h => absurd h (Nat.lt_irrefl 0)⟩)
  have HCM := Lib.hid hcm
  have HGB := Lib.hid hgb
  have HPB := Lib.hid hpb
  have z1 : (((m + 1 : Nat) : Int) == 0) = false := by rw [beq_eq_false_iff_ne]; omega
  have wm : IntKind.i64.wrap (((m + 1 : Nat) : Int) - 1) = (m : Int) := by rw [IntWalk.i64_in _ (by omega)]; omega
  have hnc := hat.nc
  clear h hat hgb hcm hpb hz
  obtain ⟨n, hnm⟩ : ∃ n, n = m + 1 := ⟨_, rfl⟩
  have HNM := Lib.hid hnm
  rw [← hnm] at z1 wm hnc HH HAT
  clear hnm
  go_enter Try.func79, Try.ntmps79
  go_wp2_with fail
  refine (llen_own HH.out).mono ?_
  rintro e w1 ⟨rfl, hb1⟩
  have HA1 := Lib.hid (HAT.out.kept hb1)
  have HK1 := Lib.hid (HpKept.ofBelow hb1 p (some g))
  have c1 := HA1.out.bound
  clear hb1 HH HAT
  go_wp2_with fail
  refine (lswap_at HA1.out (i := 0) (k := m) (by have := HNM.out; omega) (by have := HNM.out; omega)).mono ?_
  rintro e w2 ⟨rfl, ha2, hg2⟩
  have HA2 := Lib.hid ha2
  have HK2 := Lib.hid (HK1.out.trans (HpKept.ofGrown hg2 p) (fun _ e => .inl e))
  have c2 := ha2.bound
  have cx : w2.cell? ⟨g, m, none⟩ = some (.slice (z 0).a (z 0).n (z 0).c) := by
    obtain ⟨cur, h1, _, h3⟩ := ha2.bk
    rw [← hzm]
    exact cell_blk h1 (h3 m (by have := HNM.out; omega))
  have fx : w2.frozen? ⟨g, m, none⟩ = false := by
    obtain ⟨cur, h1, _, h3⟩ := ha2.bk
    simp [World.frozen?, h1]
  have zm1 : (0 : Int) ≤ (m : Int) := by omega
  have zm2 : (m : Int) < (n : Int) := by have := HNM.out; omega
  have zm3 : (m : Int) ≤ (n : Int) := by omega
  have zm4 : (m : Int) ≤ (c : Int) := by omega
  have zn : n - m = 1 := by have := HNM.out; omega
  have cx0 : ∀ j, j < 1 → (w2.cell? ⟨g, m + j, none⟩).isSome = true := fun j hj => by
    obtain rfl : j = 0 := by omega
    rw [Nat.add_zero, cx]
    rfl
  have fx0 : ∀ j, j < 1 → w2.frozen? ⟨g, m + j, none⟩ = false := fun j hj => by
    obtain rfl : j = 0 := by omega
    exact fx
  have hcl : ∀ ty, (Builtin.clear_ #[58] ty #[.slice (some ⟨g, m, none⟩) 1 (c - m)]).run Try.prog w2 = .ok (.tuple #[]) (w2.setCell ⟨g, m, none⟩ (.slice none 0 0)) :=
    fun ty => (Lib.run_clear_slice w2 58 47 ty (.slice none 0 0) Try.underlying58 zero_lst rfl rfl g m 1 (c - m) (by omega) cx0 fx0).trans (by simp [World.setCells])
  clear cx0 fx0
  have hp3 : (w2.setCell ⟨g, m, none⟩ (.slice none 0 0)).heap[p]? = _ := (heap_setCell_other w2 ⟨g, m, none⟩ p _ (fun e => ha2.ne (by simpa using e.symm))).trans ha2.hd
  have c3 : (w2.setCell ⟨g, m, none⟩ (.slice none 0 0)).cell? ⟨p, 1, none⟩ = some (.slice (some ⟨g, 0, none⟩) n c) := cell_blk hp3 rfl
  have f3 : (w2.setCell ⟨g, m, none⟩ (.slice none 0 0)).frozen? ⟨p, 1, none⟩ = false := by simp [World.frozen?, hp3]
  have HA3 := Lib.hid (lcut_at (m := m) (by rw [← HNM.out]; exact ha2) (.slice none 0 0))
  have HK3 := Lib.hid ((HK2.out.trans (HpKept.ofGrown (grown_set w2 g m (.slice none 0 0)) p) (fun _ e => .inl e)).trans (HpKept.ofGrownP (grown_set (w2.setCell ⟨g, m, none⟩ (.slice none 0 0)) p 1 (.slice (some ⟨g, 0, none⟩) m c)) (some g)) (fun _ e => .inl e))
  clear ha2 hg2 fx c1 hp3
  go_wp2_with fail
  refine (lsink_at HA3.out HD.out (by omega)).mono ?_
  rintro e w4 ⟨rfl, ⟨y, ha4, hok4, hc4⟩, hg4⟩
  have HE := Lib.hid (show (∃ y, LhO W w4 p q (some g) m y ∧ Ok (ky y) m ∧ (Lh.hl m y ++ [z 0]).Perm (Lh.hl (m + 1) z)) ∧ HpKept w w4 p (some g) from ⟨⟨y, ⟨⟨HPB.out, ha4.bel, ha4.bq.1, ha4.bq.2.1, fun e => ha4.bq.2.2 (Option.some.inj e).symm, ha4.ok⟩, .inr ⟨g, c, rfl, HGB.out, HCM.out, ha4⟩⟩, hok4, (hc4.append_right _).trans HC.out⟩, HK3.out.trans (HpKept.ofGrown hg4 p) (fun _ e => .inl e)⟩)
  clear ha4 hok4 hc4 hg4 hcl
  go_wp2_with fail
  first | go_ret2 | go_ret
  exact ⟨rfl, HE.out⟩
end Go.Proofs.Ytpcgjladooijmaa
