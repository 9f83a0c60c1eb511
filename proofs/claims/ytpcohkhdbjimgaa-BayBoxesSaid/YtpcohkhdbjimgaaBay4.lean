/- The document's box: Put and Take, walked. -/
import Derived.Test.YtpcohkhdbjimgaaBay3
namespace Go.Proofs.Ytpcohkhdbjimgaa
open Go.RowKit Go.Conc
set_option linter.unusedVariables false

/-- the document's box -/
structure RAt (w : World) (P room : Nat) (a : Option Addr) (c : Nat) (xs : List Int) : Prop where
  blk : w.heap[P]? = some (.cells #[.slice a xs.length c, .int .i64 (room : Int)] 34 (0, 0))
  row : IntsAt w a xs.length c xs
  ne : ∀ b off s, a = some ⟨b, off, s⟩ → b ≠ P
theorem RAt.c0 {w : World} {P room : Nat} {a : Option Addr} {c : Nat} {xs : List Int} (h : RAt w P room a c xs) : w.cell? ⟨P, 0, none⟩ = some (.slice a xs.length c) := by rw [cell_of_row w P 0 _ _ (0, 0) h.blk]; rfl
theorem RAt.c1 {w : World} {P room : Nat} {a : Option Addr} {c : Nat} {xs : List Int} (h : RAt w P room a c xs) : w.cell? ⟨P, 1, none⟩ = some (.int .i64 (room : Int)) := by rw [cell_of_row w P 1 _ _ (0, 0) h.blk]; rfl
theorem RAt.f {w : World} {P room : Nat} {a : Option Addr} {c : Nat} {xs : List Int} (h : RAt w P room a c xs) (j : Nat) : w.frozen? ⟨P, j, none⟩ = false := frozen_of_row w P j _ _ h.blk
theorem RAt.lt {w : World} {P room : Nat} {a : Option Addr} {c : Nat} {xs : List Int} (h : RAt w P room a c xs) : P < w.heap.size := (Array.getElem?_eq_some_iff.1 h.blk).1
theorem RAt.kept {w w' : World} {P room : Nat} {a : Option Addr} {c : Nat} {xs : List Int} (h : RAt w P room a c xs) (hb : Below w.heap.size w w') : RAt w' P room a c xs :=
  ⟨by rw [hb.block P h.lt]; exact h.blk, h.row.kept hb, h.ne⟩
theorem grown_set (w : World) (g j : Nat) (u : Value) : w.grownBy (w.setCell ⟨g, j, none⟩ u) (some g) :=
  ⟨rfl, rfl, rfl, by simp, fun k _ hk => heap_setCell_other w ⟨g, j, none⟩ k u (fun e => hk (by simp [e]))⟩
/-- another slice laid into its field -/
theorem RAt.laid {w : World} {P room : Nat} {a a' : Option Addr} {c c' : Nat} {ys : List Int} {n : Nat} (h : w.heap[P]? = some (.cells #[.slice a n c, .int .i64 (room : Int)] 34 (0, 0))) (hr : IntsAt w a' ys.length c' ys) (hne : ∀ b off s, a' = some ⟨b, off, s⟩ → b ≠ P) : RAt (w.setCell ⟨P, 0, none⟩ (.slice a' ys.length c')) P room a' c' ys := by
  have hs := heap_setCell_same w P 0 _ _ (.slice a' ys.length c') h
  refine ⟨by rw [hs]; simp, hr.grown (grown_set w P 0 _) (fun b off e _ h => ?_), hne⟩
  simp only [Option.some.injEq] at h
  exact hne b off none e h.symm
/-- what was turned is a channel's block, or new memory -/
theorem RAt.chan {w w' : World} {P room C : Nat} {a : Option Addr} {c : Nat} {xs : List Int} (h : RAt w P room a c xs) (hg : w.grownBy w' (some C)) {cap s r : Nat} {buf : Array Value} {cl tm : Bool} (hc : w.heap[C]? = some (.chan cap buf cl s r tm)) : RAt w' P room a c xs := by
  have hne : some P ≠ some C := fun e => by
    simp only [Option.some.injEq] at e
    rw [← e, h.blk] at hc; cases hc
  exact ⟨by rw [hg.block P h.lt hne]; exact h.blk, h.row.grown hg (h.row.ne_chan hc), h.ne⟩
/-- a box of the program's is apart from the document's -/
theorem BoxAt.aside {w w' : World} {B C room P : Nat} {xs : List Int} (h : BoxAt w B C room xs) {cs : Array Value} (hp : w.heap[P]? = some (.cells cs 34 (0, 0))) (hg : w.grownBy w' (some P)) : BoxAt w' B C room xs := by
  refine h.grown' hg (fun e => ?_) (fun e => ?_)
  · simp only [Option.some.injEq] at e
    rw [e, h.blk] at hp
    simp at hp
  · simp only [Option.some.injEq] at e
    obtain ⟨s, r, hc⟩ := h.ch
    rw [e, hc] at hp
    cases hp

theorem wpList_append_ints {w : World} {ops : Array Oper} {rest : List Oper} {o : Oper} {a : Act} {Q : Exit → Act → World → Prop} (hgd : o.guard = none) (s x : Operand)
    (ho : o.op = .call { callee := .builtin .append, args := #[s, x], argTypes := #[30, 30] })
    (base : Nat) (v : Value) (n : Nat) (xs : List Int) (hs : a.eval s = v) (hown : w.ownsRow base 3 1 v n (iv xs))
    (src : Option Addr) (m c : Nat) (ys : List Int) (hx : a.eval x = .slice src m c) (hb : IntsAt w src m c ys)
    (h63 : (n + m) * 8 ≤ 140737488355328) (hbase : base ≤ w.heap.size)
    (h : ∀ v' w', w'.ownsRow base 3 1 v' (n + m) (iv (xs ++ ys)) → w.grownBy w' v.ownBlock → wpList Try.prog ops Q rest (a.put o.dst v') w') : wpList Try.prog ops Q (o :: rest) a w := by
  obtain ⟨i0, hi, hz0, hz1, hz2⟩ := info_parts int_info
  rcases src with _ | ad
  · have hc := hb.nl rfl
    have hm : m = 0 := by have := hb.cap; omega
    subst hm
    subst hc
    have hy : ys = [] := List.eq_nil_of_length_eq_zero hb.len
    subst hy
    refine wpList_append_own_none hgd s x 30 ho base 3 i0 1 Try.underlying30 hi v n (iv xs) hs hown hx ?_
    exact h v w (by simpa using hown) (World.grownBy.refl _ _)
  · refine wpList_append_own_at w hgd s x 30 ho base 3 i0 (.int .i64 0) 1 8 Try.underlying30 hi hz0 hz1 hz2 rfl (by decide) v n (iv xs) hs hown ad m c (iv ys) hx (by rw [iv_length, hb.len]; omega) hb.src (iv_one _) (by unfold maxLen; omega) h63 hbase ?_
    intro v' w' h1 h2 _ _
    exact h v' w' (by rw [iv_append]; exact h1) h2

set_option maxRecDepth 100000 in
set_option maxHeartbeats 1000000 in
theorem rput_full {w : World} {P room : Nat} {a : Option Addr} {c : Nat} {xs : List Int} (h : RAt w P room a c xs) (x : Int) (hl : room ≤ xs.length) :
    Calls Try.prog 14 #[.pointer (some ⟨P, 0, none⟩), .int .i64 x] w fun e w' => e = .returned (.bool false) ∧ ∃ n, w' = w.drewN n := by
  have c0 := h.c0
  have c1 := h.c1
  have hli : (room : Int) ≤ (xs.length : Int) := by omega
  clear h
  go_enter Try.func14, Try.ntmps14
  go_wp2_with fail
  go_quiet (fail)
  go_wp2_with fail
  go_ret
  exact ⟨rfl, _, rfl⟩

set_option maxRecDepth 100000 in
set_option maxHeartbeats 2000000 in
theorem rput_room {w : World} {P room : Nat} {a : Option Addr} {c : Nat} {xs : List Int} (h : RAt w P room a c xs) (x : Int) (hl : xs.length < room) (hr : room ≤ 2048) :
    Calls Try.prog 14 #[.pointer (some ⟨P, 0, none⟩), .int .i64 x] w fun e w' => e = .returned (.bool true) ∧ (∃ a' c', RAt w' P room a' c' (xs ++ [x])) ∧ w.grownBy w' (some P) := by
  obtain ⟨i0, hi, hz0, hz1, hz2⟩ := info_parts int_info
  have c0 := h.c0
  have c1 := h.c1
  have hf := h.f 0
  have hlt := h.lt
  have hli : (xs.length : Int) < (room : Int) := by omega
  have HH := Lib.hid h
  obtain ⟨n, hn⟩ : ∃ n, n = xs.length := ⟨_, rfl⟩
  rw [← hn] at c0 hli
  have HN := Lib.hid hn
  have hn2 : n ≤ 2048 := by omega
  clear h hn
  go_enter Try.func14, Try.ntmps14
  go_wp2_with fail
  go_quiet (fail)
  rename Nat => nq
  have hb1 : Below w.heap.size w ((w.drewN nq).alloc (.cells #[] 3)) := (below_drewN (Below.refl _ _) nq).alloc (Nat.le_refl _) _
  have HB1 := Lib.hid hb1
  have HO1 := Lib.hid (show ((w.drewN nq).alloc (.cells #[] 3)).ownsRow w.heap.size 3 1 (.slice (some ⟨w.heap.size, 0, none⟩) 0 0) 0 (iv []) from World.ownsRow_lit (base := w.heap.size) (e := 3) (size := 1) (w.drewN nq) #[] 0 (Nat.le_refl _) (by unfold maxLen; omega) rfl)
  have HR1 := Lib.hid (HH.out.kept hb1)
  have dw : (w.alloc (.cells #[] 3)).cell? ⟨P, 0, none⟩ = some (.slice a n c) := (((Below.refl w.heap.size w).alloc (Nat.le_refl _) _).cell (p := ⟨P, 0, none⟩) hlt).trans c0
  have dw2 : ((w.drewN nq).alloc (.cells #[] 3)).cell? ⟨P, 0, none⟩ = some (.slice a n c) := dw
  clear hb1
  go_wp2_with (at_builtin; refine wpList_append_ints rfl (.tmp 16) (.tmp 20) rfl w.heap.size _ _ [] rfl HO1.out _ _ _ xs rfl (by have := HR1.out.row; rw [← HN.out] at this; exact this) (by omega) HB1.out.size ?_)
  intro v2 w2 ho2 hg2
  have HB2 := Lib.hid (show Below w.heap.size w w2 from HB1.out.grown hg2 HB1.out.size (fun k hk => (HO1.out.lt k hk).1))
  have hbs2 := HB2.out.size
  have HO2 := Lib.hid (show w2.ownsRow w.heap.size 3 1 v2 n (iv xs) by simpa using ho2)
  clear ho2 hg2
  have HO3 := Lib.hid (HO2.out.alloc (.cells #[.int .i64 x] 3))
  have HB3 := Lib.hid (HB2.out.alloc hbs2 (.cells #[.int .i64 x] 3))
  go_wp2_with (at_builtin; refine wpList_append_own_at _ rfl (.tmp 21) (.tmp 23) 30 rfl w.heap.size 3 i0 (.int .i64 0) 1 8 Try.underlying30 hi hz0 hz1 hz2 rfl (by decide) _ _ _ rfl HO3.out ⟨w2.heap.size, 0, none⟩ 1 1 [.int .i64 x] rfl rfl (one_src _ _ _) (iv_one [x]) (by unfold maxLen; omega) (by omega) (by simp; omega) ?_)
  intro v4 w4 ho4 hg4 _ _
  obtain ⟨g4, c4, rfl⟩ := own_some2 ho4 (by omega)
  have HB4 := Lib.hid (show Below w.heap.size w w4 from HB3.out.grown hg4 (by simp; omega) (fun k hk => (HO3.out.lt k hk).1))
  have ho5 : w4.ownsRow w.heap.size 3 1 (.slice (some ⟨g4, 0, none⟩) (n + 1) c4) (n + 1) (iv (xs ++ [x])) := by rw [iv_append]; exact ho4
  obtain ⟨a9, c9, he9, hat, hge⟩ := IntsAt.ofOwn ho5
  simp only [Value.slice.injEq, true_and] at he9
  obtain ⟨rfl, rfl⟩ := he9
  have HK4 := HH.out.kept HB4.out
  have k0 := HK4.c0
  rw [← HN.out] at k0
  have kf := HK4.f 0
  have hl5 : (xs ++ [x]).length = n + 1 := by rw [List.length_append, HN.out]; rfl
  have HLAID := Lib.hid (show RAt (w4.setCell ⟨P, 0, none⟩ (.slice (some ⟨g4, 0, none⟩) (n + 1) c4)) P room (some ⟨g4, 0, none⟩) c4 (xs ++ [x]) by
    have := RAt.laid (a' := some ⟨g4, 0, none⟩) (c' := c4) (ys := xs ++ [x]) HK4.blk (by rw [hl5]; exact hat) (fun b off s e => by cases e; have := hge g4 0 none rfl; omega)
    rw [hl5] at this
    exact this)
  have HGR := Lib.hid (show w.grownBy (w4.setCell ⟨P, 0, none⟩ (.slice (some ⟨g4, 0, none⟩) (n + 1) c4)) (some P) from grown_over (r2 := some P) (grown_below (r := some P) (World.grownBy.refl _ _) HB4.out) (grown_set _ _ _ _) (fun g e => .inr e))
  clear ho4 hg4 ho5 hat hge HK4
  go_wp2_with fail
  go_ret
  exact ⟨rfl, ⟨_, _, HLAID.out⟩, HGR.out⟩

set_option maxRecDepth 100000 in
set_option maxHeartbeats 2000000 in
theorem rtake_none {w : World} {P room : Nat} {a : Option Addr} {c : Nat} (h : RAt w P room a c []) :
    Calls Try.prog 15 #[.pointer (some ⟨P, 0, none⟩)] w fun e w' => e = .returned (.tuple #[.int .i64 0, .bool false]) ∧ w' = w := by
  have c0 : w.cell? ⟨P, 0, none⟩ = some (.slice a 0 c) := h.c0
  clear h
  go_enter Try.func15, Try.ntmps15
  go_wp2_with fail
  go_ret2
  exact ⟨rfl, rfl⟩
set_option maxRecDepth 100000 in
set_option maxHeartbeats 2000000 in
theorem rtake_some {w : World} {P room : Nat} {a : Option Addr} {c : Nat} {x : Int} {xs : List Int} (h : RAt w P room a c (x :: xs)) :
    Calls Try.prog 15 #[.pointer (some ⟨P, 0, none⟩)] w fun e w' => e = .returned (.tuple #[.int .i64 x, .bool true]) ∧ (∃ a' c', RAt w' P room a' c' xs) ∧ w.grownBy w' (some P) := by
  have c0 := h.c0
  have hf := h.f 0
  have hcap := h.row.cap
  have hcm := h.row.capm
  obtain ⟨b, off, rfl, hlt, hcell⟩ := h.row.cells (by simp)
  have h0 : w.cell? ⟨b, off, none⟩ = some (.int .i64 x) := hcell 0 (by simp)
  have hne := h.ne b off none rfl
  obtain ⟨n, hn⟩ : ∃ n, n = xs.length := ⟨_, rfl⟩
  have hl : (x :: xs).length = n + 1 := by rw [List.length_cons, hn]
  rw [hl] at c0 hcap
  have hz : (((n + 1 : Nat) : Int) == 0) = false := by rw [beq_eq_false_iff_ne]; omega
  have HH := Lib.hid h
  have HL := Lib.hid hl
  have HC := Lib.hid hcell
  by_cases hc1 : c = 1
  · subst hc1
    have hn0 : n = 0 := by omega
    have HX0 := Lib.hid (show xs = [] from List.eq_nil_of_length_eq_zero (by omega))
    subst hn0
    have HLAID := Lib.hid (show RAt (w.setCell ⟨P, 0, none⟩ (.slice (some ⟨b, off, none⟩) 0 0)) P room (some ⟨b, off, none⟩) 0 [] from RAt.laid (ys := []) h.blk (IntsAt.empty _ _ _ (by omega) (fun e => by cases e)) (fun b' off' s e => by cases e; exact hne))
    clear h hl hcell hn
    go_enter Try.func15, Try.ntmps15
    go_wp2_with fail
    go_ret2
    rw [HX0.out]
    exact ⟨rfl, ⟨_, _, HLAID.out⟩, grown_set _ _ _ _⟩
  · have hc2 : 1 < c := by omega
    have hc3 : ¬ c - 1 = 0 := by omega
    have hc4 : ¬ 1 = c := by omega
    have hni : (1 : Int) ≤ ((n + 1 : Nat) : Int) := by omega
    have HLAID := Lib.hid (show RAt (w.setCell ⟨P, 0, none⟩ (.slice (some ⟨b, off + 1, none⟩) n (c - 1))) P room (some ⟨b, off + 1, none⟩) (c - 1) xs by
      have := RAt.laid (a' := some ⟨b, off + 1, none⟩) (c' := c - 1) (ys := xs) h.blk (by
        refine ⟨rfl, by omega, by omega, (fun e => by cases e), fun hp => ⟨b, off + 1, rfl, hlt, fun i hi => ?_⟩⟩
        have := hcell (i + 1) (by rw [List.length_cons]; omega)
        rw [show off + 1 + i = off + (i + 1) by omega, this]; simp) (fun b' off' s e => by cases e; exact hne)
      rw [← hn] at this
      exact this)
    clear h hl hcell hn hc1
    go_enter Try.func15, Try.ntmps15
    go_wp2_with fail
    go_ret2
    exact ⟨rfl, ⟨_, _, HLAID.out⟩, grown_set _ _ _ _⟩
end Go.Proofs.Ytpcohkhdbjimgaa
