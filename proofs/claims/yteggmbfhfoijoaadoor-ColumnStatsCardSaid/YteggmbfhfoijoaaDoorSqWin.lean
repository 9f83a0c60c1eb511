/- A window, as walks are told of it; a place taken into what is known. -/
import Derived.Test.YteggmbfhfoijoaaDoorSqAt
import Derived.RegionTactic
namespace Go.Proofs.YteggmbfhfoijoaaDoor
open Go.RowKit
set_option linter.unusedVariables false

/-- what a call may turn that turns two blocks alone, and makes new ones -/
structure Two (A M : Nat) (w w' : World) : Prop where
  os : w'.os = w.os
  tape : w'.tape = w.tape
  output : w'.output = w.output
  size : w.heap.size ≤ w'.heap.size
  block : ∀ k, k < w.heap.size → k ≠ A → k ≠ M → w'.heap[k]? = w.heap[k]?
theorem Two.refl (A M : Nat) (w : World) : Two A M w w := ⟨rfl, rfl, rfl, Nat.le_refl _, fun _ _ _ _ => rfl⟩
theorem Two.trans {A M : Nat} {a b c : World} (h : Two A M a b) (g : Two A M b c) : Two A M a c :=
  ⟨g.os.trans h.os, g.tape.trans h.tape, g.output.trans h.output, Nat.le_trans h.size g.size, fun k hk h1 h2 => (g.block k (Nat.lt_of_lt_of_le hk h.size) h1 h2).trans (h.block k hk h1 h2)⟩
theorem Two.below {A M : Nat} {a w w' : World} (h : Two A M a w) (hb : Below w.heap.size w w') : Two A M a w' :=
  h.trans ⟨hb.os, hb.tape, hb.output, hb.size, fun k hk _ _ => hb.block k hk⟩
theorem Two.setA {A M : Nat} {a w : World} (h : Two A M a w) (i : Nat) (u : Value) : Two A M a (w.setCell ⟨A, i, none⟩ u) :=
  h.trans ⟨rfl, rfl, rfl, by simp [World.setCell], fun k hk h1 _ => Below.heap_setCell _ _ _ _ h1⟩
theorem Two.drewN {A M : Nat} {a w : World} (h : Two A M a w) (q : Nat) : Two A M a (w.drewN q) := ⟨h.os, h.tape, h.output, h.size, h.block⟩
theorem Two.drew {A M : Nat} {a w : World} (h : Two A M a w) : Two A M a w.drew := ⟨h.os, h.tape, h.output, h.size, h.block⟩
theorem Two.grownM {A M : Nat} {a w w' : World} (h : Two A M a w) (hg : w.grownBy w' (some M)) : Two A M a w' :=
  h.trans ⟨hg.os, hg.tape, hg.output, hg.size, fun k hk _ h2 => hg.block k hk (fun e => h2 (by simpa using e))⟩
theorem Two.old {A M B : Nat} {a w w' : World} (h : Two A M w w') (ha : Below B a w) (hA : B ≤ A) (hM : B ≤ M) (hs : B ≤ w.heap.size) : Below B a w' :=
  ha.trans ⟨h.os, h.tape, h.output, h.size, fun k hk => h.block k (by omega) (by omega) (by omega)⟩

theorem heap_set2 {w : World} {B : Nat} {cur : Array Value} {t : TypeId} (g : w.heap[B]? = some (.cells cur t (0, 0))) (i : Nat) (u : Value) : (w.setCell ⟨B, i, none⟩ u).heap[B]? = some (.cells (cur.setIfInBounds i u) t (0, 0)) := heap_setCell_same w B i cur t u g
theorem cell_of {w : World} {B : Nat} {cur : Array Value} {t : TypeId} (g : w.heap[B]? = some (.cells cur t (0, 0))) {i : Nat} {u : Value} (h : cur[i]? = some u) : w.cell? ⟨B, i, none⟩ = some u := by rw [cell_of_row w _ _ _ _ (0, 0) g]; exact h
theorem fro_of {w : World} {B : Nat} {cur : Array Value} {t : TypeId} (g : w.heap[B]? = some (.cells cur t (0, 0))) (i : Nat) : w.frozen? ⟨B, i, none⟩ = false := by simp [World.frozen?, g]

/-- the place ahead of a place (none: -1) -/
def pz (b : List Nat) (i : Nat) : Int := match prev b (k3 b i) i with | none => -1 | some q => (q : Int)
theorem pz_none {b : List Nat} {i : Nat} (h : prev b (k3 b i) i = none) : pz b i = -1 := by simp [pz, h]
theorem pz_some {b : List Nat} {i q : Nat} (h : prev b (k3 b i) i = some q) : pz b i = (q : Int) := by simp [pz, h]

/-- a window over bytes, of which the places before p are known -/
structure WinAt (w0 w : World) (W A M : Nat) (a : Option Addr) (n c ac : Nat) (b : List Nat) (p : Nat) : Prop where
  by_ : BytesAt w0 a n c b
  bel : Below w0.heap.size w0 w
  nW : w0.heap.size ≤ W
  nA : w0.heap.size ≤ A
  nM : w0.heap.size ≤ M
  wa : W ≠ A
  wm : W ≠ M
  am : A ≠ M
  win : w.heap[W]? = some (.cells #[.slice a n c, .map (some M), .slice (some ⟨A, 0, none⟩) n ac] 106 (0, 0))
  hac : n ≤ ac ∧ ac ≤ 9223372036854775807
  ah : ∃ cur, w.heap[A]? = some (.cells cur 3 (0, 0)) ∧ (∀ i, i < n → ∃ z : Int, cur[i]? = some (.int .i64 z)) ∧ ∀ i, i < p → i + 3 ≤ n → cur[i]? = some (.int .i64 (pz b i))
  map : MapIs w M p (fun k => prev b k p)
theorem WinAt.bytes {w0 w : World} {W A M : Nat} {a : Option Addr} {n c ac : Nat} {b : List Nat} {p : Nat} (h : WinAt w0 w W A M a n c ac b p) : BytesAt w a n c b := h.by_.kept h.bel
theorem WinAt.keep {w0 w w' : World} {W A M : Nat} {a : Option Addr} {n c ac : Nat} {b : List Nat} {p : Nat} (h : WinAt w0 w W A M a n c ac b p) (hb : Below w.heap.size w w') : WinAt w0 w' W A M a n c ac b p := by
  obtain ⟨cur, h1, h2, h3⟩ := h.ah
  have lW := (Array.getElem?_eq_some_iff.1 h.win).1
  have lA := (Array.getElem?_eq_some_iff.1 h1).1
  exact ⟨h.by_, h.bel.trans (hb.mono h.bel.size), h.nW, h.nA, h.nM, h.wa, h.wm, h.am, (hb.block W lW).trans h.win, h.hac, ⟨cur, (hb.block A lA).trans h1, h2, h3⟩, h.map.same (hb.block M h.map.lt)⟩

set_option maxRecDepth 100000 in
set_option maxHeartbeats 2000000 in
theorem pass_over {w0 w : World} {W A M : Nat} {a : Option Addr} {n c ac : Nat} {b : List Nat} {p : Nat} (h : WinAt w0 w W A M a n c ac b p) (hp : p < n) (hn : n < p + 3) :
    Calls Tryd.prog 61 #[.pointer (some ⟨W, 0, none⟩), .int .i64 (p : Int)] w fun e w' => e = .returned (.tuple #[]) ∧ WinAt w0 w' W A M a n c ac b (p + 1) ∧ Two A M w w' := by
  have lW := (Array.getElem?_eq_some_iff.1 h.win).1
  have c0 := cell_of h.win (i := 0) (u := .slice a n c) rfl
  have HT := Lib.hid (three_no c0 h.by_.reach (i := p) (by omega) hn lW)
  have HH := Lib.hid h
  clear h c0
  go_enter Tryd.func61, Tryd.ntmps61
  go_wp2_with fail
  refine HT.out.mono ?_
  rintro e w1 ⟨rfl, hb1⟩
  have HB := Lib.hid hb1
  clear hb1
  go_wp2_with fail
  first | go_end0 | refine bodyPost_ret (results_none rfl _ _ _) rfl ?_
  have hb2 := HB.out.trans ((Below.refl (w1.heap.size) w1).alloc (Nat.le_refl _) (.cells #[.int .u8 0, .int .u8 0, .int .u8 0] 133) |>.mono HB.out.size)
  have hk := HH.out.keep hb2
  have hlen := HH.out.by_.len
  refine ⟨rfl, ⟨hk.by_, hk.bel, hk.nW, hk.nA, hk.nM, hk.wa, hk.wm, hk.am, hk.win, hk.hac, ?_, ?_⟩, (Two.refl A M w).below hb2⟩
  · obtain ⟨cur, h1, h2, h3⟩ := hk.ah
    exact ⟨cur, h1, h2, fun i hi h4 => h3 i (by omega) h4⟩
  · exact (hk.map.congr (fun k => (prev_over (by omega)).symm)).mono (Nat.le_succ _)

/-- a place more is known -/
theorem WinAt.passed {w0 w1 w4 w5 : World} {W A M : Nat} {a : Option Addr} {n c ac : Nat} {b : List Nat} {p : Nat} (h : WinAt w0 w1 W A M a n c ac b p) (hp : p + 3 ≤ n) (ht : Two A M w1 w4)
    {cur : Array Value} (g1 : w1.heap[A]? = some (.cells cur 3 (0, 0))) (h2 : ∀ i, i < n → ∃ z : Int, cur[i]? = some (.int .i64 z)) (h3 : ∀ i, i < p → i + 3 ≤ n → cur[i]? = some (.int .i64 (pz b i)))
    {cur' : Array Value} (g4 : w4.heap[A]? = some (.cells cur' 3 (0, 0))) (hc : ∀ i, i ≠ p → cur'[i]? = cur[i]?) (hcp : cur'[p]? = some (.int .i64 (pz b p)))
    (hm : MapIs w5 M (p + 1) (fun j => if j = k3 b p then some p else prev b j p)) (hg : w4.grownBy w5 (some M)) : WinAt w0 w5 W A M a n c ac b (p + 1) ∧ Two A M w1 w5 := by
  have ht5 := ht.grownM hg
  have lW := (Array.getElem?_eq_some_iff.1 h.win).1
  have lA := (Array.getElem?_eq_some_iff.1 g4).1
  refine ⟨⟨h.by_, ht5.old h.bel h.nA h.nM h.bel.size, h.nW, h.nA, h.nM, h.wa, h.wm, h.am, (ht5.block W lW h.wa h.wm).trans h.win, h.hac, ⟨cur', (hg.block A lA (fun e => h.am (by simpa using e))).trans g4, fun i hi => ?_, fun i hi h4 => ?_⟩, ?_⟩, ht5⟩
  · by_cases e : i = p
    · subst e; exact ⟨_, hcp⟩
    · rw [hc i e]; exact h2 i hi
  · by_cases e : i = p
    · subst e; exact hcp
    · rw [hc i e]; exact h3 i (by omega) h4
  · have hlen := h.by_.len
    exact hm.congr (fun k => (prev_step (by omega)).symm)

set_option maxRecDepth 100000 in
set_option maxHeartbeats 4000000 in
theorem pass_any {w0 w : World} {W A M : Nat} {a : Option Addr} {n c ac : Nat} {b : List Nat} {p : Nat} (h : WinAt w0 w W A M a n c ac b p) (hp : p + 3 ≤ n) :
    Calls Tryd.prog 61 #[.pointer (some ⟨W, 0, none⟩), .int .i64 (p : Int)] w fun e w' => e = .returned (.tuple #[]) ∧ WinAt w0 w' W A M a n c ac b (p + 1) ∧ Two A M w w' := by
  have lW := (Array.getElem?_eq_some_iff.1 h.win).1
  have c0 := cell_of h.win (i := 0) (u := .slice a n c) rfl
  have hn := h.by_.reach
  have hlen := h.by_.len
  have hb3 := k3_B3 h.by_.byte p
  have HT := Lib.hid (three_yes c0 h.bytes (i := p) hp lW)
  obtain ⟨⟨p0, p1, p2⟩, hkk⟩ : ∃ k, k = k3 b p := ⟨_, rfl⟩
  rw [← hkk] at HT hb3
  have HKK := Lib.hid hkk
  have HB3 := Lib.hid hb3
  have HH := Lib.hid h
  have hac := h.hac
  have hwa := h.wa
  have hwm := h.wm
  have ham := h.am
  clear h c0 hkk hb3
  go_enter Tryd.func61, Tryd.ntmps61
  go_wp2_with fail
  refine HT.out.mono ?_
  rintro e w1 ⟨rfl, hb1⟩
  have hk1 := HH.out.keep hb1
  have HK1 := Lib.hid hk1
  have HB1 := Lib.hid hb1
  obtain ⟨cur, gA, hz, hq⟩ := hk1.ah
  have lA := (Array.getElem?_eq_some_iff.1 gA).1
  have lM := hk1.map.lt
  have lW1 : W < w1.heap.size := Nat.lt_of_lt_of_le lW hb1.size
  obtain ⟨z, hzp⟩ := hz p (by omega)
  have hpc : p < cur.size := (Array.getElem?_eq_some_iff.1 hzp).1
  have d1 := cell_of hk1.win (i := 1) (u := .map (some M)) rfl
  have d2 := cell_of hk1.win (i := 2) (u := .slice (some ⟨A, 0, none⟩) n ac) rfl
  have dA := cell_of gA hzp
  have fA := fro_of gA p
  have hpn : (p : Int) < (n : Int) := by omega
  -- the world behind the first store
  obtain ⟨ws, hws⟩ : ∃ ws, ws = w1.setCell ⟨A, p, none⟩ (.int .i64 (-1)) := ⟨_, rfl⟩
  have gs : ws.heap[A]? = some (.cells (cur.setIfInBounds p (.int .i64 (-1))) 3 (0, 0)) := by rw [hws]; exact heap_set2 gA p _
  have hss : ws.heap.size = w1.heap.size := by rw [hws]; simp [World.setCell]
  have t1s : Two A M w1 ws := by rw [hws]; exact (Two.refl A M w1).setA p _
  have wins := (t1s.block W lW1 hwa hwm).trans hk1.win
  have ms : MapIs ws M p (fun k => prev b k p) := hk1.map.same (by rw [hws]; exact Below.heap_setCell _ _ _ _ (Ne.symm ham))
  obtain ⟨w3, hw3⟩ : ∃ w3, w3 = ws.alloc (.cells #[.int .u8 (p0 : Int), .int .u8 (p1 : Int), .int .u8 (p2 : Int)] 133) := ⟨_, rfl⟩
  have b3 : Below ws.heap.size ws w3 := by rw [hw3]; exact (Below.refl _ _).alloc (Nat.le_refl _) _
  have gk3 : w3.heap[w1.heap.size]? = some (.cells #[.int .u8 (p0 : Int), .int .u8 (p1 : Int), .int .u8 (p2 : Int)] 133 (0, 0)) := by rw [hw3, ← hss]; exact heap_alloc_new _ _
  have g3 := (b3.block A (by omega)).trans gs
  have win3 := (b3.block W (by omega)).trans wins
  have m3 := ms.same (b3.block M (by omega))
  have t3 : Two A M w1 w3 := t1s.below b3
  have e1 := cell_of win3 (i := 1) (u := .map (some M)) rfl
  have e2 := cell_of win3 (i := 2) (u := .slice (some ⟨A, 0, none⟩) n ac) rfl
  have k0 := cell_of gk3 (i := 0) (u := .int .u8 (p0 : Int)) rfl
  have k1 := cell_of gk3 (i := 1) (u := .int .u8 (p1 : Int)) rfl
  have k2 := cell_of gk3 (i := 2) (u := .int .u8 (p2 : Int)) rfl
  have eA := cell_of g3 (i := p) (u := .int .i64 (-1)) (by simp [hpc])
  have fA3 := fro_of g3 p
  have lk3 : w1.heap.size ≠ A := by omega
  have hwk : W ≠ w1.heap.size := by omega
  have HZ := Lib.hid hz
  have HQ := Lib.hid hq
  have HGA := Lib.hid gA
  have HG3 := Lib.hid g3
  have HT3 := Lib.hid t3
  have HM3 := Lib.hid m3
  have HPC := Lib.hid hpc
  have hlook : ∀ q, (Instr.lookup 103 (.map (some M)) (.agg #[.int .u8 (p0 : Int), .int .u8 (p1 : Int), .int .u8 (p2 : Int)]) true).run Tryd.prog (w3.drewN q) = .ok (.tuple #[.int .i64 (((prev b (p0, p1, p2) p).getD 0 : Nat) : Int), .bool (prev b (p0, p1, p2) p).isSome]) (w3.drewN q) := fun q => MapIs.look (w := w3.drewN q) (k := (p0, p1, p2)) (m3.same rfl) HB3.out
  have hlook0 := hlook 1
  rw [show w3.drewN 1 = w3.drew from rfl] at hlook0
  clear hk1 gA hz hq hzp gs t1s wins ms b3 gk3 g3 win3 m3 t3 hb1 hpc
  have HWS := Lib.hid hws
  have HW3 := Lib.hid hw3
  clear hws hw3
  unfold kv
  go_wp2_with fail
  rw [← HWS.out, ← HW3.out]
  clear d1 d2 dA fA
  cases hpv : prev b (p0, p1, p2) p with
  | none =>
    rw [hpv] at hlook hlook0
    simp only [Option.getD_none, Option.isSome_none] at hlook hlook0
    have hst : ∀ x, ∃ w', (Instr.mapUpdate 103 (.map (some M)) (.agg #[.int .u8 (p0 : Int), .int .u8 (p1 : Int), .int .u8 (p2 : Int)]) (.int .i64 (p : Int))).run Tryd.prog ((w3.drew).drewN x) = .ok () w' ∧ MapIs w' M (p + 1) (fun j => if j = (p0, p1, p2) then some p else prev b j p) ∧ (w3.drew.drewN x).grownBy w' (some M) :=
      fun x => MapIs.store (w := w3.drew.drewN x) (k := (p0, p1, p2)) (HM3.out.same rfl) HB3.out (by omega) (by unfold maxLen; omega)
    clear hlook
    go_region
    obtain ⟨w5, hrun, hm5, hg5⟩ := hst 1
    rw [show w3.drew.drewN 1 = w3.drew.drew from rfl] at hrun hg5
    have HM5 := Lib.hid hm5
    have HG5 := Lib.hid hg5
    clear hst hm5 hg5 hlook0
    go_wp2_with fail
    go_region
    go_end0
    have HPV := Lib.hid hpv
    obtain ⟨r1, r2⟩ := HK1.out.passed (w4 := w3.drew.drew) (w5 := w5) hp HT3.out.drew.drew HGA.out HZ.out HQ.out HG3.out (fun i hi => by simp [Ne.symm hi])
      (by simp only [Array.getElem?_setIfInBounds, if_pos, HPC.out]; rw [pz_none (by rw [← HKK.out]; exact HPV.out)]) (by rw [← HKK.out]; exact HM5.out) HG5.out
    exact ⟨rfl, r1, ((Two.refl A M w).below HB1.out).trans r2⟩
  | some q =>
    rw [hpv] at hlook hlook0
    simp only [Option.getD_some, Option.isSome_some] at hlook hlook0
    have hqp := (prev_lt hpv).1
    obtain ⟨w4, hw4⟩ : ∃ w4, w4 = (w3.setCell ⟨A, p, none⟩ (.int .i64 (q : Int))).drew := ⟨_, rfl⟩
    have g4 : w4.heap[A]? = some (.cells ((cur.setIfInBounds p (.int .i64 (-1))).setIfInBounds p (.int .i64 (q : Int))) 3 (0, 0)) := by rw [hw4]; exact heap_set2 (w := w3) HG3.out p _
    have t4 : Two A M w1 w4 := by rw [hw4]; exact (HT3.out.setA p _).drew
    have t34 : Two A M w3 w4 := by rw [hw4]; exact ((Two.refl A M w3).setA p _).drew
    have hlW := World.block_lt_of_cell? w3 _ e1
    have hlK := World.block_lt_of_cell? w3 _ k0
    have b4 : ∀ k, k ≠ A → w4.heap[k]? = w3.heap[k]? := fun k hk => by rw [hw4]; exact Below.heap_setCell w3 _ _ k hk
    have c4 : ∀ k i, k ≠ A → w4.cell? ⟨k, i, none⟩ = w3.cell? ⟨k, i, none⟩ := fun k i hk => by unfold World.cell?; simp only [b4 k hk]
    have f1 := (c4 W 1 hwa).trans e1
    have f2 := (c4 W 2 hwa).trans e2
    have l0 := (c4 w1.heap.size 0 lk3).trans k0
    have l1 := (c4 w1.heap.size 1 lk3).trans k1
    have l2 := (c4 w1.heap.size 2 lk3).trans k2
    have m4 : MapIs w4 M p (fun k => prev b k p) := HM3.out.same (b4 M (Ne.symm ham))
    obtain ⟨w5, hrun, hm5, hg5⟩ := MapIs.store (w := w4.drew) (k := (p0, p1, p2)) (q := p) (m4.same rfl) HB3.out (by omega) (by unfold maxLen; omega)
    have HM5 := Lib.hid hm5
    have HG5 := Lib.hid hg5
    have HG4 := Lib.hid g4
    have HT4 := Lib.hid t4
    have HW4 := Lib.hid hw4
    unfold kv at hrun
    simp only at hrun
    clear hlook hm5 hg5 g4 t4 t34 hw4 b4 c4 m4 hlW hlK
    go_region
    clear hlook0
    go_wp2_with fail
    rw [← HW4.out]
    clear e1 e2 k0 k1 k2 eA fA3
    go_region
    go_end0
    have HPV := Lib.hid hpv
    obtain ⟨r1, r2⟩ := HK1.out.passed (w4 := w4.drew) (w5 := w5) hp HT4.out.drew HGA.out HZ.out HQ.out HG4.out (fun i hi => by simp [Ne.symm hi])
      (by
        have hpc := HPC.out
        rw [pz_some (q := q) (by rw [← HKK.out]; exact HPV.out)]
        simp [hpc]) (by rw [← HKK.out]; exact HM5.out) HG5.out
    exact ⟨rfl, r1, ((Two.refl A M w).below HB1.out).trans r2⟩
end Go.Proofs.YteggmbfhfoijoaaDoor
