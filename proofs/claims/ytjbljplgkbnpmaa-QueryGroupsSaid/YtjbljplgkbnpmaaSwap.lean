/- Rows of nine cells exchanged (slices.swapRangeCmpFunc). Written by genswap.py. -/
import Derived.Test.YtjbljplgkbnpmaaStab
import Derived.Test.YtjbljplgkbnpmaaRowAt
import Derived.BigRegion
import Derived.Deep.MidRow
namespace Go.Proofs.Ytjbljplgkbnpmaa
open Go.ChangeShapes Go.WideShapes Go.Deep Go.RowKit Stab
set_option linter.unusedVariables false

/-- n things of nine cells each at the head of block g, which may be written -/
structure Nines (w : World) (g n : Nat) (f : Nat → RowV) : Prop where
  at' : ∀ i, i < n → w.rangeAt g (i * 9) (f i).cells
  free : ∀ i, i < n → w.there g (i * 9) 9

/-- what a call may turn that turns one block alone, and makes new ones -/
structure Turns1 (B : Nat) (w w' : World) : Prop where
  os : w'.os = w.os
  tape : w'.tape = w.tape
  output : w'.output = w.output
  size : w.heap.size ≤ w'.heap.size
  block : ∀ k, k < w.heap.size → k ≠ B → w'.heap[k]? = w.heap[k]?
theorem Turns1.refl (B : Nat) (w : World) : Turns1 B w w := ⟨rfl, rfl, rfl, Nat.le_refl _, fun _ _ _ => rfl⟩
theorem Turns1.trans {B : Nat} {a b c : World} (h : Turns1 B a b) (g : Turns1 B b c) : Turns1 B a c :=
  ⟨g.os.trans h.os, g.tape.trans h.tape, g.output.trans h.output, Nat.le_trans h.size g.size, fun k hk hne => (g.block k (Nat.lt_of_lt_of_le hk h.size) hne).trans (h.block k hk hne)⟩
theorem Turns1.set {B : Nat} {a w : World} (h : Turns1 B a w) (i : Nat) (u : Value) : Turns1 B a (w.setCell ⟨B, i, none⟩ u) :=
  h.trans ⟨rfl, rfl, rfl, by simp [World.setCell], fun k hk hne => Below.heap_setCell _ _ _ _ hne⟩
theorem Turns1.sets {B : Nat} {a : World} : ∀ (vs : List Value) (o : Nat) {w : World}, Turns1 B a w → Turns1 B a (w.setCells B o vs)
  | [], _, _, h => h
  | v :: r, o, _, h => Turns1.sets r (o + 1) (h.set o v)
theorem Turns1.drew {B : Nat} {a w : World} (h : Turns1 B a w) : Turns1 B a w.drew := ⟨h.os, h.tape, h.output, h.size, h.block⟩
theorem Turns1.below {B : Nat} {a w w' : World} (h : Turns1 B a w) (hb : Below w.heap.size w w') : Turns1 B a w' :=
  h.trans ⟨hb.os, hb.tape, hb.output, hb.size, fun k hk _ => hb.block k hk⟩
theorem Turns1.old {B b : Nat} {a w w' : World} (h : Turns1 B w w') (ha : Below b a w) (hb : b ≤ B) (hs : b ≤ w.heap.size) : Below b a w' :=
  ha.trans ⟨h.os, h.tape, h.output, h.size, fun k hk => h.block k (by omega) (by omega)⟩

theorem Nines.drew {w : World} {g n : Nat} {f : Nat → RowV} (h : Nines w g n f) : Nines w.drew g n f :=
  ⟨fun i hi => (World.rangeAt_drew _ _ _ _).2 (h.at' i hi), fun i hi => (World.there_drew _ _ _ _).2 (h.free i hi)⟩
/-- one thing stored -/
theorem Nines.set {w : World} {g n : Nat} {f : Nat → RowV} (h : Nines w g n f) (p : Nat) (hp : p < n) (x : RowV) : Nines (w.setCells g (p * 9) x.cells) g n (fun k => if k = p then x else f k) :=
  ⟨fun i hi => by
    by_cases e : i = p
    · subst e
      simp only [if_pos]
      exact World.rangeAt_setCells_same w g (i * 9) x.cells (h.free i hi)
    · simp only [if_neg e]
      exact World.rangeAt_setCells_apart (h.at' i hi) g (p * 9) x.cells (.inr (by show i * 9 + 9 ≤ p * 9 ∨ p * 9 + 9 ≤ i * 9; omega)),
   fun i hi => World.there_setCells (h.free i hi) g (p * 9) x.cells⟩
theorem Nines.swap {w : World} {g n : Nat} {f : Nat → RowV} (h : Nines w g n f) (p q : Nat) (hp : p < n) (hq : q < n) (x y : RowV) (hx : x = f p) (hy : y = f q) : Nines ((w.setCells g (p * 9) y.cells).setCells g (q * 9) x.cells) g n (swp f p q) := by
  subst hx hy
  have := (h.set p hp (f q)).set q hq (f p)
  have e : (fun k => if k = q then f p else if k = p then f q else f k) = swp f p q := by
    funext k; unfold swp; repeat' split
    all_goals first | rfl | (subst_vars; rfl)
  rw [e] at this
  exact this

set_option maxRecDepth 100000 in
set_option maxHeartbeats 2000000 in
theorem swr_any {w : World} {g n c : Nat} {f : Nat → RowV} {a b m : Nat} {cmp : Value} (h : Nines w g n f) (hn : a + m ≤ b) (hb : b + m ≤ n) (hc : n ≤ c) (hcm : c ≤ 9223372036854775807) :
    Calls Try.prog 135 #[.slice (some ⟨g, 0, none⟩) n c, .int .i64 (a : Int), .int .i64 (b : Int), .int .i64 (m : Int), cmp] w fun e w' => e = .returned undef ∧ Nines w' g n (swr f a b m) ∧ Turns1 g w w' := by
  have H := Lib.hid h
  clear h
  go_enter Try.func135, Try.ntmps135
  go_wp2_with fail
  go_loopw [10] (fun s10 wr => ∃ i : Nat, i ≤ m ∧ s10 = .int .i64 (i : Int) ∧ Hid (Nines wr g n (swr f a b i)) ∧ Hid (Turns1 g w wr)) (fun s10 _ => m - (intOf s10).toNat)
  case atStart => exact ⟨0, by omega, rfl, by rw [swr_zero]; exact H, Lib.hid (Turns1.refl g w)⟩
  case round =>
    obtain ⟨i, hi, rfl, HR, HT⟩ := hrel
    rename World => wr
    by_cases him : i < m
    · have him2 : (i : Int) < (m : Int) := by omega
      obtain ⟨x, hx⟩ : ∃ x, x = swr f a b i (a + i) := ⟨_, rfl⟩
      obtain ⟨y, hy⟩ : ∃ y, y = swr f a b i (b + i) := ⟨_, rfl⟩
      have hX := HR.out.at' (a + i) (by omega)
      have hY := HR.out.at' (b + i) (by omega)
      rw [← hx] at hX
      rw [← hy] at hY
      have tX := HR.out.free (a + i) (by omega)
      have tY := HR.out.free (b + i) (by omega)
      have wa : IntKind.i64.wrap ((a : Int) + (i : Int)) = (a : Int) + (i : Int) := IntWalk.i64_in _ (by omega)
      have wb : IntKind.i64.wrap ((b : Int) + (i : Int)) = (b : Int) + (i : Int) := IntWalk.i64_in _ (by omega)
      have a0 : 0 ≤ (a : Int) + (i : Int) := by omega
      have b0 : 0 ≤ (b : Int) + (i : Int) := by omega
      have al : (a : Int) + (i : Int) < (n : Int) := by omega
      have bl : (b : Int) + (i : Int) < (n : Int) := by omega
      have at0 : ((a : Int) + (i : Int)).toNat = a + i := by omega
      have bt0 : ((b : Int) + (i : Int)).toNat = b + i := by omega
      have cx0 : wr.cell? ⟨g, (a + i) * 9, none⟩ = some (.int .i64 x.r.kind) := hX 0 _ rfl
      have zx0 : wr.frozen? ⟨g, (a + i) * 9, none⟩ = false := (tX 0 (by omega)).2
      have cx1 : wr.cell? ⟨g, (a + i) * 9 + 1, none⟩ = some (.int .i64 x.r.time) := hX 1 _ rfl
      have zx1 : wr.frozen? ⟨g, (a + i) * 9 + 1, none⟩ = false := (tX 1 (by omega)).2
      have cx2 : wr.cell? ⟨g, (a + i) * 9 + 2, none⟩ = some (.slice x.r.la x.r.ln x.r.lc) := hX 2 _ rfl
      have zx2 : wr.frozen? ⟨g, (a + i) * 9 + 2, none⟩ = false := (tX 2 (by omega)).2
      have cx3 : wr.cell? ⟨g, (a + i) * 9 + 3, none⟩ = some (.string x.r.text) := hX 3 _ rfl
      have zx3 : wr.frozen? ⟨g, (a + i) * 9 + 3, none⟩ = false := (tX 3 (by omega)).2
      have cx4 : wr.cell? ⟨g, (a + i) * 9 + 4, none⟩ = some (.int .i64 x.r.value) := hX 4 _ rfl
      have zx4 : wr.frozen? ⟨g, (a + i) * 9 + 4, none⟩ = false := (tX 4 (by omega)).2
      have cx5 : wr.cell? ⟨g, (a + i) * 9 + 5, none⟩ = some (.bool x.r.null) := hX 5 _ rfl
      have zx5 : wr.frozen? ⟨g, (a + i) * 9 + 5, none⟩ = false := (tX 5 (by omega)).2
      have cx6 : wr.cell? ⟨g, (a + i) * 9 + 6, none⟩ = some (.int .i64 x.who) := hX 6 _ rfl
      have zx6 : wr.frozen? ⟨g, (a + i) * 9 + 6, none⟩ = false := (tX 6 (by omega)).2
      have cx7 : wr.cell? ⟨g, (a + i) * 9 + 7, none⟩ = some (.int .i64 x.sq) := hX 7 _ rfl
      have zx7 : wr.frozen? ⟨g, (a + i) * 9 + 7, none⟩ = false := (tX 7 (by omega)).2
      have cx8 : wr.cell? ⟨g, (a + i) * 9 + 8, none⟩ = some (.int .i64 x.pl) := hX 8 _ rfl
      have zx8 : wr.frozen? ⟨g, (a + i) * 9 + 8, none⟩ = false := (tX 8 (by omega)).2
      have cy0 : wr.cell? ⟨g, (b + i) * 9, none⟩ = some (.int .i64 y.r.kind) := hY 0 _ rfl
      have zy0 : wr.frozen? ⟨g, (b + i) * 9, none⟩ = false := (tY 0 (by omega)).2
      have cy1 : wr.cell? ⟨g, (b + i) * 9 + 1, none⟩ = some (.int .i64 y.r.time) := hY 1 _ rfl
      have zy1 : wr.frozen? ⟨g, (b + i) * 9 + 1, none⟩ = false := (tY 1 (by omega)).2
      have cy2 : wr.cell? ⟨g, (b + i) * 9 + 2, none⟩ = some (.slice y.r.la y.r.ln y.r.lc) := hY 2 _ rfl
      have zy2 : wr.frozen? ⟨g, (b + i) * 9 + 2, none⟩ = false := (tY 2 (by omega)).2
      have cy3 : wr.cell? ⟨g, (b + i) * 9 + 3, none⟩ = some (.string y.r.text) := hY 3 _ rfl
      have zy3 : wr.frozen? ⟨g, (b + i) * 9 + 3, none⟩ = false := (tY 3 (by omega)).2
      have cy4 : wr.cell? ⟨g, (b + i) * 9 + 4, none⟩ = some (.int .i64 y.r.value) := hY 4 _ rfl
      have zy4 : wr.frozen? ⟨g, (b + i) * 9 + 4, none⟩ = false := (tY 4 (by omega)).2
      have cy5 : wr.cell? ⟨g, (b + i) * 9 + 5, none⟩ = some (.bool y.r.null) := hY 5 _ rfl
      have zy5 : wr.frozen? ⟨g, (b + i) * 9 + 5, none⟩ = false := (tY 5 (by omega)).2
      have cy6 : wr.cell? ⟨g, (b + i) * 9 + 6, none⟩ = some (.int .i64 y.who) := hY 6 _ rfl
      have zy6 : wr.frozen? ⟨g, (b + i) * 9 + 6, none⟩ = false := (tY 6 (by omega)).2
      have cy7 : wr.cell? ⟨g, (b + i) * 9 + 7, none⟩ = some (.int .i64 y.sq) := hY 7 _ rfl
      have zy7 : wr.frozen? ⟨g, (b + i) * 9 + 7, none⟩ = false := (tY 7 (by omega)).2
      have cy8 : wr.cell? ⟨g, (b + i) * 9 + 8, none⟩ = some (.int .i64 y.pl) := hY 8 _ rfl
      have zy8 : wr.frozen? ⟨g, (b + i) * 9 + 8, none⟩ = false := (tY 8 (by omega)).2
      clear hX hY tX tY
      have HX := Lib.hid hx
      have HY := Lib.hid hy
      clear hx hy
      go_wp2_with fail
      go_region
      have HN := Lib.hid (HR.out.swap (a + i) (b + i) (by omega) (by omega) x y HX.out HY.out).drew
      have HU := Lib.hid (((HT.out.sets y.cells ((a + i) * 9)).sets x.cells ((b + i) * 9)).drew)
      rw [swr_step f a b i (by omega)] at HN
      go_wp2_with fail
      go_roundw
      case rel => exact ⟨i + 1, by omega, by go_num, HN, HU⟩
      case measure => simp [intOf]; omega
    · obtain rfl : i = m := by omega
      go_wp2_with fail
      first | go_end0 | refine bodyPost_ret (results_none rfl _ _ _) rfl ?_
      exact ⟨rfl, HR.out, HT.out⟩
end Go.Proofs.Ytjbljplgkbnpmaa
