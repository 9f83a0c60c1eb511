/- Rows (records with their identity), as a walk is told of them: wherever they lie, or owned by a call. -/
import Derived.Test.YtjbljplgkbnpmaaRecAt
import Derived.Test.YtjbljplgkbnpmaaLabSame
namespace Go.Proofs.Ytjbljplgkbnpmaa
open Go.RowKit LabPlain RecPlain
set_option linter.unusedVariables false

structure RowV where
  r : RecV
  who : Int
  sq : Int
  pl : Int
def row0 : RowV := ⟨rec0, 0, 0, 0⟩
def RowV.cells (x : RowV) : List Value := [.int .i64 x.r.kind, .int .i64 x.r.time, .slice x.r.la x.r.ln x.r.lc, .string x.r.text, .int .i64 x.r.value, .bool x.r.null, .int .i64 x.who, .int .i64 x.sq, .int .i64 x.pl]
/-- what a row says, wherever it lies -/
def RowV.says (x : RowV) : Int × Int × List Lab × ByteArray × Int × Bool × Int × Int × Int := (x.r.kind, x.r.time, x.r.labs, x.r.text, x.r.value, x.r.null, x.who, x.sq, x.pl)
def RowV.fits (x : RowV) : Prop := x.r.fits ∧ (-9223372036854775808 ≤ x.who ∧ x.who ≤ 9223372036854775807) ∧ (-9223372036854775808 ≤ x.sq ∧ x.sq ≤ 9223372036854775807) ∧ (-9223372036854775808 ≤ x.pl ∧ x.pl ≤ 9223372036854775807)

structure RowsAt (w : World) (a : Option Addr) (n c : Nat) (l : List RowV) : Prop where
  len : l.length = n
  cap : n ≤ c
  capm : c ≤ 9223372036854775807
  nl : a = none → c = 0
  fits : ∀ x ∈ l, x.fits
  labs : ∀ x ∈ l, LabsAt w x.r.la x.r.ln x.r.lc x.r.labs
  cells : 0 < n → ∃ b off, a = some ⟨b, off, none⟩ ∧ b < w.heap.size ∧ ∀ i, i < n → ∀ j u, (l.getD i row0).cells[j]? = some u → w.cell? ⟨b, off + i * 9 + j, none⟩ = some u
theorem RowsAt.keep {w w' : World} {a : Option Addr} {n c : Nat} {l : List RowV} (h : RowsAt w a n c l) {B : Nat} (hb : Below B w w') (hB : w.heap.size ≤ B) : RowsAt w' a n c l :=
  ⟨h.len, h.cap, h.capm, h.nl, h.fits, fun x hx => (h.labs x hx).keep hb hB, fun hn => by
    obtain ⟨b, off, ha, hlt, hc⟩ := h.cells hn
    exact ⟨b, off, ha, Nat.lt_of_lt_of_le hlt hb.size, fun i hi j u hu => (hb.cell (p := ⟨b, off + i * 9 + j, none⟩) (Nat.lt_of_lt_of_le hlt hB)).trans (hc i hi j u hu)⟩⟩
theorem RowsAt.kept {w w' : World} {a : Option Addr} {n c : Nat} {l : List RowV} (h : RowsAt w a n c l) (hb : Below w.heap.size w w') : RowsAt w' a n c l := h.keep hb (Nat.le_refl _)
theorem RowsAt.empty (w : World) (a : Option Addr) (c : Nat) (hc : c ≤ 9223372036854775807) (ha : a = none → c = 0) : RowsAt w a 0 c [] :=
  ⟨rfl, Nat.zero_le _, hc, ha, (fun x hx => by cases hx), (fun x hx => by cases hx), fun h => absurd h (Nat.lt_irrefl 0)⟩
theorem row_mem {l : List RowV} {i : Nat} (h : i < l.length) : l.getD i row0 ∈ l := by
  have : l.getD i row0 = l[i] := by simp [h]
  rw [this]; exact List.getElem_mem h
/-- one row's nine cells -/
theorem RowsAt.nine {w : World} {b off n : Nat} {l : List RowV} (hc : ∀ i, i < n → ∀ j u, (l.getD i row0).cells[j]? = some u → w.cell? ⟨b, off + i * 9 + j, none⟩ = some u) {i : Nat} (hi : i < n) {x : RowV} (hr : x = l.getD i row0) :
    w.cell? ⟨b, off + i * 9, none⟩ = some (.int .i64 x.r.kind) ∧ w.cell? ⟨b, off + i * 9 + 1, none⟩ = some (.int .i64 x.r.time) ∧ w.cell? ⟨b, off + i * 9 + 2, none⟩ = some (.slice x.r.la x.r.ln x.r.lc) ∧
    w.cell? ⟨b, off + i * 9 + 3, none⟩ = some (.string x.r.text) ∧ w.cell? ⟨b, off + i * 9 + 4, none⟩ = some (.int .i64 x.r.value) ∧ w.cell? ⟨b, off + i * 9 + 5, none⟩ = some (.bool x.r.null) ∧
    w.cell? ⟨b, off + i * 9 + 6, none⟩ = some (.int .i64 x.who) ∧ w.cell? ⟨b, off + i * 9 + 7, none⟩ = some (.int .i64 x.sq) ∧ w.cell? ⟨b, off + i * 9 + 8, none⟩ = some (.int .i64 x.pl) := by
  subst hr
  exact ⟨hc i hi 0 _ rfl, hc i hi 1 _ rfl, hc i hi 2 _ rfl, hc i hi 3 _ rfl, hc i hi 4 _ rfl, hc i hi 5 _ rfl, hc i hi 6 _ rfl, hc i hi 7 _ rfl, hc i hi 8 _ rfl⟩

/-- things of one width, written out in a row -/
theorem flat_len {α : Type} (f : α → List Value) (K : Nat) (hK : ∀ x, (f x).length = K) : ∀ l : List α, (l.flatMap f).length = l.length * K
  | [] => by simp
  | x :: r => by rw [List.flatMap_cons, List.length_append, hK, flat_len f K hK r, List.length_cons, Nat.succ_mul]; omega
theorem flat_at {α : Type} (f : α → List Value) (K : Nat) (hK : ∀ x, (f x).length = K) (d : α) : ∀ (l : List α) (i j : Nat), i < l.length → j < K → (l.flatMap f)[i * K + j]? = (f (l.getD i d))[j]?
  | x :: r, 0, j, _, hj => by
    rw [List.flatMap_cons, Nat.zero_mul, Nat.zero_add, List.getElem?_append_left (by rw [hK]; exact hj)]; rfl
  | x :: r, i + 1, j, hi, hj => by
    rw [List.flatMap_cons, List.getElem?_append_right (by rw [hK, Nat.succ_mul]; omega), hK, show (i + 1) * K + j - K = i * K + j from by rw [Nat.succ_mul]; omega, flat_at f K hK d r i j (by simpa using hi) hj]
    rfl
def rcells (l : List RowV) : List Value := l.flatMap RowV.cells
theorem rcells_len (l : List RowV) : (rcells l).length = l.length * 9 := flat_len RowV.cells 9 (fun _ => rfl) l
theorem rcells_snoc (l : List RowV) (x : RowV) : rcells (l ++ [x]) = rcells l ++ x.cells := by unfold rcells; simp
theorem rcells_one (x : RowV) : ∀ u ∈ x.cells, u.oneCell' = true := by
  intro u hu
  simp [RowV.cells] at hu
  rcases hu with rfl | rfl | rfl | rfl | rfl | rfl | rfl | rfl | rfl <;> rfl
theorem row_info : (Try.prog.info? 62).map (fun i => (i.zero, i.size, i.bytes)) = some (some (.agg #[.int .i64 0, .int .i64 0, .slice none 0 0, .string ByteArray.empty, .int .i64 0, .bool false, .int .i64 0, .int .i64 0, .int .i64 0]), 9, 96) := by kernel_rfl

/-- rows that a call owns, and their labels -/
structure RowsOwn (w : World) (base : Nat) (v : Value) (n : Nat) (l : List RowV) : Prop where
  len : l.length = n
  own : w.ownsRow base 62 9 v n (rcells l)
  fits : ∀ x ∈ l, x.fits
  labs : ∀ x ∈ l, w.ownsRow base 41 2 (.slice x.r.la x.r.ln x.r.lc) x.r.ln (lcells x.r.labs) ∧ x.r.labs.length = x.r.ln ∧ ∀ y ∈ x.r.labs, y.1.size ≤ 140737488355328 ∧ y.2.size ≤ 140737488355328
theorem own_labs {w : World} {base : Nat} {a : Option Addr} {n c : Nat} {L : List Lab} (h : w.ownsRow base 41 2 (.slice a n c) n (lcells L)) (hl : L.length = n) (hs : ∀ y ∈ L, y.1.size ≤ 140737488355328 ∧ y.2.size ≤ 140737488355328) : LabsAt w a n c L := by
  obtain ⟨a', c', he, hat⟩ := LabsAt.ofOwn h hl hs
  cases he
  exact hat
theorem RowsOwn.at {w : World} {base : Nat} {v : Value} {n : Nat} {l : List RowV} (h : RowsOwn w base v n l) : ∃ a c, v = .slice a n c ∧ RowsAt w a n c l := by
  have hlabs : ∀ x ∈ l, LabsAt w x.r.la x.r.ln x.r.lc x.r.labs := fun x hx => own_labs (h.labs x hx).1 (h.labs x hx).2.1 (h.labs x hx).2.2
  rcases h.own.2 with ⟨rfl, h0⟩ | ⟨g, cap, cur, rfl, hg, hh, hnc, hcap, hsz, htake⟩
  · subst h0
    obtain rfl : l = [] := List.eq_nil_of_length_eq_zero h.len
    exact ⟨none, 0, rfl, RowsAt.empty w none 0 (by omega) (fun _ => rfl)⟩
  · refine ⟨_, cap, rfl, h.len, hnc, by unfold maxLen at hcap; exact hcap, (fun e => by cases e), h.fits, hlabs, fun hp => ⟨g, 0, rfl, (Array.getElem?_eq_some_iff.1 hh).1, fun i hi j u hu => ?_⟩⟩
    have hj : j < 9 := (List.getElem?_eq_some_iff.1 hu).1
    have h2 : (rcells l)[i * 9 + j]? = some u := by
      unfold rcells
      rw [flat_at RowV.cells 9 (fun _ => rfl) row0 l i j (by have := h.len; omega) hj, hu]
    rw [Nat.zero_add, cell_of_row w _ _ _ _ (0, 0) hh, ← h2, ← htake, List.getElem?_take_of_lt (by omega), Array.getElem?_toList]
end Go.Proofs.Ytjbljplgkbnpmaa
