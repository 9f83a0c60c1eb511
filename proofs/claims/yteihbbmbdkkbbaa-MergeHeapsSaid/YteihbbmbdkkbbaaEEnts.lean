/- Entries, as a walk is told of them: wherever they lie, or owned by a call; one more put behind those that are not behind it. -/
import Derived.Test.YteihbbmbdkkbbaaEStable
import Derived.Test.YteihbbmbdkkbbaaKitE
import Derived.Maps.AppendAt
import Derived.Deep.MidRow
namespace Go.Proofs.Yteihbbmbdkkbbaa
open Go.RowKit LabPlain Stab
set_option linter.unusedVariables false

theorem flat_len {α : Type} (f : α → List Value) (K : Nat) (hK : ∀ x, (f x).length = K) : ∀ l : List α, (l.flatMap f).length = l.length * K
  | [] => by simp
  | x :: r => by rw [List.flatMap_cons, List.length_append, hK, flat_len f K hK r, List.length_cons, Nat.succ_mul]; omega
theorem flat_at {α : Type} (f : α → List Value) (K : Nat) (hK : ∀ x, (f x).length = K) (d : α) : ∀ (l : List α) (i j : Nat), i < l.length → j < K → (l.flatMap f)[i * K + j]? = (f (l.getD i d))[j]?
  | x :: r, 0, j, _, hj => by
    rw [List.flatMap_cons, Nat.zero_mul, Nat.zero_add, List.getElem?_append_left (by rw [hK]; exact hj)]; rfl
  | x :: r, i + 1, j, hi, hj => by
    rw [List.flatMap_cons, List.getElem?_append_right (by rw [hK, Nat.succ_mul]; omega), hK, show (i + 1) * K + j - K = i * K + j from by rw [Nat.succ_mul]; omega, flat_at f K hK d r i j (by simpa using hi) hj]
    rfl
structure EntsAt (w : World) (a : Option Addr) (n c : Nat) (l : List EntV) : Prop where
  len : l.length = n
  cap : n ≤ c
  capm : c ≤ 9223372036854775807
  nl : a = none → c = 0
  size : ∀ x ∈ l, x.key.size ≤ 140737488355328 ∧ x.part.size ≤ 140737488355328
  cells : 0 < n → ∃ b off, a = some ⟨b, off, none⟩ ∧ b < w.heap.size ∧ ∀ i, i < n → ∀ j u, (l.getD i ent0).cells[j]? = some u → w.cell? ⟨b, off + i * 9 + j, none⟩ = some u
theorem EntsAt.kept {w w' : World} {a : Option Addr} {n c : Nat} {l : List EntV} (h : EntsAt w a n c l) (hb : Below w.heap.size w w') : EntsAt w' a n c l :=
  ⟨h.len, h.cap, h.capm, h.nl, h.size, fun hn => by
    obtain ⟨b, off, ha, hlt, hc⟩ := h.cells hn
    exact ⟨b, off, ha, Nat.lt_of_lt_of_le hlt hb.size, fun i hi j u hu => (hb.cell (p := ⟨b, off + i * 9 + j, none⟩) hlt).trans (hc i hi j u hu)⟩⟩
theorem EntsAt.empty (w : World) (a : Option Addr) (c : Nat) (hc : c ≤ 9223372036854775807) (ha : a = none → c = 0) : EntsAt w a 0 c [] :=
  ⟨rfl, Nat.zero_le _, hc, ha, (fun x hx => by cases hx), fun h => absurd h (Nat.lt_irrefl 0)⟩
theorem ent_mem {l : List EntV} {i : Nat} (h : i < l.length) : l.getD i ent0 ∈ l := by
  have : l.getD i ent0 = l[i] := by simp [h]
  rw [this]; exact List.getElem_mem h
theorem EntsAt.nine {w : World} {b off n : Nat} {l : List EntV} (hc : ∀ i, i < n → ∀ j u, (l.getD i ent0).cells[j]? = some u → w.cell? ⟨b, off + i * 9 + j, none⟩ = some u) {i : Nat} (hi : i < n) {x : EntV} (hr : x = l.getD i ent0) :
    w.cell? ⟨b, off + i * 9, none⟩ = some (.string x.key) ∧ w.cell? ⟨b, off + i * 9 + 1, none⟩ = some (.int .i64 x.win) ∧ w.cell? ⟨b, off + i * 9 + 2, none⟩ = some (.string x.part) ∧
    w.cell? ⟨b, off + i * 9 + 3, none⟩ = some (.int .i64 x.fst) ∧ w.cell? ⟨b, off + i * 9 + 4, none⟩ = some (.int .i64 x.lst) ∧ w.cell? ⟨b, off + i * 9 + 5, none⟩ = some (.int .i64 x.rows) ∧
    w.cell? ⟨b, off + i * 9 + 6, none⟩ = some (.int .i64 x.size) ∧ w.cell? ⟨b, off + i * 9 + 7, none⟩ = some (.int .u32 x.sum) ∧ w.cell? ⟨b, off + i * 9 + 8, none⟩ = some (.int .i64 x.born) := by
  subst hr
  exact ⟨hc i hi 0 _ rfl, hc i hi 1 _ rfl, hc i hi 2 _ rfl, hc i hi 3 _ rfl, hc i hi 4 _ rfl, hc i hi 5 _ rfl, hc i hi 6 _ rfl, hc i hi 7 _ rfl, hc i hi 8 _ rfl⟩
def ecells (l : List EntV) : List Value := l.flatMap EntV.cells
theorem ecells_len (l : List EntV) : (ecells l).length = l.length * 9 := flat_len EntV.cells 9 (fun _ => rfl) l
theorem ecells_app (l m : List EntV) : ecells (l ++ m) = ecells l ++ ecells m := by unfold ecells; simp
theorem ecells_one (x : EntV) : ∀ u ∈ x.cells, u.oneCell' = true := by
  intro u hu
  simp [EntV.cells] at hu
  rcases hu with rfl | rfl | rfl | rfl | rfl | rfl | rfl | rfl | rfl <;> rfl
theorem ecells_all (l : List EntV) : ∀ u ∈ ecells l, u.oneCell' = true := by
  intro u hu
  unfold ecells at hu
  obtain ⟨x, _, hx⟩ := List.mem_flatMap.1 hu
  exact ecells_one x u hx
theorem ent_info : (Try.prog.info? 57).map (fun i => (i.zero, i.size, i.bytes)) = some (some (.agg #[.string ByteArray.empty, .int .i64 0, .string ByteArray.empty, .int .i64 0, .int .i64 0, .int .i64 0, .int .i64 0, .int .u32 0, .int .i64 0]), 9, 88) := by kernel_rfl
theorem ent_src (w : World) (x : EntV) (t : TypeId) : ∀ j u, x.cells[j]? = some u → (w.alloc (.cells #[.string x.key, .int .i64 x.win, .string x.part, .int .i64 x.fst, .int .i64 x.lst, .int .i64 x.rows, .int .i64 x.size, .int .u32 x.sum, .int .i64 x.born] t)).cell? ((⟨w.heap.size, 0, none⟩ : Addr).add j) = some u := by
  intro j u hj
  have hblk := heap_alloc_new w (.cells #[.string x.key, .int .i64 x.win, .string x.part, .int .i64 x.fst, .int .i64 x.lst, .int .i64 x.rows, .int .i64 x.size, .int .u32 x.sum, .int .i64 x.born] t)
  have hadd : (⟨w.heap.size, 0, none⟩ : Addr).add j = ⟨w.heap.size, 0 + j, none⟩ := by unfold Addr.add; split <;> simp_all
  rw [hadd, Nat.zero_add, cell_of_row _ _ _ _ _ (0, 0) hblk, ← hj, EntV.cells, List.getElem?_toArray]
/-- the cells of some entries, from a place on -/
theorem esrc_own {w : World} {base g k cap : Nat} {es : List EntV} (h : w.ownsRow base 57 9 (.slice (some ⟨g, 0, none⟩) k cap) k (ecells es)) : ∀ j u, (ecells es)[j]? = some u → w.cell? ⟨g, j, none⟩ = some u := by
  intro j u hu
  rcases h.2 with ⟨h0, _⟩ | ⟨g', cap', cur, he, hg, hh, hnc, hcap, hsz, htake⟩
  · cases h0
  · cases he
    have hlt := (List.getElem?_eq_some_iff.1 hu).1
    rw [cell_of_row w _ _ _ _ (0, 0) hh, ← hu, ← htake, List.getElem?_take_of_lt (by rw [h.1] at hlt; exact hlt), Array.getElem?_toList]
theorem esrc_take {w : World} {base g k cap m : Nat} {es : List EntV} (h : w.ownsRow base 57 9 (.slice (some ⟨g, 0, none⟩) k cap) k (ecells es)) : ∀ j u, (ecells (es.take m))[j]? = some u → w.cell? ((⟨g, 0, none⟩ : Addr).add j) = some u := by
  intro j u hu
  rw [Addr.add_mid, Nat.zero_add]
  refine esrc_own h j u ?_
  have : ecells es = ecells (es.take m) ++ ecells (es.drop m) := by rw [← ecells_app, List.take_append_drop]
  rw [this, List.getElem?_append_left (List.getElem?_eq_some_iff.1 hu).1, hu]
theorem esrc_drop {w : World} {base g k cap m : Nat} {es : List EntV} (h : w.ownsRow base 57 9 (.slice (some ⟨g, 0, none⟩) k cap) k (ecells es)) (hm : m ≤ es.length) : ∀ j u, (ecells (es.drop m))[j]? = some u → w.cell? ((⟨g, m * 9, none⟩ : Addr).add j) = some u := by
  intro j u hu
  rw [Addr.add_mid]
  refine esrc_own h _ u ?_
  have : ecells es = ecells (es.take m) ++ ecells (es.drop m) := by rw [← ecells_app, List.take_append_drop]
  rw [this, List.getElem?_append_right (by rw [ecells_len, List.length_take]; omega), ecells_len, List.length_take, show m * 9 + j - min m es.length * 9 = j by omega, hu]
def atE (l : List EntV) : Nat → EntV := fun k => l.getD k ent0
/-- what is owned, as the sort wants it -/
theorem enines_own {w : World} {base g n cap : Nat} {l : List EntV} (hl : l.length = n) (h : w.ownsRow base 57 9 (.slice (some ⟨g, 0, none⟩) n cap) n (ecells l)) : Nines w g n (atE l) ∧ base ≤ g ∧ g < w.heap.size ∧ n ≤ cap ∧ cap ≤ 9223372036854775807 := by
  rcases h.2 with ⟨h0, _⟩ | ⟨g', cap', cur, he, hg, hh, hnc, hcap, hsz, htake⟩
  · cases h0
  · cases he
    refine ⟨⟨fun i hi j u hu => ?_, fun i hi j hj => ?_⟩, hg, (Array.getElem?_eq_some_iff.1 hh).1, hnc, by unfold maxLen at hcap; exact hcap⟩
    · have hj : j < 9 := (List.getElem?_eq_some_iff.1 hu).1
      have h2 : (ecells l)[i * 9 + j]? = some u := by
        unfold ecells
        rw [flat_at EntV.cells 9 (fun _ => rfl) ent0 l i j (by omega) hj]; exact hu
      rw [cell_of_row w _ _ _ _ (0, 0) hh, ← h2, ← htake, List.getElem?_take_of_lt (by omega), Array.getElem?_toList]
    · have hlt : i * 9 + j < cur.size := by rw [hsz]; omega
      refine ⟨?_, ?_⟩
      · rw [cell_of_row w _ _ _ _ (0, 0) hh]; simp [hlt]
      · simp [World.frozen?, hh]
end Go.Proofs.Yteihbbmbdkkbbaa
