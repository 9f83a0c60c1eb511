/- Slices of things of any struct, as walks are told of them: wherever they lie; what a call owns; as a law's argument. -/
import Derived.Test.YtpcohkhdbjimgaaRows
import Derived.WalkKit
import Derived.Lib.Hide
import Derived.Deep.Slices
import Derived.Deep.Fields
import Derived.SizedLaws
import Derived.Below
import Derived.OpenShut
namespace Go.Proofs.Ytpcohkhdbjimgaa
open Go.ChangeShapes Go.WideShapes Go.Deep Go.RowKit
set_option linter.unusedVariables false

theorem vflat_len {α : Type} (f : α → List Value) (K : Nat) (hK : ∀ x, (f x).length = K) : ∀ l : List α, (l.flatMap f).length = l.length * K
  | [] => by simp
  | x :: r => by rw [List.flatMap_cons, List.length_append, hK, vflat_len f K hK r, List.length_cons, Nat.succ_mul]; omega
theorem vflat_at {α : Type} (f : α → List Value) (K : Nat) (hK : ∀ x, (f x).length = K) (d : α) : ∀ (l : List α) (i j : Nat), i < l.length → j < K → (l.flatMap f)[i * K + j]? = (f (l.getD i d))[j]?
  | x :: r, 0, j, _, hj => by
    rw [List.flatMap_cons, Nat.zero_mul, Nat.zero_add, List.getElem?_append_left (by rw [hK]; exact hj)]; rfl
  | x :: r, i + 1, j, hi, hj => by
    rw [List.flatMap_cons, List.getElem?_append_right (by rw [hK, Nat.succ_mul]; omega), hK, show (i + 1) * K + j - K = i * K + j from by rw [Nat.succ_mul]; omega, vflat_at f K hK d r i j (by simpa using hi) hj]
    rfl
/-- things of K cells, and what else holds of them in a world -/
structure Sty (α : Type) where
  f : α → List Value
  K : Nat
  z : α
  ok : World → α → Prop
  pos : 0 < K
  wid : ∀ x, (f x).length = K
  one : ∀ x, ∀ u ∈ f x, u.oneCell' = true
  mono : ∀ {w w' : World} {x : α}, Below w.heap.size w w' → ok w x → ok w' x
def Sty.flat {α : Type} (S : Sty α) (l : List α) : List Value := l.flatMap S.f
structure VecAt {α : Type} (S : Sty α) (w : World) (a : Option Addr) (n c : Nat) (l : List α) : Prop where
  len : l.length = n
  cap : n ≤ c
  capm : c ≤ 9223372036854775807
  nl : a = none → c = 0
  all : ∀ x ∈ l, S.ok w x
  cells : 0 < n → ∃ b off, a = some ⟨b, off, none⟩ ∧ b < w.heap.size ∧ ∀ i, i < n → ∀ j u, (S.f (l.getD i S.z))[j]? = some u → w.cell? ⟨b, off + i * S.K + j, none⟩ = some u
section
variable {α : Type} {S : Sty α} {w w' : World} {a : Option Addr} {n c : Nat} {l : List α}
theorem VecAt.kept (h : VecAt S w a n c l) (hb : Below w.heap.size w w') : VecAt S w' a n c l :=
  ⟨h.len, h.cap, h.capm, h.nl, fun x hx => S.mono hb (h.all x hx), fun hn => by
    obtain ⟨b, off, ha, hlt, hc⟩ := h.cells hn
    exact ⟨b, off, ha, Nat.lt_of_lt_of_le hlt hb.size, fun i hi j u hu => (hb.cell (p := ⟨b, off + i * S.K + j, none⟩) hlt).trans (hc i hi j u hu)⟩⟩
theorem VecAt.empty (w : World) (a : Option Addr) (c : Nat) (hc : c ≤ 9223372036854775807) (ha : a = none → c = 0) : VecAt S w a 0 c [] :=
  ⟨rfl, Nat.zero_le _, hc, ha, (fun x hx => by cases hx), fun h => absurd h (Nat.lt_irrefl 0)⟩
theorem vec_mem {i : Nat} (h : i < l.length) : l.getD i S.z ∈ l := by
  have : l.getD i S.z = l[i] := by simp [h]
  rw [this]; exact List.getElem_mem h
theorem VecAt.get (h : VecAt S w a n c l) {i : Nat} (hi : i < n) : ∃ b off, a = some ⟨b, off, none⟩ ∧ b < w.heap.size ∧ S.ok w (l.getD i S.z) ∧ ∀ j u, (S.f (l.getD i S.z))[j]? = some u → w.cell? ⟨b, off + i * S.K + j, none⟩ = some u := by
  obtain ⟨b, off, ha, hlt, hc⟩ := h.cells (by omega)
  exact ⟨b, off, ha, hlt, h.all _ (vec_mem (by rw [h.len]; exact hi)), hc i hi⟩
theorem VecAt.ofOwn {base : Nat} {e : TypeId} (h : w.ownsRow base e S.K (.slice a n c) n (S.flat l)) (hl : l.length = n) (hok : ∀ x ∈ l, S.ok w x) : VecAt S w a n c l := by
  rcases h.2 with ⟨he, h0⟩ | ⟨g, cap, cur, he, hg, hh, hnc, hcap, hsz, htake⟩
  · cases he
    obtain rfl : l = [] := List.eq_nil_of_length_eq_zero hl
    exact VecAt.empty w none 0 (by omega) (fun _ => rfl)
  · cases he
    refine ⟨hl, hnc, by unfold maxLen at hcap; exact hcap, (fun e => by cases e), hok, fun hp => ⟨g, 0, rfl, (Array.getElem?_eq_some_iff.1 hh).1, fun i hi j u hu => ?_⟩⟩
    have hj : j < S.K := by rw [← S.wid (l.getD i S.z)]; exact (List.getElem?_eq_some_iff.1 hu).1
    have h2 : (S.flat l)[i * S.K + j]? = some u := by
      unfold Sty.flat
      rw [vflat_at S.f S.K S.wid S.z l i j (by omega) hj, hu]
    have hlt : i * S.K + j < n * S.K := by
      have := Nat.mul_le_mul_right S.K (show i + 1 ≤ n by omega)
      rw [Nat.succ_mul] at this; omega
    rw [Nat.zero_add, cell_of_row w _ _ _ _ (0, 0) hh, ← h2, ← htake, List.getElem?_take_of_lt hlt, Array.getElem?_toList]
theorem Sty.flat_len (S : Sty α) (l : List α) : (S.flat l).length = l.length * S.K := Go.Proofs.Ytpcohkhdbjimgaa.vflat_len S.f S.K S.wid l
theorem Sty.flat_snoc (S : Sty α) (l : List α) (x : α) : S.flat (l ++ [x]) = S.flat l ++ S.f x := by unfold Sty.flat; simp
theorem Sty.flat_one (S : Sty α) (l : List α) : ∀ u ∈ S.flat l, u.oneCell' = true := by
  intro u hu
  obtain ⟨x, _, hx⟩ := List.mem_flatMap.1 hu
  exact S.one x u hx
theorem VecAt.src {ad : Addr} (h : VecAt S w (some ad) n c l) : ∀ j u, (S.flat l)[j]? = some u → w.cell? (ad.add j) = some u := by
  intro j u hu
  have hj : j < n * S.K := by rw [← h.len, ← S.flat_len]; exact (List.getElem?_eq_some_iff.1 hu).1
  have hn : 0 < n := by
    rcases Nat.eq_zero_or_pos n with e | e
    · rw [e, Nat.zero_mul] at hj; omega
    · exact e
  obtain ⟨b, off, he, hlt, hc⟩ := h.cells hn
  cases he
  have hdiv : j / S.K < n := (Nat.div_lt_iff_lt_mul S.pos).2 hj
  have hmod : j % S.K < S.K := Nat.mod_lt _ S.pos
  have e1 : j / S.K * S.K + j % S.K = j := by rw [Nat.mul_comm]; exact Nat.div_add_mod j S.K
  have h2 := vflat_at S.f S.K S.wid S.z l (j / S.K) (j % S.K) (by rw [h.len]; exact hdiv) hmod
  rw [e1] at h2
  have h3 := hc (j / S.K) hdiv (j % S.K) u (by rw [← h2]; exact hu)
  have h4 : (⟨b, off, none⟩ : Addr).add j = ⟨b, off + j, none⟩ := by unfold Addr.add; split <;> simp_all
  rw [h4, ← h3, Nat.add_assoc, e1]
end
/-- one thing, newly laid -/
theorem Sty.src {α : Type} (S : Sty α) (w : World) (x : α) (t : TypeId) {cs : Array Value} (hcs : cs = (S.f x).toArray) : ∀ j u, (S.f x)[j]? = some u → (w.alloc (.cells cs t)).cell? ((⟨w.heap.size, 0, none⟩ : Addr).add j) = some u := by
  intro j u hj
  have hblk := heap_alloc_new w (.cells cs t)
  have hadd : (⟨w.heap.size, 0, none⟩ : Addr).add j = ⟨w.heap.size, 0 + j, none⟩ := by unfold Addr.add; split <;> simp_all
  rw [hadd, Nat.zero_add, cell_of_row _ _ _ _ _ (0, 0) hblk, hcs, List.getElem?_toArray]
  exact hj
theorem vec_wadd {H : Type} {P : Program} {e : TypeId} {d : DataW H} {n : Nat} : ∀ {l : List (DataW H)}, d ∈ l → n ∈ DataW.weights P e d → n ∈ DataW.weightsAll P e l
  | [], h, _ => by cases h
  | x :: r, h, hn => by
    rw [DataW.weightsAll]
    rcases List.mem_cons.1 h with rfl | h
    · exact List.mem_append_left _ hn
    · exact List.mem_append_right _ (vec_wadd h hn)
/-- opened, as a law's argument -/
theorem open_vec {α : Type} (S : Sty α) {H : Type} {enc : TypeId × Value → H} {W : World} {fuel : Nat} {T e : TypeId} {a : Option Addr} {len cap : Nat} {x : DataW H × List MemPlace} (ht : Try.prog.underlying T = some (.slice e)) (hK : Try.prog.cellsOf e = S.K)
    (hfld : ∀ (fuel : Nat) (cs : List Value) (y : DataW H × List MemPlace), DataW.trod enc Try.prog W 0 (fun _ => true) true fuel e cs = some y → (∀ n, n ∈ DataW.weights Try.prog e y.1 → n ≤ reachBytes) → ∃ r : α, cs = S.f r ∧ S.ok W r)
    (hf : DataW.trod enc Try.prog W 0 (fun _ => true) true fuel T [.slice a len cap] = some x) (hw : ∀ n, n ∈ DataW.weights Try.prog T x.1 → n ≤ reachBytes) : ∃ l : List α, VecAt S W a len cap l := by
  rcases open_slice ht hf with ⟨hcs, _⟩ | ⟨x0, l, c, m, n, D, Pl, hcs, _, hl, hm, hmm, hx, hi⟩
  · simp at hcs
    obtain ⟨rfl, rfl, rfl⟩ := hcs
    exact ⟨[], VecAt.empty W none 0 (by omega) (fun _ => rfl)⟩
  · simp at hcs
    obtain ⟨rfl, rfl, rfl⟩ := hcs
    rw [hK] at hi
    have hm2 : m = cap := by rw [hmm]; simp
    have hone : ∀ i : Nat, ∃ r : α, i < len → (∀ j u, (S.f r)[j]? = some u → W.cell? (x0.add (i * S.K + j)) = some u) ∧ S.ok W r := by
      intro i
      by_cases hil : i < len
      · obtain ⟨cs, hcc, ht2⟩ := hi i (by omega)
        obtain ⟨r, rfl, hok⟩ := hfld _ _ _ ht2 (fun n hn => hw n (by
          rw [hx]
          simp only [DataW.weights, ht]
          exact List.mem_cons_of_mem _ (List.mem_append_left _ (vec_wadd (List.mem_map.2 ⟨i, List.mem_range.2 hil, rfl⟩) hn))))
        obtain ⟨_, hl9, hat⟩ := World.cells?_some hcc
        refine ⟨r, fun _ => ⟨fun j u hu => ?_, hok⟩⟩
        have := hat j (by rw [← hl9]; exact (List.getElem?_eq_some_iff.1 hu).1)
        rw [add_add, hu] at this
        exact this
      · exact ⟨S.z, fun h => absurd h hil⟩
    obtain ⟨f, hF⟩ := Classical.skolem.1 hone
    have hget : ∀ i, i < len → ((List.range len).map f).getD i S.z = f i := fun i h => by simp [h]
    refine ⟨(List.range len).map f, by simp, hl, by unfold maxLen at hm; exact hm, (fun e => by cases e), ?_, fun hp => ?_⟩
    · intro y hy
      obtain ⟨i, hi', rfl⟩ := List.mem_map.1 hy
      exact (hF i (List.mem_range.1 hi')).2
    · obtain ⟨b, off, spot⟩ := x0
      have h00 : 0 < (S.f (f 0)).length := by rw [S.wid]; exact S.pos
      have hc := (hF 0 hp).1 0 _ (List.getElem?_eq_getElem h00)
      have hspot : spot = none := by simpa [Addr.add] using World.cell?_spot hc
      subst hspot
      refine ⟨b, off, rfl, ?_, fun i hi' j u hu => ?_⟩
      · have := World.block_lt_of_cell? W _ hc
        simpa [Addr.add] using this
      · rw [hget i hi'] at hu
        have h0 := (hF i hi').1 j u hu
        have h4 : (⟨b, off, none⟩ : Addr).add (i * S.K + j) = ⟨b, off + (i * S.K + j), none⟩ := by unfold Addr.add; split <;> simp_all
        rw [h4, ← Nat.add_assoc] at h0
        exact h0
/-- integers, as things of one cell -/
def IntS : Sty Int := ⟨fun z => [.int .i64 z], 1, 0, fun _ z => (Lit.int .i64 z).wf = true, by decide, fun _ => rfl, (fun x u hu => by rw [List.mem_singleton.1 hu]; rfl), fun _ h => h⟩
end Go.Proofs.Ytpcohkhdbjimgaa
