/- A map whose keys are three bytes, as walks are told of it. -/
import Derived.Test.YteggmbfhfoijoaaDoorOwn
import Derived.Maps.OwnSet
import Derived.WideKeyArr
namespace Go.Proofs.YteggmbfhfoijoaaDoor
open Go.RowKit Go.WideMaps
open Go.Maps (Keyed)
set_option linter.unusedVariables false

theorem arr3 : ArrKey Tryd.prog 133 5 3 := ⟨Tryd.underlying133, by kernel_rfl, by kernel_rfl, by kernel_rfl⟩
theorem law3 : Keyed Tryd.prog 133 := Keyed.of_law arr3.law
theorem size3 : ∃ m, Tryd.prog.types.size = m + 1 := ⟨Tryd.prog.types.size - 1, by kernel_rfl⟩
theorem zero_int (w : World) : (zeroValue 3).run Tryd.prog w = .ok (.int .i64 0) w := by kernel_rfl

abbrev K3 := Nat × Nat × Nat
def B3 (k : K3) : Prop := k.1 < 256 ∧ k.2.1 < 256 ∧ k.2.2 < 256
def kv (k : K3) : Value := .agg #[.int .u8 (k.1 : Int), .int .u8 (k.2.1 : Int), .int .u8 (k.2.2 : Int)]
def kl (k : K3) : Lit := .string (keyBytes [.int .u8 (k.1 : Int), .int .u8 (k.2.1 : Int), .int .u8 (k.2.2 : Int)])
theorem wf_u8 {x : Nat} (h : x < 256) : (Lit.int .u8 (x : Int)).wf = true := by
  exact WalkArith.wf_u8 (by omega)

theorem keyOf3 {k : K3} (h : B3 k) : keyOf Tryd.prog 133 (kv k) = some (kl k) := by
  obtain ⟨a, b, c⟩ := k
  obtain ⟨h1, h2, h3⟩ := h
  have wa := wf_u8 h1
  have wb := wf_u8 h2
  have wc := wf_u8 h3
  have hkt := arr3.keyType size3
  obtain ⟨m, hm⟩ := size3
  have he : Tryd.prog.underlying 5 = some (.int .u8) := Tryd.underlying5
  have hu := arr3.hu
  have ho := arr3.one
  have hs := arr3.size
  simp only at wa wb wc
  unfold keyOf kv kl
  simp only [hu]
  rw [if_pos (by simp [hkt, Value.formed, hu, hs]), hm]
  unfold Program.keyLits
  simp only [hu, Value.cells]
  rw [if_pos (by rw [hs]; rfl), show List.range 3 = [0, 1, 2] from rfl, List.mapM_cons, List.mapM_cons, List.mapM_cons, List.mapM_nil]
  simp [ho, Program.keyLits, he, wa, wb, wc]

theorem kl_inj {k j : K3} (hk : B3 k) (hj : B3 j) (e : kl k = kl j) : k = j := by
  have h1 := keyOf3 hk
  have h2 := keyOf3 hj
  rw [← e] at h2
  have h3 := law3.inj h1 h2
  obtain ⟨a, b, c⟩ := k
  obtain ⟨a', b', c'⟩ := j
  simp [kv] at h3
  obtain ⟨e1, e2, e3⟩ := h3
  simp only [Prod.mk.injEq]
  omega

/-- block M is a map of at most n places: the place of each three bytes -/
def MapIs (w : World) (M n : Nat) (g : K3 → Option Nat) : Prop :=
  ∃ D : DataW Unit, w.ownsMap Tryd.prog 133 (plainElem Tryd.prog 3) M n D ∧ ∀ k, B3 k → Maps.has D (kl k) = (g k).isSome ∧ D.atKey (kl k) (.lit (.int .i64 0)) = .lit (.int .i64 (((g k).getD 0 : Nat) : Int))

theorem MapIs.made (w : World) : MapIs (w.alloc (.map #[] 0)) w.heap.size 0 (fun _ => none) :=
  ⟨.map [], World.ownsMap_made _ _ _ _, fun k _ => ⟨rfl, rfl⟩⟩
theorem MapIs.mono {w : World} {M n n' : Nat} {g : K3 → Option Nat} (h : MapIs w M n g) (hn : n ≤ n') : MapIs w M n' g := by
  obtain ⟨D, h1, h2⟩ := h
  exact ⟨D, h1.mono hn, h2⟩
theorem MapIs.kept {w w' : World} {M n : Nat} {g : K3 → Option Nat} {row : Option Nat} (h : MapIs w M n g) (hg : w.grownBy w' row) (hne : some M ≠ row) : MapIs w' M n g := by
  obtain ⟨D, h1, h2⟩ := h
  exact ⟨D, h1.kept hg hne, h2⟩
theorem MapIs.lt {w : World} {M n : Nat} {g : K3 → Option Nat} (h : MapIs w M n g) : M < w.heap.size := by
  obtain ⟨D, h1, h2⟩ := h
  exact h1.lt
theorem MapIs.congr {w : World} {M n : Nat} {g g' : K3 → Option Nat} (h : MapIs w M n g) (he : ∀ k, g k = g' k) : MapIs w M n g' := by
  obtain rfl : g = g' := funext he
  exact h
theorem MapIs.same {w w' : World} {M n : Nat} {g : K3 → Option Nat} (h : MapIs w M n g) (e : w'.heap[M]? = w.heap[M]?) : MapIs w' M n g := by
  obtain ⟨D, ⟨es, clock, hb, F⟩, h2⟩ := h
  exact ⟨D, ⟨es, clock, e.trans hb, F⟩, h2⟩

/-- 'v, ok := m[k]' -/
theorem MapIs.look {w : World} {M n : Nat} {g : K3 → Option Nat} (h : MapIs w M n g) {k : K3} (hk : B3 k) :
    (Instr.lookup 103 (.map (some M)) (kv k) true).run Tryd.prog w = .ok (.tuple #[.int .i64 (((g k).getD 0 : Nat) : Int), .bool (g k).isSome]) w := by
  obtain ⟨D, h1, h2⟩ := h
  obtain ⟨h3, h4⟩ := h2 k hk
  obtain ⟨v, ps, hrun, hv⟩ := h1.look_ok law3 Tryd.underlying103 (zero_int w) (plainElem_int Tryd.underlying3 (by decide)) (keyOf3 hk)
  obtain ⟨c, rfl, hc, hwc⟩ := plainElem_int_inv Tryd.underlying3 hv
  have hc1 := congrArg Prod.fst hc
  simp only [h4] at hc1
  simp only [DataW.lit.injEq, Lit.int.injEq, true_and] at hc1
  rw [hrun, h3, hc1]
/-- 'm[k] = v' -/
theorem MapIs.store {w : World} {M n : Nat} {g : K3 → Option Nat} (h : MapIs w M n g) {k : K3} (hk : B3 k) {q : Nat} (hq : q < 9223372036854775808) (hn : n < maxLen) :
    ∃ w', (Instr.mapUpdate 103 (.map (some M)) (kv k) (.int .i64 (q : Int))).run Tryd.prog w = .ok () w' ∧ MapIs w' M (n + 1) (fun j => if j = k then some q else g j) ∧ w.grownBy w' (some M) := by
  obtain ⟨D, h1, h2⟩ := h
  obtain ⟨w', hrun, r1, r2⟩ := h1.update law3 Tryd.underlying103 hn (val := .int .i64 (q : Int)) (keyOf3 hk) (plainElem_int Tryd.underlying3 (WalkArith.wf_i64 (by omega)))
  refine ⟨w', hrun, ⟨_, r1, fun j hj => ?_⟩, r2⟩
  by_cases e : j = k
  · subst e
    have hkk := law3.key (keyOf3 hj)
    simp only [if_pos]
    exact ⟨Maps.has_put_same h1.isMap hkk _, Maps.atKey_put_same h1.isMap hkk _ _⟩
  · have hne : kl j ≠ kl k := fun e' => e (kl_inj hj hk e')
    simp only [if_neg e]
    rw [Maps.has_put_other hne, Maps.atKey_put_other hne]
    exact h2 j hj
end Go.Proofs.YteggmbfhfoijoaaDoor
