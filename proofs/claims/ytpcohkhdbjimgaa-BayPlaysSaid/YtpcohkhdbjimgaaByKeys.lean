/- A bay's keys in their order, by the shelf's contracts. -/
import Derived.Sort.OwnSorted
import Derived.Test.YtpcohkhdbjimgaaByA
import Derived.Test.YtpcohkhdbjimgaaBayIt
namespace Go.Proofs.Ytpcohkhdbjimgaa
open Go.RowKit Go.Shelf Go.Maps Go.Sort
set_option linter.unusedVariables false

def kysOf {α : Type} (l : List (ByteArray × α)) : List (List UInt8) := l.map (·.1.data.toList)
theorem kys_keys {α : Type} {f : α → Value} (l : List (ByteArray × α)) : strKeys (DataW.map (encK slit f l)) = l.map (·.1.data.toList) := by
  unfold strKeys encK
  simp only [List.map_map]
  rfl
theorem kys_rise {α : Type} {l : List (ByteArray × α)} (h : l.Pairwise fun p q => (slit p.1).before (slit q.1) = true) : (kysOf l).Pairwise (· < ·) := by
  unfold kysOf
  refine List.pairwise_map.2 (h.imp fun {p q} hb => ?_)
  exact bb_lt _ _ (by simpa [slit, Lit.before] using hb)
theorem kys_sorted {α : Type} {l : List (ByteArray × α)} (h : l.Pairwise fun p q => (slit p.1).before (slit q.1) = true) {ss : List (List UInt8)} (hp : ss.Perm (kysOf l)) : (ss.mergeSort fun x y => decide (x ≤ y)) = kysOf l := by
  have tr : ∀ a b c : List UInt8, decide (a ≤ b) = true → decide (b ≤ c) = true → decide (a ≤ c) = true := fun a b c h1 h2 => by simp only [decide_eq_true_eq] at *; exact List.le_trans h1 h2
  have to : ∀ a b : List UInt8, (decide (a ≤ b) || decide (b ≤ a)) = true := fun a b => by simp only [Bool.or_eq_true, decide_eq_true_eq]; exact List.le_total a b
  exact List.Perm.eq_of_pairwise (le := fun a b => decide (a ≤ b) = true) (fun a b _ _ h1 h2 => List.le_antisymm (by simpa using h1) (by simpa using h2)) (List.pairwise_mergeSort tr to ss) ((kys_rise h).imp fun {a b} h => by simpa using List.le_of_lt h) ((List.mergeSort_perm ss _).trans hp)

theorem keysB_any (mb : Option Nat) (w : World) :
    Calls Try.prog 31 #[.map mb] w fun e w' => e = .returned (.func (.func 35) #[] #[.pointer (some ⟨w.heap.size, 0, none⟩)]) ∧ w' = w.alloc (.cells #[.map mb] 65) :=
  callsIn_wide.1 (AnyZ.keys_in sh_keys37 Fence.wide 5 trivial rfl mb w)
theorem sortsS (m : Nat) : AnyZ.SortsIn Try.prog sh_sorted36_ren Fence.wide m :=
  ⟨fun blk off cap ss W hH hblk hsz => callsIn_wide.2 (sh_slices_Sort_string blk off cap ss W hH hblk hsz), fun p cap W => callsIn_wide.2 (sh_slices_Sort_string_none p cap W)⟩

set_option maxHeartbeats 1000000 in
theorem sortedB_any {w : World} {b : Nat} {l : List (ByteArray × BoxV)} (h : GM TB slit boxC w b l) (hl : l.length ≤ 100000) :
    Calls Try.prog 30 #[.func (.func 35) #[] #[.pointer (some ⟨w.heap.size, 0, none⟩)]] (w.alloc (.cells #[.map (some b)] 65)) fun e w' => ∃ v, e = .returned v ∧
      w'.ownsRow (w.heap.size + 1) 9 1 v l.length ((kysOf l).map encStr) ∧ Below (w.heap.size + 1) (w.alloc (.cells #[.map (some b)] 65)) w' := by
  have hsz : Maps.size (DataW.map (encK slit boxC l)) = l.length := enc_size
  have hmx : maxLen = 9223372036854775807 := rfl
  have hown : (w.alloc (.cells #[.map (some b)] 65)).ownsMap Try.prog (sh_keys37_ren.t 26) heldR b l.length (DataW.map (encK slit boxC l)) := h.below ((Below.refl w.heap.size w).alloc (Nat.le_refl _) _)
  have hseq : SeqGives Fence.wide 2 Try.prog 35 #[.pointer (some ⟨w.heap.size, 0, none⟩)] encStr (fun ss => ss.Perm (strKeys (DataW.map (encK slit boxC l)))) (Maps.size (DataW.map (encK slit boxC l))) (w.alloc (.cells #[.map (some b)] 65)) :=
    AnyZ.keys_gives (ρ := sh_keys37_ren) (H := Value) { sh_keys37 with } Fence.wide 2 trivial rfl (Nat.le_succ 1) w.heap.size b l.length (DataW.map (encK slit boxC l)) (w.alloc (.cells #[.map (some b)] 65)) (by simp) (by simp) hown
  refine (callsIn_wide.1 (AnyZ.sorted_in sh_sorted36 Fence.wide 5 trivial trivial trivial trivial rfl (by omega) (sortsS _) (enters_of Try.func34 (by kernel_rfl) rfl) 35 #[.pointer (some ⟨w.heap.size, 0, none⟩)] trivial (enters_of Try.func35 (by kernel_rfl) rfl) _ _ (by rw [hsz, hmx]; omega) (by rw [hsz]; omega) _ hseq)).mono ?_
  rintro e w' ⟨v, ss, rfl, hS, hrow, hnil, hb⟩
  rw [kys_keys] at hS
  have hlen : ss.length = l.length := by rw [hS.length_eq]; simp
  have hh : (w.alloc (.cells #[.map (some b)] 65)).heap.size = w.heap.size + 1 := by simp
  rw [kys_sorted h.rise hS, hlen, hh] at hrow
  rw [hh] at hb
  exact ⟨v, rfl, hrow, hb⟩
theorem below_two {w w' : World} {o : Obj} (h : Below (w.heap.size + 1) (w.alloc o) w') : Below w.heap.size w w' :=
  ((Below.refl _ _).alloc (Nat.le_refl _) _).trans (h.mono (Nat.le_succ _))
def KeyS : Sty ByteArray := ⟨fun z => [.string z], 1, ByteArray.empty, fun _ _ => True, by decide, fun _ => rfl, (fun x u hu => by rw [List.mem_singleton.1 hu]; rfl), fun _ h => h⟩
theorem kys_flat {α : Type} (l : List (ByteArray × α)) : (kysOf l).map encStr = KeyS.flat (l.map (·.1)) := by
  unfold kysOf Sty.flat
  induction l with
  | nil => rfl
  | cons p l ih =>
    rw [List.map_cons, List.map_cons, List.map_cons, List.flatMap_cons, ih]
    rfl
theorem row_get {α : Type} {S : Sty α} {w : World} {base n : Nat} {e : TypeId} {v : Value} {l : List α} (h : w.ownsRow base e S.K v n (S.flat l)) (hl : l.length = n) (hok : ∀ x ∈ l, S.ok w x) :
    ∃ a c, v = .slice a n c ∧ ∀ i, i < n → ∃ g, a = some ⟨g, 0, none⟩ ∧ base ≤ g ∧ g < w.heap.size ∧ ∀ j u, (S.f (l.getD i S.z))[j]? = some u → w.cell? ⟨g, i * S.K + j, none⟩ = some u := by
  rcases h.2 with ⟨rfl, hz⟩ | ⟨g, cap, cu, rfl, hbg, hh, _⟩
  · exact ⟨none, 0, by rw [hz], fun i hi => by omega⟩
  · refine ⟨_, _, rfl, fun i hi => ?_⟩
    obtain ⟨b, off, ha, hb, _, hc⟩ := (VecAt.ofOwn h hl hok).get hi
    cases ha
    refine ⟨g, rfl, hbg, hb, fun j u hu => ?_⟩
    have := hc j u hu
    rwa [Nat.zero_add] at this
end Go.Proofs.Ytpcohkhdbjimgaa
