/- The keys of a law's own store, its maps made or not; a row of replies. -/
import Derived.Test.YtjafagfhkpaciaaStoTick
import Derived.Test.YtjafagfhkpaciaaStoPgL
namespace Go.Proofs.Ytjafagfhkpaciaa
open Go.RowKit Go.Shelf Go.Maps Go.Sort
set_option linter.unusedVariables false

set_option maxHeartbeats 1000000 in
theorem sortedO_nil (w : World) :
    Calls Try.prog 36 #[.func (.func 58) #[] #[.pointer (some ⟨w.heap.size, 0, none⟩)]] (w.alloc (.cells #[.map none] 58)) fun e w' => ∃ v, e = .returned v ∧
      w'.ownsRow (w.heap.size + 1) 9 1 v 0 [] ∧ RowKit.Below (w.heap.size + 1) (w.alloc (.cells #[.map none] 58)) w' := by
  have hmx : maxLen = 9223372036854775807 := rfl
  have hseq : SeqGives Fence.wide 2 Try.prog 58 #[.pointer (some ⟨w.heap.size, 0, none⟩)] encStr (fun ss : List (List UInt8) => ss = []) 0 (w.alloc (.cells #[.map none] 58)) :=
    AnyZ.keys_gives_nil (ρ := sh_keys37_ren) { sh_keys37 with } Fence.wide _ trivial rfl w.heap.size _ (by simp) (by simp)
  refine (callsIn_wide.1 (AnyZ.sorted_in sh_sorted36 Fence.wide 5 trivial trivial trivial trivial rfl (by omega) (sortsS _) (enters_of Try.func57 (by kernel_rfl) rfl) 58 #[.pointer (some ⟨w.heap.size, 0, none⟩)] trivial (enters_of Try.func58 (by kernel_rfl) rfl) _ 0 (Nat.zero_le _) (by omega) _ hseq)).mono ?_
  rintro e w' ⟨v, ss, rfl, rfl, hrow, hnil, hb⟩
  have hh : (w.alloc (.cells #[.map none] 58)).heap.size = w.heap.size + 1 := by simp
  rw [hh] at hrow hb
  have hr2 : w'.ownsRow (w.heap.size + 1) 9 1 v 0 [] := by
    have h1 : w'.ownsRow (w.heap.size + 1) (sh_sorted36_ren.t 26) 1 v 0 [] := by simpa using hrow
    exact h1
  exact ⟨v, rfl, hr2, hb⟩
set_option maxRecDepth 100000 in
set_option maxHeartbeats 2000000 in
theorem keys_nil {w : World} {s : Nat} (h : w.cell? ⟨s, 0, none⟩ = some (.map none)) :
    Calls Try.prog 17 #[.pointer (some ⟨s, 0, none⟩)] w fun e w' => ∃ v, e = .returned v ∧ w'.ownsRow (w.heap.size + 1) 9 1 v 0 [] ∧ RowKit.Below w.heap.size w w' := by
  have H1 := Lib.hid (keysO_any none w)
  have H2 := Lib.hid (sortedO_nil w)
  go_enter Try.func17, Try.ntmps17
  go_wp2_with fail
  refine H1.out.mono ?_
  rintro e w1 ⟨rfl, rfl⟩
  go_wp2_with fail
  refine H2.out.mono ?_
  rintro e w2 ⟨v, rfl, hrow, hb⟩
  go_wp2_with fail
  first | go_ret2 | go_ret
  exact ⟨v, rfl, hrow, below_two hb⟩
theorem keys_st {base : Nat} {W : World} {s : Nat} {σ : Sto} (h : StIn base W s σ) (hl : σ.objs.length ≤ 100000) :
    Calls Try.prog 17 #[.pointer (some ⟨s, 0, none⟩)] W fun e w' => ∃ v, e = .returned v ∧ w'.ownsRow (W.heap.size + 1) 9 1 v σ.objs.length (KeyS.flat (σ.objs.map (·.1))) ∧ RowKit.Below W.heap.size W w' := by
  obtain ⟨_, ⟨Mo, Mu, h1, _⟩ | ⟨h1, h2⟩⟩ := h
  · refine (skeys_any h1 hl).mono ?_
    rintro e w' ⟨v, rfl, hr, hb⟩
    rw [kys_flat] at hr
    exact ⟨v, rfl, hr, hb⟩
  · refine (keys_nil h1.cell0).mono ?_
    rintro e w' ⟨v, rfl, hr, hb⟩
    have e0 : σ.objs = [] := by rw [h2]; rfl
    rw [e0]
    exact ⟨v, rfl, hr, hb⟩
structure RepV where
  ga : Option Addr
  gn : Nat
  gc : Nat
  ver : Int
  born : Int
def repC (x : RepV) : Array Value := #[.int .i64 0, .slice x.ga x.gn x.gc, .int .i64 x.ver, .int .i64 x.born, .int .i64 0, .slice none 0 0, .bool false]
def RepS : Sty RepV := ⟨fun x => [.int .i64 0, .slice x.ga x.gn x.gc, .int .i64 x.ver, .int .i64 x.born, .int .i64 0, .slice none 0 0, .bool false], 7, ⟨none, 0, 0, 0, 0⟩, fun _ _ => True, by decide, fun _ => rfl, (fun x u hu => by
  simp only [List.mem_cons, List.not_mem_nil, or_false] at hu
  rcases hu with rfl | rfl | rfl | rfl | rfl | rfl | rfl <;> rfl), fun _ h => h⟩
theorem info_rep : (Try.prog.info? 35).map (fun i => (i.zero, i.size, i.bytes)) = some (some (.agg #[.int .i64 0, .slice none 0 0, .int .i64 0, .int .i64 0, .int .i64 0, .slice none 0 0, .bool false]), 7, 88) := by kernel_rfl
theorem born_pair {σ : Sto} (hB : BornI σ) (ha : Apt σ) {i j : Nat} {p q : ByteArray × ObjS} (hi : σ.objs[i]? = some p) (hj : σ.objs[j]? = some q) (hne : i ≠ j) : p.2.ver ≠ q.2.ver ∧ (p.2.ver < q.2.ver → p.2.born ≤ q.2.born) ∧ (q.2.ver < p.2.ver → q.2.born ≤ p.2.born) := by
  have hp := List.mem_of_getElem? hi
  have hq := List.mem_of_getElem? hj
  refine ⟨fun e => ?_, (hB p hp q hq).2, (hB q hq p hp).2⟩
  have hk := (hB p hp q hq).1 e
  obtain ⟨hi1, rfl⟩ := List.getElem?_eq_some_iff.1 hi
  obtain ⟨hj1, rfl⟩ := List.getElem?_eq_some_iff.1 hj
  rcases Nat.lt_or_ge i j with g | g
  · exact List.pairwise_iff_getElem.1 ha.obj i j hi1 hj1 g (by rw [hk])
  · exact List.pairwise_iff_getElem.1 ha.obj j i hj1 hi1 (by omega) (by rw [hk])
end Go.Proofs.Ytjafagfhkpaciaa
