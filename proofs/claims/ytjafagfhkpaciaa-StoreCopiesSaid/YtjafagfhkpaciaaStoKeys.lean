/- The store's keys and its uploads' IDs: slices.Sorted of maps.Keys, by the shelf's contracts. -/
import Derived.Sort.OwnSorted
import Derived.Test.YtjafagfhkpaciaaStoPl
import Derived.Test.YtjafagfhkpaciaaStoIt
namespace Go.Proofs.Ytjafagfhkpaciaa
open Go.RowKit Go.Shelf Go.Maps Go.Sort
set_option linter.unusedVariables false

theorem GM.rise {κ α : Type} {T : MTy} {lit : κ → Lit} {f : α → Value} {w : World} {M : Nat} {l : List (κ × α)} (h : GM T lit f w M l) : l.Pairwise fun p q => (lit p.1).before (lit q.1) = true := by
  obtain ⟨es, he, hp, _⟩ := World.ownsMap.canon h T.K
  have e1 : es = encK lit f l := by cases he; rfl
  rw [e1] at hp
  unfold encK at hp
  exact (List.pairwise_map (f := fun p : κ × α => (lit p.1, (DataW.held (f p.2) : DataW Value))) (R := fun p q => p.1.before q.1 = true)).1 hp
def idsOf (l : List (Int × UplS)) : List Int := l.map (·.1)
def kysOf (l : List (ByteArray × ObjS)) : List (List UInt8) := l.map (·.1.data.toList)
theorem ids_keys {α : Type} {f : α → Value} (l : List (Int × α)) : intKeys (DataW.map (encK ilit f l)) = l.map (·.1) := by
  unfold intKeys encK
  simp only [List.map_map]
  rfl
theorem kys_keys {α : Type} {f : α → Value} (l : List (ByteArray × α)) : strKeys (DataW.map (encK slit f l)) = l.map (·.1.data.toList) := by
  unfold strKeys encK
  simp only [List.map_map]
  rfl
theorem ids_rise {l : List (Int × UplS)} (h : l.Pairwise fun p q => (ilit p.1).before (ilit q.1) = true) : (idsOf l).Pairwise (· < ·) := by
  unfold idsOf
  refine List.pairwise_map.2 (h.imp fun {p q} hb => ?_)
  simpa [ilit, Lit.before] using hb
theorem bb_lt : ∀ a b : List UInt8, bytesBefore a b = true → a < b
  | [], [], h => by cases h
  | [], b :: s, _ => List.nil_lt_cons _ _
  | a :: r, [], h => by cases h
  | a :: r, b :: s, h => by
    unfold bytesBefore at h
    rw [List.cons_lt_cons_iff]
    rcases Bool.or_eq_true_iff.1 h with g | g
    · exact .inl (by simpa using g)
    · obtain ⟨g1, g2⟩ := Bool.and_eq_true_iff.1 g
      exact .inr ⟨by simpa using g1, bb_lt r s g2⟩
theorem kys_rise {l : List (ByteArray × ObjS)} (h : l.Pairwise fun p q => (slit p.1).before (slit q.1) = true) : (kysOf l).Pairwise (· < ·) := by
  unfold kysOf
  refine List.pairwise_map.2 (h.imp fun {p q} hb => ?_)
  exact bb_lt _ _ (by simpa [slit, Lit.before] using hb)
theorem ids_sorted {l : List (Int × UplS)} (h : l.Pairwise fun p q => (ilit p.1).before (ilit q.1) = true) {ss : List Int} (hp : ss.Perm (idsOf l)) : (ss.mergeSort fun x y => decide (x ≤ y)) = idsOf l := by
  have tr : ∀ a b c : Int, decide (a ≤ b) = true → decide (b ≤ c) = true → decide (a ≤ c) = true := fun a b c h1 h2 => by simp only [decide_eq_true_eq] at *; omega
  have to : ∀ a b : Int, (decide (a ≤ b) || decide (b ≤ a)) = true := fun a b => by simp only [Bool.or_eq_true, decide_eq_true_eq]; omega
  exact List.Perm.eq_of_pairwise (le := fun a b => decide (a ≤ b) = true) (fun a b _ _ h1 h2 => by simp only [decide_eq_true_eq] at h1 h2; omega) (List.pairwise_mergeSort tr to ss) ((ids_rise h).imp fun {a b} h => by simp only [decide_eq_true_eq]; omega) ((List.mergeSort_perm ss _).trans hp)
theorem kys_sorted {l : List (ByteArray × ObjS)} (h : l.Pairwise fun p q => (slit p.1).before (slit q.1) = true) {ss : List (List UInt8)} (hp : ss.Perm (kysOf l)) : (ss.mergeSort fun x y => decide (x ≤ y)) = kysOf l := by
  have tr : ∀ a b c : List UInt8, decide (a ≤ b) = true → decide (b ≤ c) = true → decide (a ≤ c) = true := fun a b c h1 h2 => by simp only [decide_eq_true_eq] at *; exact List.le_trans h1 h2
  have to : ∀ a b : List UInt8, (decide (a ≤ b) || decide (b ≤ a)) = true := fun a b => by simp only [Bool.or_eq_true, decide_eq_true_eq]; exact List.le_total a b
  exact List.Perm.eq_of_pairwise (le := fun a b => decide (a ≤ b) = true) (fun a b _ _ h1 h2 => List.le_antisymm (by simpa using h1) (by simpa using h2)) (List.pairwise_mergeSort tr to ss) ((kys_rise h).imp fun {a b} h => by simpa using List.le_of_lt h) ((List.mergeSort_perm ss _).trans hp)

theorem keysU_any (mb : Option Nat) (w : World) :
    Calls Try.prog 39 #[.map mb] w fun e w' => e = .returned (.func (.func 61) #[] #[.pointer (some ⟨w.heap.size, 0, none⟩)]) ∧ w' = w.alloc (.cells #[.map mb] 59) :=
  callsIn_wide.1 (AnyZI.keys_in sh_keys39 Fence.wide 5 trivial rfl mb w)
theorem keysO_any (mb : Option Nat) (w : World) :
    Calls Try.prog 37 #[.map mb] w fun e w' => e = .returned (.func (.func 58) #[] #[.pointer (some ⟨w.heap.size, 0, none⟩)]) ∧ w' = w.alloc (.cells #[.map mb] 58) :=
  callsIn_wide.1 (AnyZ.keys_in sh_keys37 Fence.wide 5 trivial rfl mb w)
theorem sortsI (m : Nat) : AnyZI.SortsIn Try.prog sh_sorted38_ren Fence.wide m :=
  ⟨fun blk off cap ss W hH hblk hsz => callsIn_wide.2 (sh_slices_Sort_int blk off cap ss W hH hblk hsz), fun p cap W => callsIn_wide.2 (sh_slices_Sort_int_none p cap W)⟩
theorem sortsS (m : Nat) : AnyZ.SortsIn Try.prog sh_sorted36_ren Fence.wide m :=
  ⟨fun blk off cap ss W hH hblk hsz => callsIn_wide.2 (sh_slices_Sort_string blk off cap ss W hH hblk hsz), fun p cap W => callsIn_wide.2 (sh_slices_Sort_string_none p cap W)⟩

set_option maxHeartbeats 1000000 in
theorem sortedU_any {w : World} {b : Nat} {l : List (Int × UplS)} (h : GM TU ilit uplC w b l) (hl : l.length ≤ 100000) :
    Calls Try.prog 38 #[.func (.func 61) #[] #[.pointer (some ⟨w.heap.size, 0, none⟩)]] (w.alloc (.cells #[.map (some b)] 59)) fun e w' => ∃ v, e = .returned v ∧
      w'.ownsRow (w.heap.size + 1) 3 1 v l.length ((idsOf l).map encZ) ∧ Below (w.heap.size + 1) (w.alloc (.cells #[.map (some b)] 59)) w' := by
  have hsz : Maps.size (DataW.map (encK ilit uplC l)) = l.length := enc_size
  have hmx : maxLen = 9223372036854775807 := rfl
  have hown : (w.alloc (.cells #[.map (some b)] 59)).ownsMap Try.prog (sh_keys39_ren.t 26) heldR b l.length (DataW.map (encK ilit uplC l)) := h.below ((Below.refl w.heap.size w).alloc (Nat.le_refl _) _)
  have hseq : SeqGives Fence.wide 2 Try.prog 61 #[.pointer (some ⟨w.heap.size, 0, none⟩)] encZ (fun ss => ss.Perm (intKeys (DataW.map (encK ilit uplC l)))) (Maps.size (DataW.map (encK ilit uplC l))) (w.alloc (.cells #[.map (some b)] 59)) :=
    AnyZI.keys_gives (ρ := sh_keys39_ren) (H := Value) { sh_keys39 with } Fence.wide 2 trivial rfl (Nat.le_succ 1) w.heap.size b l.length (DataW.map (encK ilit uplC l)) (w.alloc (.cells #[.map (some b)] 59)) (by simp) (by simp) hown
  refine (callsIn_wide.1 (AnyZI.sorted_in sh_sorted38 Fence.wide 5 trivial trivial trivial trivial rfl (by omega) (sortsI _) (enters_of Try.func60 (by kernel_rfl) rfl) 61 #[.pointer (some ⟨w.heap.size, 0, none⟩)] trivial (enters_of Try.func61 (by kernel_rfl) rfl) _ _ (by rw [hsz, hmx]; omega) (by rw [hsz]; omega) _ hseq)).mono ?_
  rintro e w' ⟨v, ss, rfl, hS, hrow, hnil, hb⟩
  rw [ids_keys] at hS
  have hlen : ss.length = l.length := by rw [hS.length_eq]; simp
  have hh : (w.alloc (.cells #[.map (some b)] 59)).heap.size = w.heap.size + 1 := by simp
  rw [ids_sorted h.rise hS, hlen, hh] at hrow
  rw [hh] at hb
  exact ⟨v, rfl, hrow, hb⟩
set_option maxHeartbeats 1000000 in
theorem sortedO_any {w : World} {b : Nat} {l : List (ByteArray × ObjS)} (h : GM TO slit objC w b l) (hl : l.length ≤ 100000) :
    Calls Try.prog 36 #[.func (.func 58) #[] #[.pointer (some ⟨w.heap.size, 0, none⟩)]] (w.alloc (.cells #[.map (some b)] 58)) fun e w' => ∃ v, e = .returned v ∧
      w'.ownsRow (w.heap.size + 1) 9 1 v l.length ((kysOf l).map encStr) ∧ Below (w.heap.size + 1) (w.alloc (.cells #[.map (some b)] 58)) w' := by
  have hsz : Maps.size (DataW.map (encK slit objC l)) = l.length := enc_size
  have hmx : maxLen = 9223372036854775807 := rfl
  have hown : (w.alloc (.cells #[.map (some b)] 58)).ownsMap Try.prog (sh_keys37_ren.t 26) heldR b l.length (DataW.map (encK slit objC l)) := h.below ((Below.refl w.heap.size w).alloc (Nat.le_refl _) _)
  have hseq : SeqGives Fence.wide 2 Try.prog 58 #[.pointer (some ⟨w.heap.size, 0, none⟩)] encStr (fun ss => ss.Perm (strKeys (DataW.map (encK slit objC l)))) (Maps.size (DataW.map (encK slit objC l))) (w.alloc (.cells #[.map (some b)] 58)) :=
    AnyZ.keys_gives (ρ := sh_keys37_ren) (H := Value) { sh_keys37 with } Fence.wide 2 trivial rfl (Nat.le_succ 1) w.heap.size b l.length (DataW.map (encK slit objC l)) (w.alloc (.cells #[.map (some b)] 58)) (by simp) (by simp) hown
  refine (callsIn_wide.1 (AnyZ.sorted_in sh_sorted36 Fence.wide 5 trivial trivial trivial trivial rfl (by omega) (sortsS _) (enters_of Try.func57 (by kernel_rfl) rfl) 58 #[.pointer (some ⟨w.heap.size, 0, none⟩)] trivial (enters_of Try.func58 (by kernel_rfl) rfl) _ _ (by rw [hsz, hmx]; omega) (by rw [hsz]; omega) _ hseq)).mono ?_
  rintro e w' ⟨v, ss, rfl, hS, hrow, hnil, hb⟩
  rw [kys_keys] at hS
  have hlen : ss.length = l.length := by rw [hS.length_eq]; simp
  have hh : (w.alloc (.cells #[.map (some b)] 58)).heap.size = w.heap.size + 1 := by simp
  rw [kys_sorted h.rise hS, hlen, hh] at hrow
  rw [hh] at hb
  exact ⟨v, rfl, hrow, hb⟩
theorem below_two {w w' : World} {o : Obj} (h : Below (w.heap.size + 1) (w.alloc o) w') : Below w.heap.size w w' :=
  ((Below.refl _ _).alloc (Nat.le_refl _) _).trans (h.mono (Nat.le_succ _))
set_option maxRecDepth 100000 in
set_option maxHeartbeats 2000000 in
theorem uploads_any {w : World} {s Mo Mu : Nat} {σ : Sto} (h : StAt w s Mo Mu σ) (hl : σ.ups.length ≤ 100000) :
    Calls Try.prog 20 #[.pointer (some ⟨s, 0, none⟩)] w fun e w' => ∃ v, e = .returned v ∧ w'.ownsRow (w.heap.size + 1) 3 1 v σ.ups.length ((idsOf σ.ups).map encZ) ∧ Below w.heap.size w w' := by
  have c1 := cell_blk2 (i := 1) h.blk rfl
  have H1 := Lib.hid (keysU_any (some Mu) w)
  have H2 := Lib.hid (sortedU_any h.upl hl)
  clear h
  go_enter Try.func20, Try.ntmps20
  go_wp2_with fail
  refine H1.out.mono ?_
  rintro e w1 ⟨rfl, rfl⟩
  go_wp2_with fail
  refine H2.out.mono ?_
  rintro e w2 ⟨v, rfl, hrow, hb⟩
  go_wp2_with fail
  first | go_ret2 | go_ret
  exact ⟨v, rfl, hrow, below_two hb⟩
set_option maxRecDepth 100000 in
set_option maxHeartbeats 2000000 in
theorem skeys_any {w : World} {s Mo Mu : Nat} {σ : Sto} (h : StAt w s Mo Mu σ) (hl : σ.objs.length ≤ 100000) :
    Calls Try.prog 17 #[.pointer (some ⟨s, 0, none⟩)] w fun e w' => ∃ v, e = .returned v ∧ w'.ownsRow (w.heap.size + 1) 9 1 v σ.objs.length ((kysOf σ.objs).map encStr) ∧ Below w.heap.size w w' := by
  have c1 := cell_blk2 (i := 0) h.blk rfl
  have H1 := Lib.hid (keysO_any (some Mo) w)
  have H2 := Lib.hid (sortedO_any h.obj hl)
  clear h
  go_enter Try.func17, Try.ntmps17
  go_wp2_with fail
  refine H1.out.mono ?_
  rintro e w1 ⟨rfl, rfl⟩
  go_wp2_with fail
  refine H2.out.mono ?_
  rintro e w2 ⟨v, rfl, hrow, hb⟩
  go_wp2_with fail
  first | go_ret2 | go_ret
  exact ⟨v, rfl, hrow, below_two hb⟩
set_option maxRecDepth 100000 in
theorem size_of {w : World} {s : Nat} {z : Int} (h : w.cell? ⟨s, 4, none⟩ = some (.int .i64 z)) :
    Calls Try.prog 19 #[.pointer (some ⟨s, 0, none⟩)] w fun e w' => e = .returned (.int .i64 z) ∧ w' = w := by
  go_enter Try.func19, Try.ntmps19
  go_wp2_with fail
  first | go_ret2 | go_ret
  exact ⟨rfl, rfl⟩
end Go.Proofs.Ytjafagfhkpaciaa
