/- slices.Repeat of one integer, walked: so many of it, in memory of its own. -/
import Derived.Test.YtnfdojdppifmoaaDoorPrefKit
import Derived.Laws.CopyOwn
import Derived.Laws.BitsAllLaws
import Derived.Deep.OwnRows
namespace Go.Proofs.YtnfdojdppifmoaaDoor
open Go.RowKit
set_option linter.unusedVariables false

set_option maxHeartbeats 1000000 in
theorem mul64_one (k : Nat) (hk : k ≤ 100000) (w : World) :
    Calls Tryd.prog 53 #[.int .u64 1, .int .u64 (k : Int)] w fun e w' => e = .returned (.tuple #[.int .u64 0, .int .u64 (k : Int)]) ∧ w = w' := by
  have E0 : bits .and .u64 1 4294967295 = 1 := by decide
  have E1 : bits .and .u64 (k : Int) 4294967295 = (k : Int) := by
    have h := u64_and_nat k 4294967295 (by omega) (by omega)
    rw [show k &&& 4294967295 = k % 4294967296 from Nat.and_two_pow_sub_one_eq_mod k 32, Nat.mod_eq_of_lt (by omega)] at h
    exact h
  have E2 : (k : Int) / 4294967296 = 0 := by omega
  have E3 : bits .and .u64 0 4294967295 = 0 := by decide
  go_enter Tryd.func53, Tryd.ntmps53
  go_wp2_with fail
  go_ret2
  exact ⟨rfl, rfl⟩
set_option maxHeartbeats 1000000 in
theorem mul_one_any (k : Nat) (hk : k ≤ 100000) (w : World) :
    Calls Tryd.prog 51 #[.int .u64 1, .int .u64 (k : Int)] w fun e w' => e = .returned (.tuple #[.int .u64 0, .int .u64 (k : Int)]) ∧ w = w' := by
  have HM := Lib.hid (mul64_one k hk w)
  go_enter Tryd.func51, Tryd.ntmps51
  go_wp2_with fail
  refine HM.out.mono ?_
  rintro e w1 ⟨rfl, rfl⟩
  go_wp2_with fail
  go_ret2
  exact ⟨rfl, rfl⟩

theorem below_drew (w : World) : Below w.heap.size w w.drew := ⟨rfl, rfl, rfl, Nat.le_refl _, fun _ _ => rfl⟩
/-- a row of k, of which the first j are there -/
def repRow (z : Int) (j k : Nat) : List Value := List.replicate j (.int .i64 z) ++ List.replicate (k - j) (.int .i64 0)
theorem repRow_len (z : Int) {j k : Nat} (h : j ≤ k) : (repRow z j k).length = k := by simp [repRow]; omega
theorem repRow_start (z : Int) (k : Nat) : madeCells #[Value.int .i64 0] k = (repRow z 0 k).toArray := by
  apply Array.toList_inj.1
  rw [toList_madeCells_one]
  simp [repRow]
theorem repRow_copy (z : Int) {j m k : Nat} (h : j + m ≤ k) : splice (repRow z j k) j (List.replicate m (.int .i64 z)) = repRow z (j + m) k := by
  unfold splice repRow
  rw [List.take_left' (by simp), List.length_replicate, List.drop_append, List.drop_of_length_le (by simp), List.length_replicate, List.drop_replicate, List.nil_append, ← List.append_assoc, List.replicate_append_replicate]
  congr 2
  omega
theorem repRow_get (z : Int) {j k i : Nat} (hi : i < j) : (repRow z j k).toArray[i]? = some (.int .i64 z) := by
  simp [repRow, List.getElem?_append_left, hi]
theorem repRow_full (z : Int) (k : Nat) : repRow z k k = iv .i64 (List.replicate k z) := by simp [repRow, iv]
theorem repl_get {m i : Nat} {u a : Value} (h : (List.replicate m a)[i]? = some u) : i < m ∧ u = a := by
  rw [List.getElem?_replicate] at h
  split at h
  · exact ⟨‹_›, (Option.some.inj h).symm⟩
  · cases h

set_option maxRecDepth 100000 in
set_option maxHeartbeats 1000000 in
theorem repeat_any {w : World} {a : Option Addr} {c : Nat} {z : Int} (h : IntsAt .i64 w a 1 c [z]) (k : Nat) (h1 : 1 ≤ k) (hk : k ≤ 100000) :
    Calls Tryd.prog 46 #[.slice a 1 c, .int .i64 (k : Int)] w fun e w' => ∃ v, e = .returned v ∧ w'.ownsRow w.heap.size 3 1 v k (iv .i64 (List.replicate k z)) ∧ Below w.heap.size w w' := by
  obtain ⟨i0, hi, hz0, hz1, hz2⟩ := info_parts info_int
  obtain ⟨b, off, rfl, hlt, hcell⟩ := h.cells (by omega)
  have hc0 : w.cell? ⟨b, off, none⟩ = some (.int .i64 z) := hcell 0 (by omega)
  have HM := Lib.hid (mul_one_any k hk w)
  have HC := Lib.hid hc0
  have hb2 : Below w.heap.size w (w.alloc (.cells (madeCells #[Value.int .i64 0] k) 3)) := (Below.refl _ _).alloc (Nat.le_refl _) _
  have hr2 : (w.alloc (.cells (madeCells #[Value.int .i64 0] k) 3)).heap[w.heap.size]? = some (.cells (repRow z 0 k).toArray 3 (0, 0)) := by rw [← repRow_start]; exact heap_alloc_new w _
  have HC2 := Lib.hid ((hb2.cell (p := ⟨b, off, none⟩) hlt).trans hc0)
  have HB2 := Lib.hid hb2
  have HR2 := Lib.hid hr2
  have HSZ := Lib.hid (show (Tryd.prog.info? 3).map (·.size) = some 1 by kernel_rfl)
  have HS1 := Lib.hid (show (List.replicate 1 (Value.int .i64 z)).length = Nat.min 1 k by rw [List.length_replicate]; show 1 = min 1 k; omega)
  have HS2 := Lib.hid (show ∀ j v, (List.replicate 1 (Value.int .i64 z))[j]? = some v → (w.alloc (.cells (madeCells #[Value.int .i64 0] k) 3)).cell? ((⟨b, off, none⟩ : Addr).add j) = some v from fun j u hj => by
    obtain ⟨hj1, rfl⟩ := repl_get hj
    obtain rfl : j = 0 := by omega
    rw [add_plain]; exact HC2.out)
  have HS3 := Lib.hid (show 0 + (List.replicate 1 (Value.int .i64 z)).length ≤ (repRow z 0 k).length by rw [repRow_len z (by omega), List.length_replicate]; omega)
  have HS4 := Lib.hid (show ∀ u ∈ List.replicate 1 (Value.int .i64 z), u.oneCell' = true by intro u hu; rw [List.mem_replicate] at hu; rw [hu.2]; rfl)
  clear hb2 hr2
  clear hcell h hc0
  go_enter Tryd.func46, Tryd.ntmps46
  go_wp2_with fail
  refine HM.out.mono ?_
  rintro e w1 ⟨rfl, rfl⟩
  go_wp2_with (first | (refine wpList_make_row _ rfl (.tmp 29) (.tmp 29) 61 rfl 3 i0 (.int .i64 0) Tryd.underlying61 hi hz0 hz1 rfl .i64 .i64 k rfl rfl (by rw [hz2]; omega) (by omega) ?_) | (refine wpList_copy_splice rfl (.tmp 31) (.tmp 32) 61 61 rfl 3 Tryd.underlying61 HSZ.out (some ⟨w.heap.size, 0, none⟩) (some ⟨b, off, none⟩) k k 1 c rfl rfl w.heap.size 0 (repRow z 0 k) 3 HR2.out (List.replicate 1 (.int .i64 z)) HS1.out (fun _ => ⟨rfl, _, rfl, HS2.out⟩) HS3.out HS4.out w.heap.size w HB2.out (Nat.le_refl _) ?_))
  obtain ⟨g, hg⟩ : ∃ g, g = w.heap.size := ⟨_, rfl⟩
  rw [← hg]
  have HG := Lib.hid hg
  intro w3 hr3 hb3
  have HR3 : Hid (w3.heap[g]? = some (.cells (repRow z 1 k).toArray 3 (0, 0))) := Lib.hid (hr3.out.trans (by rw [show [Value.int .i64 z] = List.replicate 1 (Value.int .i64 z) from rfl, repRow_copy z (by omega)]))
  have HB3 := Lib.hid hb3
  clear hr3 hb3 hg
  go_wp2_with fail
  go_loopw [8] (fun s8 wr => ∃ j : Nat, 1 ≤ j ∧ j ≤ k ∧ s8 = .int .i64 (j : Int) ∧ Hid (wr.heap[g]? = some (.cells (repRow z j k).toArray 3 (0, 0))) ∧ Hid (Below g w wr)) (fun s8 _ => k - (intOf s8).toNat)
  case atStart => exact ⟨1, by omega, by omega, by rfl, HR3, HB3⟩
  case round =>
    obtain ⟨j, hj1, hjk, rfl, HR, HB⟩ := hrel
    rename World => wr
    by_cases hlt2 : j < k
    · obtain ⟨m, hm⟩ : ∃ m, m = min j (k - j) := ⟨_, rfl⟩
      have hm1 : 1 ≤ m := by omega
      have hmj : m ≤ j := by omega
      have hmk : j + m ≤ k := by omega
      have HM := Lib.hid hm
      have hkj : ¬ k = j := by omega
      have hgw : g ≤ wr.heap.size := by rw [HG.out]; exact HB.out.size
      clear hm
      go_wp2_with fail
      have HA1 := Lib.hid (show (List.replicate m (Value.int .i64 z)).length = Nat.min j (k - j) by rw [List.length_replicate, HM.out]; first | done | rfl)
      have HA2 := Lib.hid (show ∀ i u, (List.replicate m (Value.int .i64 z))[i]? = some u → wr.drew.cell? ((⟨g, 0, none⟩ : Addr).add i) = some u from fun i u hj => by obtain ⟨hj1, rfl⟩ := repl_get hj; rw [add_plain, Nat.zero_add]; exact (cell_of_row wr g i _ _ (0, 0) HR.out).trans (repRow_get z (by omega)))
      have HA3 := Lib.hid (show j + (List.replicate m (Value.int .i64 z)).length ≤ (repRow z j k).length by rw [repRow_len z (by omega), List.length_replicate]; omega)
      have HA4 := Lib.hid (show ∀ u ∈ List.replicate m (Value.int .i64 z), u.oneCell' = true by intro u hu; rw [List.mem_replicate] at hu; rw [hu.2]; rfl)
      have HA5 := Lib.hid (HB.out.trans ((below_drew wr).mono hgw))
      have hsum : IntKind.i64.wrap ((j : Int) + (m : Int)) = ((j + m : Nat) : Int) := by rw [IntWalk.i64_in _ (by omega)]; omega
      go_region_law (refine step_copy_splice rfl (.tmp 41) (.tmp 44) 61 61 rfl 3 Tryd.underlying61 HSZ.out (some ⟨g, j, none⟩) (some ⟨g, 0, none⟩) (k - j) (k - j) j k (by go_simp) (by go_simp) g j (repRow z j k) 3 HR.out (List.replicate m (.int .i64 z)) HA1.out (fun _ => ⟨rfl, _, rfl, HA2.out⟩) HA3.out HA4.out g w HA5.out (Nat.le_refl _) ?_; intro w4 hr4 hb4)
      all_goals
        try go_simp
        clear hsum
        have HR4 : Hid (w4.heap[g]? = some (.cells (repRow z (j + m) k).toArray 3 (0, 0))) := Lib.hid (by rw [← repRow_copy z hmk]; exact hr4.out)
        have HB4 := Lib.hid hb4
        clear hr4 hb4
        go_wp2_with fail
        go_roundw
        case rel => exact ⟨j + m, by omega, by omega, rfl, HR4, HB4⟩
        case measure => simp [intOf]; omega
    · obtain rfl : j = k := by omega
      go_wp2_with fail
      go_ret
      exact ⟨_, rfl, ⟨by simp [iv], .inr ⟨g, j, _, rfl, Nat.le_of_eq HG.out.symm, HR.out, Nat.le_refl _, by unfold maxLen; omega, by simp [repRow_len], by rw [← repRow_full]; simp [repRow]⟩⟩, by rw [← HG.out]; exact HB.out⟩
end Go.Proofs.YtnfdojdppifmoaaDoor
