/- The document's store, small functions: Key, At, Open, Tick, bad. -/
import Derived.Test.YtpgpgpbckjginaaUp
namespace Go.Proofs.Ytpgpgpbckjginaa
open Go.RowKit
set_option linter.unusedVariables false

/-- Key: it answers, and turns nothing -/
def KeySays (w : World) (e : Ending) (w' : World) : Prop := (∃ b, e = .returned (.bool b)) ∧ Below w.heap.size w w'
set_option maxRecDepth 100000 in
set_option maxHeartbeats 2000000 in
theorem key13_any (ky : ByteArray) (w : World) :
    Calls Try.prog 24 #[.string ky] w fun e w' => KeySays w e w' := by
  by_cases h1 : ky.size < 1
  case pos =>
    have z1 : (ky.size : Int) < 1 := by omega
    clear h1
    go_enter Try.func24, Try.ntmps24
    go_wp2_with fail
    go_ret
    exact ⟨⟨false, rfl⟩, Below.refl _ _⟩
  have z1 : ¬ (ky.size : Int) < 1 := by omega
  have z1b : decide ((ky.size : Int) < 1) = false := decide_eq_false z1
  by_cases h2 : 40 < ky.size
  case pos =>
    have z2 : (40 : Int) < (ky.size : Int) := by omega
    clear h1 h2
    go_enter Try.func24, Try.ntmps24
    go_wp2_with fail
    go_ret
    exact ⟨⟨false, rfl⟩, Below.refl _ _⟩
  have z2 : ¬ (40 : Int) < (ky.size : Int) := by omega
  have z2b : decide ((40 : Int) < (ky.size : Int)) = false := decide_eq_false z2
  clear h1
  go_enter Try.func24, Try.ntmps24
  go_wp2_with fail
  go_loopw [3] (fun s3 wr => ∃ k : Nat, k ≤ ky.size ∧ s3 = .int .i64 (k : Int) ∧ wr = w) (fun s3 _ => ky.size - (intOf s3).toNat)
  case atStart => exact ⟨0, by omega, rfl, rfl⟩
  case round =>
    obtain ⟨k, hk, rfl, rfl⟩ := hrel
    by_cases hkn : k < ky.size
    case neg =>
      have zk : ¬ (k : Int) < (ky.size : Int) := by omega
      go_wp2_with fail
      go_ret
      exact ⟨⟨true, rfl⟩, Below.refl _ _⟩
    case pos =>
      have zk : (k : Int) < (ky.size : Int) := by omega
      have zk0 : (0 : Int) ≤ (k : Int) := by omega
      have wk : IntKind.i64.wrap ((k : Int) + 1) = (k : Int) + 1 := IntWalk.i64_in _ (by omega)
      go_wp2_with fail
      all_goals first
        | (go_ret; exact ⟨⟨_, rfl⟩, Below.refl _ _⟩)
        | exact ⟨⟨k + 1, by omega, by go_num, trivial⟩, by simp [intOf]; omega⟩
theorem bad_any (x : Int) (w : World) :
    Calls Try.prog 25 #[.int .i64 x] w fun e w' => e = .returned (.agg #[.int .i64 x, .slice none 0 0, .int .i64 0, .int .i64 0, .int .i64 0, .slice none 0 0, .bool false]) ∧ Below w.heap.size w w' := by
  have q := fun j u (h : (#[.int .i64 x, .slice none 0 0, .int .i64 0, .int .i64 0, .int .i64 0, .slice none 0 0, .bool false] : Array Value)[j]? = some u) => cell_blk (heap_alloc_new w (.cells #[.int .i64 x, .slice none 0 0, .int .i64 0, .int .i64 0, .int .i64 0, .slice none 0 0, .bool false] 45)) h
  have q0 := q 0 _ rfl
  have q1 := q 1 _ rfl
  have q2 := q 2 _ rfl
  have q3 := q 3 _ rfl
  have q4 := q 4 _ rfl
  have q5 := q 5 _ rfl
  have q6 := q 6 _ rfl
  have HB := Lib.hid (show Below w.heap.size w (w.alloc (.cells #[.int .i64 x, .slice none 0 0, .int .i64 0, .int .i64 0, .int .i64 0, .slice none 0 0, .bool false] 45)) from (Below.refl _ _).alloc (Nat.le_refl _) _)
  clear q
  go_enter Try.func25, Try.ntmps25
  go_wp2_with fail
  exact bodyPost_ret (v := .agg #[.int .i64 x, .slice none 0 0, .int .i64 0, .int .i64 0, .int .i64 0, .slice none 0 0, .bool false]) (by simp [results, Try.results25, go_sem, q0, q1, q2, q3, q4, q5, q6]) rfl ⟨rfl, HB.out⟩
/-- the store: no objects; its uploads' numbers rise from one -/
def ucells (ky : ByteArray) (n : Nat) (f : Nat → Int) : List Value := (List.range n).flatMap fun i => [.int .i64 ((i + 1 : Nat) : Int), .int .i64 (f i), .string ky, .slice none 0 0]
def stA (us : Value) (n : Nat) (now : Int) : Array Value := #[.slice none 0 0, us, .int .i64 0, .int .i64 (n : Int), .int .i64 now]
theorem at_none {w : World} {SB : Nat} {us : Value} {n : Nat} {now : Int} (g : w.heap[SB]? = some (.cells (stA us n now) 34 (0, 0))) (ky : ByteArray) :
    Calls Try.prog 11 #[.pointer (some ⟨SB, 0, none⟩), .string ky] w fun e w' => e = .returned (.int .i64 (-1)) ∧ w' = w := by
  have c0 := cell_blk g (i := 0) (u := .slice none 0 0) rfl
  clear g
  go_enter Try.func11, Try.ntmps11
  go_wp2_with fail
  go_loopw [11] (fun s11 wr => s11 = .int .i64 0 ∧ wr = w) (fun _ _ => 0)
  case atStart => exact ⟨rfl, rfl⟩
  case round =>
    obtain ⟨rfl, rfl⟩ := hrel
    go_wp2_with fail
    go_ret
    exact ⟨rfl, rfl⟩
theorem ucells_id (ky : ByteArray) (n : Nat) (f : Nat → Int) (i : Nat) (h : i < n) : (ucells ky n f)[i * 4]? = some (.int .i64 ((i + 1 : Nat) : Int)) := by
  unfold ucells
  induction n with
  | zero => omega
  | succ n ih =>
    have hl : ∀ m, ((List.range m).flatMap fun i => ([.int .i64 ((i + 1 : Nat) : Int), .int .i64 (f i), .string ky, .slice none 0 0] : List Value)).length = m * 4 := by
      intro m
      induction m with
      | zero => rfl
      | succ m ihm => rw [List.range_succ, List.flatMap_append, List.length_append, ihm]; simp; omega
    rw [List.range_succ, List.flatMap_append]
    rcases Nat.lt_or_ge i n with g | g
    · rw [List.getElem?_append_left (by rw [hl]; omega)]
      exact ih g
    · obtain rfl : i = n := by omega
      rw [List.getElem?_append_right (by rw [hl]; omega), hl, Nat.sub_self]
      rfl
theorem ucells_snoc (ky : ByteArray) (n : Nat) (f : Nat → Int) (b : Int) : ucells ky (n + 1) (fun i => if i = n then b else f i) = ucells ky n f ++ [.int .i64 ((n + 1 : Nat) : Int), .int .i64 b, .string ky, .slice none 0 0] := by
  unfold ucells
  rw [List.range_succ, List.flatMap_append]
  congr 1
  · refine congrArg List.flatten (List.map_congr_left fun i hi => ?_)
    have hne : i ≠ n := by have := List.mem_range.1 hi; omega
    simp [hne]
  · simp
theorem ucells_one (ky : ByteArray) (n : Nat) (f : Nat → Int) : ∀ u ∈ ucells ky n f, u.oneCell' = true := by
  intro u hu
  unfold ucells at hu
  obtain ⟨i, _, hi⟩ := List.mem_flatMap.1 hu
  simp at hi
  rcases hi with rfl | rfl | rfl | rfl <;> rfl
set_option maxRecDepth 100000 in
set_option maxHeartbeats 1000000 in
theorem open_none {w : World} {SB base : Nat} {us : Value} {n : Nat} {now : Int} {ky : ByteArray} {f : Nat → Int} (g : w.heap[SB]? = some (.cells (stA us n now) 34 (0, 0))) (ho : w.ownsRow base 72 4 us n (ucells ky n f)) (hn : n ≤ 100) :
    Calls Try.prog 23 #[.pointer (some ⟨SB, 0, none⟩), .int .i64 0] w fun e w' => e = .returned (.int .i64 (-1)) ∧ w' = w := by
  obtain ⟨a, c, rfl⟩ : ∃ a c, us = .slice a n c := by
    rcases ho.2 with ⟨rfl, rfl⟩ | ⟨g, cap, cur, rfl, _⟩
    · exact ⟨_, _, rfl⟩
    · exact ⟨_, _, rfl⟩
  have c1 := cell_blk g (i := 1) (u := .slice a n c) rfl
  have hid : ∀ i, i < n → ∃ b, a = some ⟨b, 0, none⟩ ∧ w.cell? ⟨b, i * 4, none⟩ = some (.int .i64 ((i + 1 : Nat) : Int)) := fun i hi => by
    rcases ho.2 with ⟨_, h0⟩ | ⟨b, cap, cur, he, _, hh, _, _, _, htake⟩
    · omega
    · simp only [Value.slice.injEq, true_and] at he
      obtain ⟨rfl, rfl⟩ := he
      refine ⟨b, rfl, ?_⟩
      rw [cell_of_row w _ _ _ _ (0, 0) hh, ← ucells_id ky n f i hi, ← htake, List.getElem?_take_of_lt (by omega), Array.getElem?_toList]
  clear g ho
  go_enter Try.func23, Try.ntmps23
  go_wp2_with fail
  go_loopw [5, 11] (fun s5 s11 wr => ∃ i : Nat, i ≤ n ∧ s11 = .int .i64 (i : Int) ∧ wr = w) (fun _ s11 _ => n - (intOf s11).toNat)
  case atStart => exact ⟨0, by omega, rfl, rfl⟩
  case round =>
    obtain ⟨i, hi, rfl, rfl⟩ := hrel
    by_cases hin : i < n
    case neg =>
      have zi : ¬ (i : Int) < (n : Int) := by omega
      go_wp2_with fail
      go_ret
      exact ⟨rfl, rfl⟩
    case pos =>
      have zi : (i : Int) < (n : Int) := by omega
      have zi0 : (0 : Int) ≤ (i : Int) := by omega
      have wi : IntKind.i64.wrap ((i : Int) + 1) = (i : Int) + 1 := IntWalk.i64_in _ (by omega)
      obtain ⟨b, rfl, cid⟩ := hid i hin
      have zid : (((i + 1 : Nat) : Int) == 0) = false := by rw [beq_eq_false_iff_ne]; omega
      clear hid
      go_wp2_with fail
      go_roundw
      case rel => exact ⟨i + 1, by omega, by go_num, trivial⟩
      case measure => simp [intOf]; omega
/-- Tick(1) -/
theorem tick_one {w : World} {SB : Nat} {us : Value} {n : Nat} {now : Int} (g : w.heap[SB]? = some (.cells (stA us n now) 34 (0, 0))) (hn : 0 ≤ now ∧ now ≤ 1000000) :
    Calls Try.prog 22 #[.pointer (some ⟨SB, 0, none⟩), .int .i64 1] w fun e w' => e = .returned (.int .i64 0) ∧ w' = w.setCell ⟨SB, 4, none⟩ (.int .i64 (now + 1)) := by
  have c4 := cell_blk g (i := 4) (u := .int .i64 now) rfl
  have f4 := fro_blk g 4
  have w1 : IntKind.i64.wrap (1099511627775 - now) = 1099511627775 - now := IntWalk.i64_in _ (by omega)
  have w2 : IntKind.i64.wrap (now + 1) = now + 1 := IntWalk.i64_in _ (by omega)
  have z1 : ¬ 1099511627775 - now < 1 := by omega
  clear g
  go_enter Try.func22, Try.ntmps22
  go_wp2_with fail
  go_ret
  exact ⟨rfl, rfl⟩
end Go.Proofs.Ytpgpgpbckjginaa
