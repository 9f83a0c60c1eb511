/- The bytes of a text, made in a block of their own. -/
import Derived.Test.YtjafagfhkpaciaaKit
import Derived.Laws.IdiomStrings
namespace Go.Proofs.Ytjafagfhkpaciaa
open Go.RowKit
set_option linter.unusedVariables false

/-- a text's bytes as numbers -/
def numsOf (s : ByteArray) : List Nat := s.data.toList.map UInt8.toNat
theorem numsOf_len (s : ByteArray) : (numsOf s).length = s.size := by unfold numsOf; simp
theorem numsOf_lt (s : ByteArray) : ∀ x ∈ numsOf s, x < 256 := by
  intro x hx
  unfold numsOf at hx
  obtain ⟨b, _, rfl⟩ := List.mem_map.1 hx
  exact b.toNat_lt
theorem bs_numsOf (s : ByteArray) : bs (numsOf s) = s := by
  have h : (bs (numsOf s)).data.toList = s.data.toList := by
    unfold bs numsOf
    rw [strOfNums_data, List.map_map, List.map_map]
    conv => rhs; rw [← List.map_id s.data.toList]
    apply List.map_congr_left
    intro b _
    simp
  have h2 : (bs (numsOf s)).data = s.data := Array.toList_inj.1 h
  cases s
  cases hb : bs (numsOf _)
  simp only [hb] at h2
  rw [h2]
theorem bs_sizeS (xs : List Nat) : (bs xs).size = xs.length := by
  have h1 : (bs xs).data.size = xs.length := by
    rw [← Array.length_toList]
    unfold bs
    rw [strOfNums_data]; simp
  exact h1
theorem bytes_made (w : World) (s : ByteArray) (hs : s.size ≤ 1000000000) : ∃ w1 c, (convert 9 27 (.string s)).run Try.prog w = .ok (.slice (some ⟨w.heap.size, 0, none⟩) s.size c) w1 ∧
    BytesAt w1 (some ⟨w.heap.size, 0, none⟩) s.size c (numsOf s) ∧ Below w.heap.size w w1 ∧ w.heap.size < w1.heap.size := by
  have hr := run_bytes_of_string (P := Try.prog) w 9 27 5 s Try.underlying9 Try.underlying27 Try.underlying5
  have hb : Below w.heap.size w (w.drew.alloc (.cells (bytesRow s (grownCap w s.size 0 5)) 5 ((bytesRow s (grownCap w s.size 0 5)).size, (bytesRow s (grownCap w s.size 0 5)).size + 1))) := (Below.refl _ _).drew.alloc (Nat.le_refl _) _
  have hsz : w.heap.size < (w.drew.alloc (.cells (bytesRow s (grownCap w s.size 0 5)) 5 ((bytesRow s (grownCap w s.size 0 5)).size, (bytesRow s (grownCap w s.size 0 5)).size + 1))).heap.size := by
    rw [World.size_alloc]; exact Nat.lt_succ_self _
  refine ⟨_, _, hr, ⟨numsOf_len s, grownCap_ge w s.size 0 _, numsOf_lt s, by omega, ?_, (fun e => by cases e), fun hp => ⟨w.heap.size, 0, rfl, hsz, fun i hi => ?_⟩⟩, hb, hsz⟩
  · have := grownCap_le_maxLen w s.size 0 5 (by unfold maxLen; omega)
    unfold maxLen at this; exact this
  · have h1 := World.cell?_alloc_mark w.drew (bytesRow s (grownCap w s.size 0 5)) 5 ((bytesRow s (grownCap w s.size 0 5)).size, (bytesRow s (grownCap w s.size 0 5)).size + 1) i
    rw [Nat.zero_add]
    refine h1.trans ?_
    have hi2 : i < s.data.size := hi
    unfold bytesRow numsOf
    rw [Array.getElem?_append_left (by simpa using hi2)]
    simp
    have h3 : s.data[i]? = some s.data[i] := Array.getElem?_eq_getElem hi2
    exact ⟨s.data[i], h3, by rw [h3]; rfl⟩
theorem cell_of_heap {w w' : World} {b o : Nat} (h : w'.heap[b]? = w.heap[b]?) : w'.cell? ⟨b, o, none⟩ = w.cell? ⟨b, o, none⟩ := by
  unfold World.cell?
  simp only [h]
end Go.Proofs.Ytjafagfhkpaciaa
