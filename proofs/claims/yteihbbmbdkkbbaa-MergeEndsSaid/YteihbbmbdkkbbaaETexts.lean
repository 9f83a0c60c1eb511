/- Texts held against the same texts. -/
import Derived.Test.YteihbbmbdkkbbaaETogether
import Derived.Laws.Cover1
namespace Go.Proofs.Yteihbbmbdkkbbaa
open Go.RowKit LabPlain Stab
set_option linter.unusedVariables false

/-- texts, where they lie -/
def TextsAt (w : World) (a : Option Addr) (n : Nat) (l : List ByteArray) : Prop := l.length = n ∧ n ≤ 9223372036854775807 ∧ (0 < n → ∃ b off, a = some ⟨b, off, none⟩ ∧ b < w.heap.size ∧ ∀ i, i < n → w.cell? ⟨b, off + i, none⟩ = some (.string (l.getD i ByteArray.empty)))
theorem TextsAt.ofOwn {w : World} {base : Nat} {v : Value} {l : List ByteArray} (h : w.ownsRow base 9 1 v l.length (strs l)) : ∃ a c, v = .slice a l.length c ∧ TextsAt w a l.length l := by
  have ho := h
  rcases h.2 with ⟨rfl, h0⟩ | ⟨g, cap, cur, rfl, hg, hh, hnc, hcap, hsz2, htake⟩
  · rw [h0]
    exact ⟨none, 0, rfl, h0, by omega, fun e => absurd e (Nat.lt_irrefl _)⟩
  · refine ⟨some ⟨g, 0, none⟩, cap, rfl, rfl, by unfold maxLen at hcap; omega, fun hp => ⟨g, 0, rfl, (ho.lt g rfl).2, fun i hi => ?_⟩⟩
    rw [Nat.zero_add, cell_of_row w _ _ _ _ (0, 0) hh]
    have h1 : (strs l)[i]? = some (.string (l.getD i ByteArray.empty)) := by simp [strs, hi]
    rw [← h1, ← htake, List.getElem?_take_of_lt (by omega), Array.getElem?_toList]
set_option maxRecDepth 100000 in
set_option maxHeartbeats 2000000 in
theorem sametexts_any {w : World} {a b : Option Addr} {n c d : Nat} {l : List ByteArray} (h1 : TextsAt w a n l) (h2 : TextsAt w b n l) :
    Calls Try.prog 24 #[.slice a n c, .slice b n d] w fun e w' => e = .returned (.bool true) ∧ Below w.heap.size w w' := by
  have hn := h1.2.1
  have H1 := Lib.hid h1.2.2
  have H2 := Lib.hid h2.2.2
  clear h1 h2
  go_enter Try.func24, Try.ntmps24
  go_wp2_with fail
  go_loopw [5, 13] (fun s5 s13 wr => ∃ k : Nat, k ≤ n ∧ s13 = .int .i64 (k : Int) ∧ Hid (Below w.heap.size w wr)) (fun _ s13 _ => n - (intOf s13).toNat)
  case atStart => exact ⟨0, by omega, rfl, Lib.hid (Below.refl _ _)⟩
  case round =>
    obtain ⟨k, hkn, rfl, HB⟩ := hrel
    rename World => wr
    by_cases hlt : k < n
    · have hlti : (k : Int) < (n : Int) := by omega
      obtain ⟨x, hx⟩ : ∃ x, x = l.getD k ByteArray.empty := ⟨_, rfl⟩
      obtain ⟨ba, oa, rfl, hba, hca⟩ := H1.out (by omega)
      obtain ⟨bb, ob, rfl, hbb, hcb⟩ := H2.out (by omega)
      have ca : wr.cell? ⟨ba, oa + k, none⟩ = some (.string x) := (HB.out.cell (p := ⟨ba, oa + k, none⟩) hba).trans (by rw [hca k hlt, hx])
      have cb : wr.cell? ⟨bb, ob + k, none⟩ = some (.string x) := (HB.out.cell (p := ⟨bb, ob + k, none⟩) hbb).trans (by rw [hcb k hlt, hx])
      have z : (x.toList == x.toList) = true := by simp
      have HB5 := Lib.hid HB.out.drew
      clear hx hba hca hbb hcb
      go_wp2_with fail
      go_region
      go_wp2_with fail
      go_roundw
      case rel => exact ⟨k + 1, by omega, by go_num, HB5⟩
      case measure => simp [intOf]; omega
    · obtain rfl : k = n := by omega
      go_wp2_with fail
      go_ret
      exact ⟨rfl, HB.out⟩
end Go.Proofs.Yteihbbmbdkkbbaa
