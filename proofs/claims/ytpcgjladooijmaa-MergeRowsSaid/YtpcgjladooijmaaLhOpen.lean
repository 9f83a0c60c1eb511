/- Lists of rows as a law's argument; the law's rows. -/
import Derived.Test.YtpcgjladooijmaaLhMerged
import Derived.Test.YtpcgjladooijmaaRowOpen
namespace Go.Proofs.Ytpcgjladooijmaa
open Go.ChangeShapes Go.WideShapes Go.Deep Go.RowKit LabPlain RecPlain Hp
set_option linter.unusedVariables false

set_option maxRecDepth 100000 in
theorem open_lists {H : Type} {enc : TypeId × Value → H} {W : World} {fuel : Nat} {a : Option Addr} {len cap : Nat} {x : DataW H × List MemPlace}
    (hf : DataW.trod enc Try.prog W 0 (fun _ => true) true fuel 58 [.slice a len cap] = some x) (hw : ∀ n, n ∈ DataW.weights Try.prog 58 x.1 → n ≤ reachBytes) : ∃ z : List LsV, ListsAt W a len cap z := by
  rcases open_slice Try.underlying58 hf with ⟨hcs, _⟩ | ⟨x0, l, c, m, n, D, Pl, hcs, _, hl, hm, hmm, hx, hi⟩
  · simp at hcs
    obtain ⟨rfl, rfl, rfl⟩ := hcs
    exact ⟨[], rfl, Nat.le_refl _, by omega, fun _ => rfl, fun h => absurd h (Nat.lt_irrefl 0), fun x hx => by cases hx⟩
  · simp at hcs
    obtain ⟨rfl, rfl, rfl⟩ := hcs
    rw [show Try.prog.cellsOf 47 = 1 from by kernel_rfl] at hi
    have hm2 : m = cap := by rw [hmm]; simp
    have hone : ∀ i : Nat, ∃ r : LsV, i < len → W.cell? (x0.add i) = some (.slice r.a r.n r.c) ∧ RowsAt W r.a r.n r.c r.rs := by
      intro i
      by_cases hil : i < len
      · obtain ⟨cs, hcc, ht⟩ := hi i (by omega)
        obtain ⟨ra, rn, rc, rfl⟩ : ∃ ra rn rc, cs = [.slice ra rn rc] := by
          rcases open_slice Try.underlying47 ht with ⟨h, _⟩ | ⟨y0, l2, c2, _, _, _, _, h, _⟩
          · exact ⟨_, _, _, h⟩
          · exact ⟨_, _, _, h⟩
        obtain ⟨rs, hrs⟩ := open_rowsR ht (fun n hn => hw n (by
          rw [hx]
          simp only [DataW.weights, Try.underlying58]
          exact List.mem_cons_of_mem _ (List.mem_append_left _ (weightsAll_mem (List.mem_map.2 ⟨i, List.mem_range.2 hil, rfl⟩) hn))))
        obtain ⟨_, hl1, hat⟩ := World.cells?_some hcc
        refine ⟨⟨ra, rn, rc, rs⟩, fun _ => ⟨?_, hrs⟩⟩
        have := hat 0 (by omega)
        rw [add_add] at this
        simpa using this
      · exact ⟨ls0, fun h => absurd h hil⟩
    obtain ⟨f, hF⟩ := Classical.skolem.1 hone
    have hget : ∀ i, i < len → ((List.range len).map f).getD i ls0 = f i := fun i h => by simp [h]
    refine ⟨(List.range len).map f, by simp, hl, by unfold maxLen at hm; exact hm, (fun e => by cases e), fun hp => ?_, fun y hy => ?_⟩
    · obtain ⟨b, off, spot⟩ := x0
      have hc := (hF 0 hp).1
      have hspot : spot = none := by simpa [Addr.add] using World.cell?_spot hc
      subst hspot
      refine ⟨b, off, rfl, ?_, fun i hi' => ?_⟩
      · have := World.block_lt_of_cell? W _ hc
        simpa [Addr.add] using this
      · rw [hget i hi']
        have h0 := (hF i hi').1
        rw [add_none] at h0
        exact h0
    · obtain ⟨i, hi', rfl⟩ := List.mem_map.1 hy
      exact (hF i (List.mem_range.1 hi')).2

/-- what the law's rows says: if it says yes, there are few -/
def LrSays (n : Nat) (ls : List LsV) (w : World) (e : Ending) (w' : World) : Prop := ∃ b, e = .returned (.bool b) ∧ w' = w ∧ (b = true → n ≤ 9 ∧ (ls.flatMap LsV.rs).length ≤ 80)
set_option maxRecDepth 100000 in
set_option maxHeartbeats 4000000 in
theorem lrows_any {w : World} {a : Option Addr} {n c : Nat} {ls : List LsV} (h : ListsAt w a n c ls) :
    Calls Try.prog 40 #[.slice a n c] w fun e w' => LrSays n ls w e w' := by
  have HH := Lib.hid h
  have HL := Lib.hid h.len
  have lcap := h.cap
  have lcm := h.capm
  clear h
  go_enter Try.func40, Try.ntmps40
  go_wp2_with fail
  go_loopw [3, 4, 5, 8] (fun s3 s4 s5 s8 wr => ∃ k S : Nat, s8 = .int .i64 (k : Int) ∧ s3 = .int .i64 (S : Int) ∧ k ≤ n ∧ k ≤ 9 ∧ S ≤ 80 ∧ Hid (((ls.take k).flatMap LsV.rs).length = S) ∧ wr = w) (fun _ _ _ s8 _ => n - (intOf s8).toNat)
  case atStart => exact ⟨0, 0, rfl, rfl, by omega, by omega, by omega, Lib.hid rfl, rfl⟩
  case round =>
    obtain ⟨k, S, rfl, rfl, hk, hk9, hS, HS, rfl⟩ := hrel
    by_cases hkn : k < n
    case pos =>
      have hki : (k : Int) < (n : Int) := by omega
      have hk00 : (0 : Int) ≤ (k : Int) := by omega
      have wk : IntKind.i64.wrap ((k : Int) + 1) = (k : Int) + 1 := IntWalk.i64_in _ (by omega)
      obtain ⟨lb, loff, rfl, hlt, hcell⟩ := HH.out.cells (by omega)
      have hc := hcell k hkn
      obtain ⟨x, hx⟩ : ∃ x, x = ls.getD k ls0 := ⟨_, rfl⟩
      rw [← hx] at hc
      have hxm : x ∈ ls := by rw [hx]; exact ls_mem (by have := HL.out; omega)
      have hxr := HH.out.rows x hxm
      have HTK := Lib.hid (show (ls.take (k + 1)).flatMap LsV.rs = (ls.take k).flatMap LsV.rs ++ x.rs from by
        have hkl : k < ls.length := by have := HL.out; omega
        rw [List.take_add_one, List.flatMap_append, show ls[k]?.toList = [x] from by rw [hx, List.getElem?_eq_getElem hkl]; simp [hkl]]
        simp)
      have HXL := Lib.hid hxr.len
      obtain ⟨xn, hxn⟩ : ∃ xn, xn = x.n := ⟨_, rfl⟩
      rw [← hxn] at hc HXL
      clear hcell hx hxr hxm hxn
      by_cases hx100 : xn ≤ 100
      case pos =>
        have z1 : (xn : Int) ≤ 100 := by omega
        have z2 : min (xn : Int) 100 = (xn : Int) := by omega
        have wS : IntKind.i64.wrap ((S : Int) + (xn : Int)) = (S : Int) + (xn : Int) := IntWalk.i64_in _ (by omega)
        by_cases hk8 : k ≤ 8
        case pos =>
          have z3 : (k : Int) ≤ 8 := by omega
          by_cases hS2 : S + xn ≤ 80
          case pos =>
            have z4 : (S : Int) + (xn : Int) ≤ 80 := by omega
            have HS2 := Lib.hid (show ((ls.take (k + 1)).flatMap LsV.rs).length = S + xn by rw [HTK.out, List.length_append, HS.out, HXL.out])
            go_wp2_with fail
            go_roundw
            case rel => exact ⟨k + 1, S + xn, by go_num, by go_num, by omega, by omega, by omega, HS2, trivial⟩
            case measure => simp [intOf]; omega
          case neg =>
            have z4 : ¬ (S : Int) + (xn : Int) ≤ 80 := by omega
            have z5 : 80 < (S : Int) + (xn : Int) := by omega
            go_wp2_with fail
            go_ret
            exact ⟨false, rfl, rfl, fun e => by cases e⟩
        case neg =>
          have z3 : ¬ (k : Int) ≤ 8 := by omega
          have z5 : 8 < (k : Int) := by omega
          go_wp2_with fail
          go_ret
          exact ⟨false, rfl, rfl, fun e => by cases e⟩
      case neg =>
        have z1 : ¬ (xn : Int) ≤ 100 := by omega
        have z2 : min (xn : Int) 100 = 100 := by omega
        have wS : IntKind.i64.wrap ((S : Int) + 100) = (S : Int) + 100 := IntWalk.i64_in _ (by omega)
        by_cases hk8 : k ≤ 8
        case pos =>
          have z3 : (k : Int) ≤ 8 := by omega
          have z5 : 80 < (S : Int) + 100 := by omega
          have z4 : ¬ (S : Int) + 100 ≤ 80 := by omega
          go_wp2_with fail
          go_ret
          exact ⟨false, rfl, rfl, fun e => by cases e⟩
        case neg =>
          have z3 : ¬ (k : Int) ≤ 8 := by omega
          have z5 : 8 < (k : Int) := by omega
          go_wp2_with fail
          go_ret
          exact ⟨false, rfl, rfl, fun e => by cases e⟩
    case neg =>
      have hki : ¬ (k : Int) < (n : Int) := by omega
      obtain rfl : k = n := by omega
      have HE := Lib.hid (show k ≤ 9 ∧ (ls.flatMap LsV.rs).length ≤ 80 from ⟨hk9, by
        have := HS.out
        rw [List.take_of_length_le (by have := HL.out; omega)] at this
        omega⟩)
      go_wp2_with fail
      go_ret
      exact ⟨true, rfl, rfl, fun _ => HE.out⟩
end Go.Proofs.Ytpcgjladooijmaa
