/- The law's plain, walked: what it answers true of. -/
import Derived.Test.YteihbbmbdkkbbaaEEnts
import Derived.Test.YteihbbmbdkkbbaaETogether
namespace Go.Proofs.Yteihbbmbdkkbbaa
open Go.ChangeShapes Go.WideShapes Go.Deep Go.RowKit LabPlain Stab
set_option linter.unusedVariables false

def PlainTo (l : List EntV) (k : Nat) : Prop := k ≤ 61 ∧ (∀ i, i < k → 1 ≤ (l.getD i ent0).rows ∧ (l.getD i ent0).rows ≤ 2048) ∧ ∀ i j, i < j → j < k → (l.getD i ent0).key ≠ (l.getD j ent0).key
set_option maxRecDepth 100000 in
set_option maxHeartbeats 4000000 in
theorem plain_any {w : World} {a : Option Addr} {n c : Nat} {l : List EntV} (h : EntsAt w a n c l) :
    Calls Try.prog 22 #[.slice a n c] w fun e w' => ∃ r : Bool, e = .returned (.bool r) ∧ (r = true → PlainTo l n) ∧ Below w.heap.size w w' := by
  have hcap := h.cap
  have hcm := h.capm
  have HH := Lib.hid h
  have HL := Lib.hid h.len
  clear h
  go_enter Try.func22, Try.ntmps22
  go_wp2_with fail
  go_loopw [3, 4, 5, 8, 38] (fun s3 s4 s5 s8 s38 wr => ∃ k : Nat, k ≤ n ∧ s8 = .int .i64 (k : Int) ∧ Hid (PlainTo l k) ∧ Hid (Below w.heap.size w wr)) (fun _ _ _ s8 _ _ => n - (intOf s8).toNat)
  case atStart => exact ⟨0, by omega, rfl, Lib.hid ⟨by omega, fun i hi => absurd hi (Nat.not_lt_zero _), fun i j _ hj => absurd hj (Nat.not_lt_zero _)⟩, Lib.hid (Below.refl _ _)⟩
  case round =>
    obtain ⟨k, hkn, rfl, HP, HB⟩ := hrel
    rename World => wr
    by_cases hlt : k < n
    · have hlti : (k : Int) < (n : Int) := by omega
      have hkp := HH.out.kept HB.out
      obtain ⟨b, off, rfl, hltb, hcell⟩ := hkp.cells (by omega)
      obtain ⟨x, hx⟩ : ∃ x, x = l.getD k ent0 := ⟨_, rfl⟩
      obtain ⟨d0, d1, d2, d3, d4, d5, d6, d7, d8⟩ := EntsAt.nine hcell hlt hx
      have HX := Lib.hid hx
      have HCELL := Lib.hid hcell
      have HBX := Lib.hid (HB.out.alloc HB.out.size (.cells #[.string x.key, .int .i64 x.win, .string x.part, .int .i64 x.fst, .int .i64 x.lst, .int .i64 x.rows, .int .i64 x.size, .int .u32 x.sum, .int .i64 x.born] 57))
      have HAL := Lib.hid ((Below.refl wr.heap.size wr).alloc (Nat.le_refl _) (.cells #[.string x.key, .int .i64 x.win, .string x.part, .int .i64 x.fst, .int .i64 x.lst, .int .i64 x.rows, .int .i64 x.size, .int .u32 x.sum, .int .i64 x.born] 57))
      clear hkp hcell hx
      by_cases g0 : (60 : Int) < (k : Int)
      case pos =>
        go_wp2_with fail
        go_ret
        first | exact ⟨false, rfl, (fun h => by cases h), HBX.out⟩ | exact .inl ⟨rfl, HBX.out⟩
      case neg =>
        by_cases g1 : x.rows < 1
        case pos =>
          go_wp2_with fail
          go_ret
          first | exact ⟨false, rfl, (fun h => by cases h), HBX.out⟩ | exact .inl ⟨rfl, HBX.out⟩
        case neg =>
          by_cases g2 : 2048 < x.rows
          case pos =>
            go_wp2_with fail
            go_ret
            first | exact ⟨false, rfl, (fun h => by cases h), HBX.out⟩ | exact .inl ⟨rfl, HBX.out⟩
          case neg =>
            by_cases g3 : (100 : Int) < (x.key.size : Int)
            case pos =>
              go_wp2_with fail
              go_ret
              first | exact ⟨false, rfl, (fun h => by cases h), HBX.out⟩ | exact .inl ⟨rfl, HBX.out⟩
            case neg =>
              by_cases g4 : (300 : Int) < (x.part.size : Int)
              case pos =>
                go_wp2_with fail
                go_ret
                first | exact ⟨false, rfl, (fun h => by cases h), HBX.out⟩ | exact .inl ⟨rfl, HBX.out⟩
              case neg =>
                go_wp2_with fail
                go_loopw [5, 38] (fun s5 s38 wq => ∃ j : Nat, j ≤ k ∧ s38 = .int .i64 (j : Int) ∧ Hid (∀ i, i < j → (l.getD i ent0).key ≠ x.key) ∧ Hid (Below (wr.alloc (.cells #[.string x.key, .int .i64 x.win, .string x.part, .int .i64 x.fst, .int .i64 x.lst, .int .i64 x.rows, .int .i64 x.size, .int .u32 x.sum, .int .i64 x.born] 57)).heap.size (wr.alloc (.cells #[.string x.key, .int .i64 x.win, .string x.part, .int .i64 x.fst, .int .i64 x.lst, .int .i64 x.rows, .int .i64 x.size, .int .u32 x.sum, .int .i64 x.born] 57)) wq)) (fun _ s38 _ => k - (intOf s38).toNat)
                case atStart => exact ⟨0, by omega, rfl, Lib.hid (fun i hi => absurd hi (Nat.not_lt_zero _)), Lib.hid (Below.refl _ _)⟩
                case round =>
                  obtain ⟨j, hjk, rfl, HJ, HBQ⟩ := hrel
                  rename World => wq
                  by_cases hjl : j < k
                  · have hjli : (j : Int) < (k : Int) := by omega
                    have hjn : (j : Int) < (n : Int) := by omega
                    obtain ⟨y, hy⟩ : ∃ y, y = l.getD j ent0 := ⟨_, rfl⟩
                    have cy : wq.cell? ⟨b, off + j * 9, none⟩ = some (.string y.key) := by
                      have h1 := HCELL.out j (by omega) 0 (.string y.key) (by rw [← hy]; rfl)
                      have h2 := (HAL.out.trans (HBQ.out.mono HAL.out.size)).cell (p := ⟨b, off + j * 9, none⟩) hltb
                      exact h2.trans h1
                    have cx : wq.cell? ⟨wr.heap.size, 0, none⟩ = some (.string x.key) := box_cellE HBQ.out rfl
                    have HY := Lib.hid hy
                    clear hy
                    by_cases he : y.key = x.key
                    · have z : (y.key.toList == x.key.toList) = true := by rw [he]; simp
                      clear he
                      go_wp2_with fail
                      go_region
                      have HB5 := Lib.hid (HBX.out.trans (HBQ.out.drew.mono HBX.out.size))
                      go_wp2_with fail
                      go_ret
                      first | exact ⟨false, rfl, (fun h => by cases h), HB5.out⟩ | exact .inl ⟨rfl, HB5.out⟩
                    · have z : (y.key.toList == x.key.toList) = false := by rw [beq_eq_false_iff_ne]; exact fun e => he (toList_inj e)
                      have HJ5 := Lib.hid (show ∀ i, i < j + 1 → (l.getD i ent0).key ≠ x.key from fun i hi => by
                        by_cases e : i = j
                        · rw [e, ← HY.out]; exact he
                        · exact HJ.out i (by omega))
                      clear he
                      go_wp2_with fail
                      go_region
                      have HB5 := Lib.hid HBQ.out.drew
                      go_wp2_with fail
                      go_roundw
                      case rel => exact ⟨j + 1, by omega, by go_num, HJ5, HB5⟩
                      case measure => simp [intOf]; omega
                  · obtain rfl : j = k := by omega
                    have HP5 := Lib.hid (show PlainTo l (j + 1) from ⟨by omega, fun i hi => by
                      by_cases e : i = j
                      · rw [e, ← HX.out]; omega
                      · exact HP.out.2.1 i (by omega), fun i i' h1 h2 => by
                      by_cases e : i' = j
                      · rw [e, ← HX.out]; exact HJ.out i (by omega)
                      · exact HP.out.2.2 i i' h1 (by omega)⟩)
                    have HB5 := Lib.hid (HBX.out.trans (HBQ.out.mono HBX.out.size))
                    go_wp2_with fail
                    go_roundw
                    case rel => exact ⟨j + 1, by omega, by go_num, HP5, HB5⟩
                    case measure => simp [intOf]; omega
    · obtain rfl : k = n := by omega
      go_wp2_with fail
      go_ret
      first | exact ⟨true, rfl, (fun _ => HP.out), HB.out⟩ | exact .inr ⟨rfl, HP.out, HB.out⟩
end Go.Proofs.Yteihbbmbdkkbbaa
