/- few and lives, of the laws on queries, walked. Written by genqlives.py. -/
import Derived.Test.YtmnfdkclkjeggaaQRAns
namespace Go.Proofs.Ytmnfdkclkjeggaa
open Go.ChangeShapes Go.WideShapes Go.Deep Go.RowKit LabPlain RecPlain Stab
set_option linter.unusedVariables false

set_option maxRecDepth 100000 in
set_option maxHeartbeats 2000000 in
theorem qfew_any {w : World} {a : Option Addr} {n c : Nat} {ms : List Mat} {fr to lim : Int} {tx : Bool} (h : MatsAt w a n c ms) {ra : Option Addr} {rn rc : Nat} {l : List RowV} (hr : RowsAt w ra rn rc l) :
    Calls Try.prog 40 #[.agg #[.int .i64 fr, .int .i64 to, .slice a n c, .int .i64 lim, .bool tx], .slice ra rn rc] w fun e w' => ∃ r : Bool, e = .returned (.bool r) ∧ (r = true → rn ≤ 60 ∧ n ≤ 20) ∧ Below w.heap.size w w' := by
  obtain ⟨w1, hw1⟩ : ∃ w1, w1 = w.alloc (.cells #[.int .i64 fr, .int .i64 to, .slice a n c, .int .i64 lim, .bool tx] 59) := ⟨_, rfl⟩
  have hb1 : Below w.heap.size w w1 := by rw [hw1]; exact (Below.refl _ _).alloc (Nat.le_refl _) _
  have HB1 := Lib.hid hb1
  have HW1 := Lib.hid hw1
  have HB1L := Lib.hid (show Below w.heap.size w (w.alloc (.cells #[.int .i64 fr, .int .i64 to, .slice a n c, .int .i64 lim, .bool tx] 59)) from by rw [← hw1]; exact hb1)
  have HR := Lib.hid (hr.kept hb1)
  have hrc := hr.cap
  have hrm := hr.capm
  have hcap := h.cap
  have hcm := h.capm
  clear h hr hb1 hw1
  by_cases c1 : (20 : Int) < (n : Int)
  case pos =>
    go_enter Try.func40, Try.ntmps40
    go_wp2_with fail
    go_ret
    first | exact ⟨false, rfl, (fun h => by cases h), HB1L.out⟩ | exact .inl ⟨rfl, HB1L.out⟩
  case neg =>
    by_cases c2 : (60 : Int) < (rn : Int)
    case pos =>
      go_enter Try.func40, Try.ntmps40
      go_wp2_with fail
      go_ret
      first | exact ⟨false, rfl, (fun h => by cases h), HB1L.out⟩ | exact .inl ⟨rfl, HB1L.out⟩
    case neg =>
      have HN := Lib.hid (show rn ≤ 60 ∧ n ≤ 20 from by omega)
      go_enter Try.func40, Try.ntmps40
      go_wp2_with fail
      rw [← HW1.out]
      go_loopw [6, 18] (fun s6 s18 wr => ∃ k : Nat, k ≤ rn ∧ s18 = .int .i64 (k : Int) ∧ Hid (Below w1.heap.size w1 wr)) (fun _ s18 _ => rn - (intOf s18).toNat)
      case atStart => exact ⟨0, by omega, rfl, Lib.hid (Below.refl _ _)⟩
      case round =>
        obtain ⟨k, hkn, rfl, HB⟩ := hrel
        rename World => wr
        by_cases hlt : k < rn
        · have hlti : (k : Int) < (rn : Int) := by omega
          have hkp := HR.out.kept HB.out
          obtain ⟨b, off, rfl, hltb, hcell⟩ := hkp.cells (by omega)
          obtain ⟨x, hx⟩ : ∃ x, x = l.getD k row0 := ⟨_, rfl⟩
          obtain ⟨d0, d1, d2, d3, d4, d5, d6, d7, d8⟩ := RowsAt.nine hcell hlt hx
          have HBX := Lib.hid (HB.out.alloc HB.out.size (.cells #[.int .i64 x.r.kind, .int .i64 x.r.time, .slice x.r.la x.r.ln x.r.lc, .string x.r.text, .int .i64 x.r.value, .bool x.r.null, .int .i64 x.who, .int .i64 x.sq, .int .i64 x.pl] 51))
          have HBZ := Lib.hid (HB1.out.trans (HBX.out.mono HB1.out.size))
          clear hkp hcell hx hltb
          by_cases c3 : (50 : Int) < (x.r.ln : Int)
          case pos =>
            go_wp2_with fail
            go_ret
            first | exact ⟨false, rfl, (fun h => by cases h), HBZ.out⟩ | exact .inl ⟨rfl, HBZ.out⟩
          case neg =>
            by_cases c4 : (2000 : Int) < (x.r.text.size : Int)
            case pos =>
              go_wp2_with fail
              go_ret
              first | exact ⟨false, rfl, (fun h => by cases h), HBZ.out⟩ | exact .inl ⟨rfl, HBZ.out⟩
            case neg =>
              go_wp2_with fail
              go_roundw
              case rel => exact ⟨k + 1, by omega, by go_num, HBX⟩
              case measure => simp [intOf]; omega
        · obtain rfl : k = rn := by omega
          go_wp2_with fail
          go_ret
          first | exact ⟨true, rfl, (fun _ => HN.out), HB1.out.trans (HB.out.mono HB1.out.size)⟩ | exact .inr ⟨rfl, HN.out.1, HN.out.2, HB1.out.trans (HB.out.mono HB1.out.size)⟩

def qrow : RowV := ⟨⟨1, 5, none, 0, 0, [], { data := #[120] }, 0, false⟩, 1, 1, 0⟩
def qone : QP := ⟨5, 9, [], 0, true⟩
theorem qone_right : qRight qone = true := by decide
theorem qone_keeps : keepS qone qrow.says = true := by
  have h : meetsB [] [] = true := rfl
  unfold keepS qone qrow RowV.says
  simp [h]
theorem qone_ans : ansS qone [qrow.says] = [qrow.says] := by
  unfold ansS
  rw [if_pos qone_right, textS_yes rfl, List.map_id, List.filter_cons_of_pos qone_keeps, List.filter_nil]
  unfold cutS
  rw [if_neg (by decide)]; rfl
set_option maxRecDepth 100000 in
set_option maxHeartbeats 2000000 in
theorem lives12_any (w : World) : Calls Try.prog 39 #[] w fun e w' => e = .returned (.bool true) ∧ Below w.heap.size w w' := by
  obtain ⟨w1, hw1⟩ : ∃ w1, w1 = w.alloc (.cells #[.int .i64 5, .int .i64 9, .slice none 0 0, .int .i64 0, .bool true] 59) := ⟨_, rfl⟩
  obtain ⟨w2, hw2⟩ : ∃ w2, w2 = w1.alloc (.cells #[.int .i64 1, .int .i64 5, .slice none 0 0, .string { data := #[120] }, .int .i64 0, .bool false, .int .i64 1, .int .i64 1, .int .i64 0] 51) := ⟨_, rfl⟩
  obtain ⟨w3, hw3⟩ : ∃ w3, w3 = w2.alloc (.cells #[.int .i64 1, .int .i64 5, .slice none 0 0, .string { data := #[120] }, .int .i64 0, .bool false, .int .i64 1, .int .i64 1, .int .i64 0] 51) := ⟨_, rfl⟩
  have s1 : w1.heap.size = w.heap.size + 1 := by rw [hw1]; exact Array.size_push _
  have s2 : w2.heap.size = w.heap.size + 1 + 1 := by rw [hw2, ← s1]; exact Array.size_push _
  have hb1 : Below w.heap.size w w1 := by rw [hw1]; exact (Below.refl _ _).alloc (Nat.le_refl _) _
  have hb2 : Below w1.heap.size w1 w2 := by rw [hw2]; exact (Below.refl _ _).alloc (Nat.le_refl _) _
  have hb3 : Below w2.heap.size w2 w3 := by rw [hw3]; exact (Below.refl _ _).alloc (Nat.le_refl _) _
  have hq : ∀ wr, Below w3.heap.size w3 wr → wr.cell? ⟨w.heap.size, 0, none⟩ = some (.int .i64 5) ∧ wr.cell? ⟨w.heap.size, 1, none⟩ = some (.int .i64 9) ∧ wr.cell? ⟨w.heap.size, 2, none⟩ = some (.slice none 0 0) ∧ wr.cell? ⟨w.heap.size, 3, none⟩ = some (.int .i64 0) ∧ wr.cell? ⟨w.heap.size, 4, none⟩ = some (.bool true) := fun wr hb => by
    have h1 : Below w1.heap.size w1 wr := hb2.trans ((hb3.trans (hb.mono hb3.size)).mono hb2.size)
    rw [hw1] at h1
    exact ⟨box_cell h1 rfl, box_cell h1 rfl, box_cell h1 rfl, box_cell h1 rfl, box_cell h1 rfl⟩
  have hx : ∀ wr, Below w3.heap.size w3 wr → ∀ j u, (#[.int .i64 1, .int .i64 5, .slice none 0 0, .string { data := #[120] }, .int .i64 0, .bool false, .int .i64 1, .int .i64 1, .int .i64 0] : Array Value)[j]? = some u → wr.cell? ⟨w.heap.size + 1, j, none⟩ = some u := fun wr hb j u hu => by
    have h1 : Below w2.heap.size w2 wr := hb3.trans (hb.mono hb3.size)
    rw [hw2] at h1
    rw [← s1]
    exact box_cell h1 hu
  have hat : RowsAt w3 (some ⟨w.heap.size + 1 + 1, 0, none⟩) 1 1 [qrow] := by
    refine ⟨rfl, Nat.le_refl _, by omega, (fun e => by cases e), fun x hx => ?_, fun x hx => ?_, fun _ => ⟨w.heap.size + 1 + 1, 0, rfl, ?_, fun i hi j u hu => ?_⟩⟩
    · rw [List.mem_singleton.1 hx]; unfold RowV.fits RecV.fits qrow; decide
    · rw [List.mem_singleton.1 hx]; exact LabsAt.empty _ _ _ (by decide) (fun _ => rfl)
    · rw [← s2, hw3]; exact (Array.getElem?_eq_some_iff.1 (heap_alloc_new w2 _)).1
    · obtain rfl : i = 0 := by omega
      rw [← s2, hw3, Nat.zero_mul, Nat.zero_add]
      exact box_cell (Below.refl _ _) (by rw [← List.getElem?_toArray] at hu; exact hu)
  have HW3 := Lib.hid (show w3 = ((w.alloc (.cells #[.int .i64 5, .int .i64 9, .slice none 0 0, .int .i64 0, .bool true] 59)).alloc (.cells #[.int .i64 1, .int .i64 5, .slice none 0 0, .string { data := #[120] }, .int .i64 0, .bool false, .int .i64 1, .int .i64 1, .int .i64 0] 51)).alloc (.cells #[.int .i64 1, .int .i64 5, .slice none 0 0, .string { data := #[120] }, .int .i64 0, .bool false, .int .i64 1, .int .i64 1, .int .i64 0] 51) from by rw [hw3, hw2, hw1])
  have HB3 := Lib.hid (hb1.trans ((hb2.trans (hb3.mono hb2.size)).mono hb1.size))
  have HQ := Lib.hid hq
  have HX := Lib.hid hx
  have HAT := Lib.hid hat
  clear hw1 hw2 hw3 s1 s2 hb1 hb2 hb3 hq hx hat
  go_enter Try.func39, Try.ntmps39
  go_wp2_with fail
  rw [← HW3.out]
  refine (answer_any (MatsAt.empty w3 none 0 (by omega) (fun _ => rfl)) HAT.out (by omega)).mono ?_
  rintro e w4 ⟨a4, n4, c4, rs, rfl, hat4, hs4, hn4, _, hb4⟩
  have hs5 : rs.map RowV.says = [qrow.says] := by rw [hs4]; exact qone_ans
  obtain ⟨r, rfl⟩ : ∃ r, rs = [r] := by
    match rs, hs5 with
    | [r], _ => exact ⟨r, rfl⟩
    | [], h => simp at h
    | _ :: _ :: _, h => simp at h
  have hl4 := hat4.len
  simp only [List.length_cons, List.length_nil] at hl4
  obtain rfl : n4 = 1 := by omega
  obtain ⟨b, off, rfl, hltb, hc⟩ := hat4.cells (by omega)
  have ht : r.r.text = { data := #[120] } := by
    simp only [List.map_cons, List.map_nil, List.cons.injEq, and_true] at hs5
    unfold RowV.says qrow at hs5
    simp only [Prod.mk.injEq] at hs5
    exact hs5.2.2.2.1
  have d3 : w4.cell? ⟨b, off + 3, none⟩ = some (.string { data := #[120] }) := by
    have := hc 0 (by omega) 3 _ rfl
    rw [Nat.zero_mul, Nat.add_zero] at this
    rw [this]
    show some (Value.string r.r.text) = _
    rw [ht]
  have HD3 := Lib.hid d3
  have HLB := Lib.hid hltb
  have HB4 := Lib.hid hb4
  obtain ⟨q0, q1, q2, q3, q4⟩ := HQ.out w4 hb4
  clear hat4 hs4 hs5 hl4 hc ht d3 hltb hb4
  go_wp2_with fail
  refine (qright_any (MatsAt.empty w4 none 0 (by omega) (fun _ => rfl))).mono ?_
  rintro e w5 ⟨rfl, hb5⟩
  have HB5 := Lib.hid (HB4.out.trans (hb5.mono HB4.out.size))
  have hR := qone_right
  unfold qone at hR
  rw [hR]
  have d3 := (hb5.cell (p := ⟨b, off + 3, none⟩) HLB.out).trans HD3.out
  have HD3 := Lib.hid d3
  have HLB := Lib.hid (Nat.lt_of_lt_of_le HLB.out hb5.size)
  clear q0 q1 q2 q3 q4 d3 hb5 hR
  obtain ⟨q0, q1, q2, q3, q4⟩ := HQ.out w5 HB5.out
  have x0 : w5.cell? ⟨w.heap.size + 1, 0, none⟩ = some (.int .i64 1) := HX.out w5 HB5.out 0 _ rfl
  have x1 : w5.cell? ⟨w.heap.size + 1, 1, none⟩ = some (.int .i64 5) := HX.out w5 HB5.out 1 _ rfl
  have x2 : w5.cell? ⟨w.heap.size + 1, 2, none⟩ = some (.slice none 0 0) := HX.out w5 HB5.out 2 _ rfl
  have x3 : w5.cell? ⟨w.heap.size + 1, 3, none⟩ = some (.string { data := #[120] }) := HX.out w5 HB5.out 3 _ rfl
  have x4 : w5.cell? ⟨w.heap.size + 1, 4, none⟩ = some (.int .i64 0) := HX.out w5 HB5.out 4 _ rfl
  have x5 : w5.cell? ⟨w.heap.size + 1, 5, none⟩ = some (.bool false) := HX.out w5 HB5.out 5 _ rfl
  have x6 : w5.cell? ⟨w.heap.size + 1, 6, none⟩ = some (.int .i64 1) := HX.out w5 HB5.out 6 _ rfl
  have x7 : w5.cell? ⟨w.heap.size + 1, 7, none⟩ = some (.int .i64 1) := HX.out w5 HB5.out 7 _ rfl
  have x8 : w5.cell? ⟨w.heap.size + 1, 8, none⟩ = some (.int .i64 0) := HX.out w5 HB5.out 8 _ rfl
  go_wp2_with fail
  refine (qKeeps_any (x := qrow) (MatsAt.empty w5 none 0 (by omega) (fun _ => rfl)) (LabsAt.empty _ _ _ (by decide) (fun _ => rfl))).mono ?_
  rintro e w6 ⟨rfl, hb6⟩
  have hK := qone_keeps
  have hR := qone_right
  unfold qone at hR hK
  rw [hR, hK, Bool.true_and]
  have d3 := (hb6.cell (p := ⟨b, off + 3, none⟩) HLB.out).trans HD3.out
  have HB6 := Lib.hid (HB3.out.trans ((HB5.out.trans (hb6.mono HB5.out.size)).mono HB3.out.size))
  clear hK hR hb6 q0 q1 q2 q3 q4
  go_wp2_with fail
  go_ret
  exact ⟨rfl, HB6.out⟩
end Go.Proofs.Ytmnfdkclkjeggaa
